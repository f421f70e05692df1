import PyProof.Rows.All
import Wide.All
import OpenK.AllK
import Wide.FinOn
import Lean
import PyProof.EqAt
import PyProof.EqKinds
import PyProof.TupleCall
import KE.KIntText
import PyProof.NeKinds
import PyProof.FString4
import PyProof.StrLawsRepr
import PyProof.ZipIter
import PyProof.TupleIter
import KE.KRevIter
import KE.KDictOf
import PyProof.AttrMissHeap
import KE.KItemsList
import PyProof.EnumIter
import PyProof.EnumMake
import PyProof.EnumFor
import PyProof.StrLawsTight
import PySem.Challenge.RW_deedwright_k46_thrown_away
set_option hygiene false
local macro_rules|`(117)=>`((by omega))|`(123)=>`((by decide))|`(127)=>`(Inv X pins σ H s)|`(130)=>`((model X.prog X.w))|`(131)=>`(⟨pe,λ _=>by exact zE pe λ _=>rfl⟩)|`(132)=>`(List (Addr×Obj))|`(133)=>`((by simp))|`(136)=>`(Nat->List D->Hh->Res D)|`(137)=>`((model prog w))|`(138)=>`((bnd rfl (zg q.hw rfl)))|`(139)=>`(⟨0,0,0,0⟩)|`(140)=>`([some (.int c),some (.int (M:Nat)),some (.str azS),some (.str teS),some (.loc H.length),some (.int (sz:Nat)),some (.int (c/8%(sz:Int))),some (.loc P.length),y8,y9,y10,y11])|`(144)=>`((λ _ hp=>nomatch hp))|`(145)=>`(["Walk","Doing","Standing"])|`(147)=>`((PySem.Str.ofString ".0",PySem.NameKind.local))
local macro_rules|`(149)=>`((M h d bl ts ns kn J))|`(150)=>`(⟨_,rfl⟩)|`(151)=>`((.loc H.length))|`(152)=>`(St H0 H w d l s r m c bd kvs co u e b ts ns kn rc pcs)|`(153)=>`((wk (.loc m) (.loc c) (.int bd) d l s r (u+1) .non))|`(155)=>`((.tup [v,ns]))|`(156)=>`((zv X NC scope C s H fp pn xe))|`(158)=>`((Pc.sd hs x kp::A.reverse))|`(159)=>`([.tup [z,kp],.tup [.tup [y,v],.non]])|`(160)=>`((((X++[O.lst (xs.take (hat (lv k)))])++[O.lst [cc]])++[O.lst (xs.take (hat (lv k))++[cc])]))|`(161)=>`((bnd rfl (bnd rfl (sK rfl))))|`(162)=>`(⟨rfl,I.turned (λ b o hb e=>eb b o hb e) f0 f1 f3 f4 f5⟩)|`(163)=>`(List D)|`(164)=>`((hat (lv k)))|`(165)=>`((by decide +kernel))
local macro_rules|`(166)=>`((by simp;omega))|`(167)=>`([O.lst (.loc hs::lf A),O.lst [.loc d],O.lst ((.loc hs::lf A)++[.loc d]),O.lst (lf B)])|`(168)=>`((((sIx items.size 0 lo:Nat):Int)==0&&(1:Int)==1&&(sIx items.size items.size hi-sIx items.size 0 lo)==items.size))|`(169)=>`((.int (k:Nat)))|`(170)=>`(Shared)|`(171)=>`((if (lv k).goes > 0 then (lv k).first+(lv k).en else v))|`(172)=>`((.loc hs::lf A))|`(173)=>`((Rep X.K))|`(175)=>`((x==("__debug__":Str)))|`(176)=>`((Y04 _))|`(177)=>`(⟨b.bl,b.hd,true⟩)|`(179)=>`((s.heap.objs.size+1))|`(180)=>`((.builtin "object.__class__"))|`(181)=>`((jl (Y0o rfl) rfl))|`(182)=>`((callI defs (n+1)))
local macro_rules|`(183)=>`((Option D))|`(184)=>`(∀ b∈ch,(b∈X.ex\/X.s₀.heap.objs.size<=b)/\b≠X.env.locals/\(∀ x c,X.env.cells.lookup x=some c->c≠b)/\∀ p∈X.pn++pins,p.1≠b)|`(185)=>`(Ctx H ml mi md mv m N lv)|`(186)=>`((gdl mn++dos (N.dd 0) (mn+1) 0 v))|`(187)=>`(((X.set wl (.lst (lf r))++[O.lst (zt l)]).set rr (.lst (rc0++zt l))))|`(190)=>`(((X2++[sdO x k2]).set l (.lst (vx++[.loc X2.length]))))|`(191)=>`(((k+1:Nat):Int))|`(195)=>`((.lst (lf pcs++[.loc d])))|`(196)=>`(At h w d l s r u nd cs bd e)|`(197)=>`((bnd rfl (bnd rfl fdk)))|`(198)=>`([some (.loc ml),some (.loc mi),some (.loc md),some (.loc mv),some (.int v),some 151,some (bdyT N lv v k),some 169,some (.loc a),e9])|`(201)=>`(ji X.env.scope scope X.N NC cap=true)|`(202)=>`((its.map λ i=>.tup [.str i.nm,i.d]))|`(203)=>`(⟨μ1,ρ,h1,r1,vk,p1⟩)|`(204)=>`((callI defs n))
local macro_rules|`(205)=>`((.ListComp elt [⟨tg,iter,ifs,0⟩] scope pos))|`(206)=>`((.inl rfl))|`(207)=>`(St H0 H w d l s r m c bd kvs co u .non b ts 155 kn rc pcs)|`(208)=>`(((H1++[ob (j3 its)])++[w0 H bd,.lst [],.lst [],.lst []]))|`(210)=>`((.lst xs))|`(211)=>`(List V)|`(212)=>`((notedBy 137 A env λ e s'=>R (.error e) s'))|`(213)=>`(Array (Option Value))|`(215)=>`((.int v))|`(216)=>`((λ ρ' h'=>r.run cl ρ' h'))|`(217)=>`((.lst (sgs++pl vx.length L)))|`(218)=>`([.loc d,.loc X1.length])|`(219)=>`((bnd rfl mdk))|`(220)=>`((Str×List D))|`(221)=>`((.loc m))
local macro_rules|`(222)=>`((.int i))|`(223)=>`((.lst (lf pcs)))|`(227)=>`((.loc X.length))|`(229)=>`((PySem.Str.ofString "_law_k",PySem.NameKind.local))|`(231)=>`((zh a _ _))|`(232)=>`(List (Option Nat))|`(233)=>`((.ref s.heap.objs.size))|`(234)=>`(((jw c).parts.map .int))|`(235)=>`(Int->List D->Hh->Prop)|`(237)=>`(List (Key×D))|`(238)=>`((H.length+3))|`(239)=>`((zv X NC scope H2.objs.size s₂ H₂ fp [] En))|`(240)=>`(⟨_,Y0h _ rfl,rfl,rfl⟩)|`(242)=>`([Pc.dg d0 b0 ts0 ns0 kn0])|`(244)=>`(FnOk X.prog X.w X.K X.mg X.base (CXs X.prog X.w) k f fd ps sp)
local macro_rules|`(247)=>`((bnd rfl (bnd rfl (sK xx3 rfl))))|`(248)=>`((.str x))|`(249)=>`((ha pins s σ H _ I h))|`(254)=>`(((X5++[dg b0 ts0 ns0 kn0]).set w (wk 221 (.loc c) (.int bd) X5.length l s r (u+1) .non)))
set_option hygiene true
set_option autoImplicit true
set_option relaxedAutoImplicit true
section
open PySem
abbrev XQ:=Value->Shared->Prop
abbrev XU:=List Value
abbrev XV:=List Addr
abbrev XW:=Str->Option Value
abbrev XX:=Nat->Value
abbrev XY:=List Str
abbrev XZ:=Program
abbrev XJ:=Array Value
end
set_option Elab.async false
set_option linter.all false
set_option maxRecDepth 100000
noncomputable section
section
open PySem PySem.Spec PyProof.Rows PySem.W PySem.Calls
abbrev Y00:=@PySem.W.Frag
abbrev Y01:=@List.length_append
abbrev Y02:=@Heap.get?_push_of_some
abbrev Y03:=@List.length_cons
abbrev Y04:=@Nat.le_refl
abbrev Y05:=@List.append_assoc
abbrev Y06:=@List.mem_cons_of_mem
abbrev Y07:=@List.mem_singleton
abbrev Y08:=@List.length_map
abbrev Y09:=@List.getElem?_append_right
abbrev Y0a:=@List.append_nil
abbrev Y0b:=@List.getElem?_set_self
abbrev Y0c:=@List.mem_cons_self
abbrev Y0d:=@List.map_append
abbrev Y0e:=@List.size_toArray
abbrev Y0f:=@List.getElem?_eq_some_iff
abbrev Y0g:=@List.mem_cons
abbrev Y0h:=@Heap.get?_push_size
abbrev Y0i:=@Heap.lt_size
abbrev Y0j:=@List.getElem?_eq_getElem
abbrev Y0k:=@List.length_set
abbrev Y0l:=@List.length_reverse
abbrev Y0m:=@Nat.ne_of_lt
abbrev Y0n:=@List.map_cons
abbrev Y0o:=@Nat.le_of_ble_eq_true
abbrev Y0p:=@Nat.lt_of_lt_of_le
abbrev Y0q:=@List.mem_append_right
abbrev Y0r:=@List.mem_append
abbrev Y0s:=@List.mem_map
abbrev Y0t:=@Bool.and_eq_true
abbrev Y0u:=@List.getElem?_map
abbrev Y0v:=@List.mem_append_left
abbrev Y0w:=@List.not_mem_nil
abbrev Y0x:=@Nat.sub_self
abbrev Y0y:=@Bool.false_ne_true
abbrev Y0z:=@PySem.mem_of_lookup
abbrev Y16:=@List.getElem?_append_left
abbrev Y17:=@List.getD_eq_getElem?_getD
abbrev Y18:=@List.set_append_right
abbrev Y19:=@List.nil_append
abbrev Y1a:=@PySem.W.kia_one
abbrev Y1b:=@PyProof.Rows.callWith_type1
abbrev Y1c:=@PySem.W.mg_of
abbrev Y1d:=@List.reverse_cons
abbrev Y1e:=@List.getElem?_set_ne
abbrev Y1f:=@Nat.lt_irrefl
abbrev Y1g:=@List.cons_append
abbrev Y1h:=@List.getElem?_cons_succ
abbrev Y1i:=@List.mem_of_getElem?
abbrev Y1j:=@Nat.zero_add
abbrev Y1k:=@List.map_map
abbrev Y1l:=@List.all_eq_true
abbrev Y1m:=@Int.toNat_of_nonneg
abbrev Y1n:=@Nat.le_trans
abbrev Y1o:=@List.nodup_cons
abbrev Y1p:=@Int.emod_lt_of_pos
abbrev Y1q:=@Bool.false_eq_true
abbrev Y1r:=@Nat.le_add_right
abbrev Y1s:=@Nat.add_sub_cancel_left
abbrev Y1t:=@List.any_cons
abbrev Y1u:=@Heap.size_push
abbrev Y1v:=@List.pairwise_map
abbrev Y1w:=@Nat.zero_le
abbrev Y1x:=@List.length_nil
abbrev Y1y:=@Nat.ne_of_gt
abbrev Y1z:=@Nat.le_of_lt
abbrev Y20:=@List.map_nil
abbrev Y21:=@PySem.F.slot_tuple_iterator_next
abbrev Y22:=@List.set_append_left
abbrev Y23:=@PyProof.Rows.slot_tuple_getitem
abbrev Y24:=@Int.emod_nonneg
abbrev Y25:=@Nat.add_assoc
abbrev Y26:=@Array.length_toList
abbrev Y27:=@List.range'_succ
abbrev Y28:=@PySem.W.cellsFrom_some
abbrev Y29:=@Nat.lt_of_le_of_lt
abbrev Y2a:=@List.find?_cons
abbrev Y2b:=@Int.toNat_natCast
abbrev Y2c:=@Heap.get?_none_of_le
abbrev Y2d:=@List.drop_eq_getElem_cons
abbrev Y2e:=@Nat.lt_succ_self
abbrev Y2f:=@List.lookup_cons
abbrev Y2g:=@List.filterMap_cons
abbrev Y2h:=@Option.isSome_iff_exists
abbrev Y2i:=@List.filterMap_map
abbrev Y2j:=@List.take_of_length_le
abbrev Y2k:=@Option.isSome_map
abbrev Y2l:=@List.nodup_nil
abbrev Y2m:=@PySem.F.slot_zip_next
abbrev Y2n:=@List.length_singleton
abbrev Y2o:=@List.filterMap_eq_map
abbrev Y2p:=@Heap.get?_update_self
abbrev Y2q:=@Option.bind_some
abbrev Y2r:=@List.length_take
abbrev Y2s:=@List.reverse_reverse
abbrev Y2t:=@Option.map_some
abbrev Y2u:=@Nat.le_succ
abbrev Y2v:=@List.forIn_cons
abbrev Y2w:=@List.forIn_nil
abbrev Y2x:=@PySem.W.kitx_list
abbrev Y2y:=@PySem.F.args_tuple_add_2
abbrev Y2z:=@Nat.lt_succ_of_lt
abbrev Y30:=@List.nodup_append
abbrev Y31:=@PySem.F.plainAttrs_list
abbrev Y32:=@PySem.F.entry_tuple_add
abbrev Y33:=@List.all_cons
abbrev Y34:=@Option.bind_none
abbrev Y35:=@List.mem_flatMap
abbrev Y36:=@PySem.F.slot_tuple_add
abbrev Y37:=@Option.map_eq_some_iff
abbrev Y38:=@List.find?_cons_of_pos
abbrev Y39:=@List.find?_cons_of_neg
abbrev Y3a:=@List.getElem?_reverse
abbrev Y3b:=@Array.getElem?_toList
abbrev Y3c:=@List.range_eq_range'
abbrev Y3d:=@List.getElem?_of_mem
abbrev Y3e:=@List.mem_range
abbrev Y3f:=@List.flatMap_append
abbrev Y3g:=@PySem.F.args_tuple_iterator_next_1
abbrev Y3h:=@PySem.W.callWith_K
abbrev Y3i:=@PySem.F.entry_tuple_iterator_next
abbrev Y3j:=@List.lookup_append
abbrev Y3k:=@List.length_range'
abbrev Y3l:=@List.mem_range'_1
abbrev Y3m:=@Bool.eq_false_iff
abbrev Y3n:=@Nat.lt_trans
abbrev Y3o:=@Nat.add_comm
abbrev Y3p:=@Int.add_zero
abbrev Y3q:=@List.length_drop
end
namespace L2
open PySem PySem.Spec PyProof.Rows
abbrev Key:=Sum Int Str
def JT:Key->Value->Bool
 | .inl k,v=>Value.isInt k v
 | .inr x,v=>Value.isStrOf x v
def z9b (w:World):Key->Int
 | .inl k=>hashInt k
 | .inr x=>hashStr w x
theorem zS:∀ {k:Key}{v:Value},JT k v=true->(∃ i t,k=Sum.inl i/\v=Value.int i t)\/(∃ x t,k=Sum.inr x/\v=Value.str x t)
 | .inl i,v,h=>by
  obtain ⟨t,e⟩:=Value.isInt_shape h;exact .inl ⟨i,t,rfl,e⟩
 | .inr x,v,h=>by
  obtain ⟨t,e⟩:=Value.isStrOf_shape h;exact .inr ⟨x,t,rfl,e⟩
theorem Gi (i:Int)(t:Tok):JT (.inl i) (.int i t)=true:=by simp [JT,Value.isInt]
theorem Gj (x:Str)(t:Tok):JT (.inr x) (.str x t)=true:=by simp [JT,Value.isStrOf]
theorem z4u (a b:Int):decide ((Sum.inl a:Key)=Sum.inl b)=(a==b):=by
 by_cases e:a=b
 ·subst e;simp
 ·have h:¬ (Sum.inl a:Key)=Sum.inl b:=λ q=>e (Sum.inl.inj q);rw [decide_eq_false h];exact (beq_eq_false_iff_ne.mpr e).symm
theorem z4v (a b:Str):decide ((Sum.inr a:Key)=Sum.inr b)=decide (a=b):=by
 by_cases e:a=b
 ·subst e;simp
 ·have h:¬ (Sum.inr a:Key)=Sum.inr b:=λ q=>e (Sum.inr.inj q);rw [decide_eq_false h,decide_eq_false e]
theorem z4w (a:Int)(b:Str):decide ((Sum.inl a:Key)=Sum.inr b)=false:=decide_eq_false (λ q=>nomatch q)
theorem z4x (a:Str)(b:Int):decide ((Sum.inr a:Key)=Sum.inl b)=false:=decide_eq_false (λ q=>nomatch q)
def zB (prog:XZ)(w:World):PySem.KeyKind prog w Key where
 is:=JT
 hash:=z9b w
 inj:=λ v a b ha hb=>by
  rcases zS ha with ⟨i,t,rfl,rfl⟩ | ⟨x,t,rfl,rfl⟩
  ·rcases zS hb with ⟨j,u,rfl,e⟩ | ⟨y,u,rfl,e⟩
   ·injection e with e1 _;rw [e1]
   ·exact nomatch e
  ·rcases zS hb with ⟨j,u,rfl,e⟩ | ⟨y,u,rfl,e⟩
   ·exact nomatch e
   ·injection e with e1 _;rw [e1]
 byValue:=λ k v h=>by
  rcases zS h with ⟨i,t,rfl,rfl⟩ | ⟨x,t,rfl,rfl⟩<;>rfl
 pyHash:=λ hv h=>by
  rcases zS hv with ⟨i,t,rfl,rfl⟩ | ⟨x,t,rfl,rfl⟩
  ·exact wpAny_pyHash_int h
  ·exact wpAny_pyHash_str h
 eqBool:=λ hu hv h=>by
  rcases zS hu with ⟨i,t,rfl,rfl⟩ | ⟨x,t,rfl,rfl⟩
  ·rcases zS hv with ⟨j,u,rfl,rfl⟩ | ⟨y,u,rfl,rfl⟩
   ·rw [z4u] at h;exact wpAny_eqBool_int h
   ·rw [z4w] at h;exact SeqAt.EqAt.int_str i t y u _ _ _ _ h
  ·rcases zS hv with ⟨j,u,rfl,rfl⟩ | ⟨y,u,rfl,rfl⟩
   ·rw [z4x] at h;exact SeqAt.EqAt.str_int x t j u _ _ _ _ h
   ·rw [z4v] at h;exact wpAny_eqBool_str h
 «strs»:=λ k x t v h=>by
  rcases zS h with ⟨i,u,rfl,e⟩ | ⟨y,u,rfl,e⟩
  ·exact nomatch e
  ·injection e with e1 _;subst e1;cases v<;>rfl
theorem QL (prog:XZ)(w:World)(i:Int)(t:Tok):(zB prog w).is (.inl i) (.int i t)=true:=Gi i t
theorem QM (prog:XZ)(w:World)(x:Str)(t:Tok):(zB prog w).is (.inr x) (.str x t)=true:=Gj x t
inductive V where
 | non | bl (b:Bool) | int (i:Int) | str (x:Str) | byt (b:Array UInt8) | flt (b:UInt64) | ref (a:Addr) | ty (n:String)
 deriving DecidableEq
def RelV:V->Value->Prop
 | .non,u=>u=Value.none
 | .bl b,u=>u=Value.bool b
 | .int i,u=>∃ t,u=Value.int i t
 | .str x,u=>∃ t,u=Value.str x t
 | .byt b,u=>∃ t,u=Value.bytes b t
 | .flt b,u=>∃ t,u=Value.float b t
 | .ref a,u=>u=Value.ref a
 | .ty n,u=>u=Value.type n
abbrev Vals:List V->List Value->Prop:=Paired RelV
theorem Vals.length {xs:211}{us:XU}(r:Vals xs us):xs.length=us.length:=Paired.length r
theorem Vals.get:∀ {xs:211}{us:XU}{i:Nat}{x:V},Vals xs us->xs[i]?=some x->∃ u,us[i]?=some u/\RelV x u
 | _,_,_,_,.nil,e=>by simp at e
 | _,_,0,_,.cons r _,e=>by simp at e;subst e;exact ⟨_,rfl,r⟩
 | _,_,i+1,x,.cons _ t,e=>by
  obtain ⟨u,h1,h2⟩:=Vals.get t (by simpa using e);exact ⟨u,by simpa using h1,h2⟩
theorem Vals.append:∀ {xs ys:211}{us ws:XU},Vals xs us->Vals ys ws->Vals (xs++ys) (us++ws)
 | _,_,_,_,.nil,s=>s
 | _,_,_,_,.cons r t,s=>.cons r (Vals.append t s)
theorem Vals.take:∀ {xs:211}{us:XU} (n:Nat),Vals xs us->Vals (xs.take n) (us.take n)
 | _,_,0,_=>.nil
 | _,_,_+1,.nil=>.nil
 | _,_,n+1,.cons r t=>.cons r (Vals.take n t)
theorem Vals.drop:∀ {xs:211}{us:XU} (n:Nat),Vals xs us->Vals (xs.drop n) (us.drop n)
 | _,_,0,r=>r
 | _,_,_+1,.nil=>.nil
 | _,_,n+1,.cons _ t=>Vals.drop n t
def RelO:Option V->Option Value->Prop
 | some v,some u=>RelV v u
 | none,none=>True
 | _,_=>False
def KV {κ:Type}:List (κ×V)->List (κ×Value)->Prop:=Paired λ (p:κ×V) (q:κ×Value)=>p.1=q.1/\RelV p.2 q.2
def kV:Key->V
 | .inl i=>.int i
 | .inr x=>.str x
inductive HO where
 | lst (xs:211)
 | tup (xs:211)
 | dK (kvs:List (Key×V)) | dT (kvs:List (List Key×V))
 | set (S:Int->Bool) (n:Nat)
 | ins (C dx:Addr) (fs:List (Str×V))
 | own (x:Addr)
 | xd (fs:List (Str×V))
 | met (f x:Addr)
 | rng (lo hi:Int)
 | frz (o:Obj) (u:HO)
 | tbl (ps:XJ)
 | ext (φ:Heap->Prop)
abbrev Hp:=Addr->Option HO
def upd (H:Hp)(a:Addr)(o:HO):Hp:=λ b=>if b=a then some o else H b
theorem zA {H:Hp}{a:Addr}{o:HO}:upd H a o a=some o:=by unfold upd;rw [if_pos rfl]
theorem zp {H:Hp}{a b:Addr}{o:HO}(h:b≠a):upd H a o b=H b:=by unfold upd;rw [if_neg h]
theorem z72 {H:Hp}{a b:Addr}{o u:HO}(h:H a=some o)(h':H b=some u)(d:o≠u):a≠b:=by
 intro e;subst e;rw [h] at h';exact d (Option.some.inj h')
theorem jy {H:Hp}{a b:Addr}{o:HO}(h:H a=some o)(h':H b=none):a≠b:=by
 intro e;subst e;rw [h] at h';cases h'
section
variable (P:XZ)(w:World)
def ObjOk (H:Hp)(h:Heap)(a:Addr):HO->Prop
 | .lst xs=>xs.length<=sizeLine/\∃ (its:XU) (n:Nat),Vals xs its/\h.get? a=some { cls:=.type "list",data:=.seq its.toArray n }
 | .tup xs=>xs.length<=sizeLine/\∃ its:List Value,Vals xs its/\IsTup h a its.toArray
 | .dK kvs=>kvs.length<=sizeLine/\(a==sysModules)=false/\∃ vs,KV kvs vs/\h.DictOf (zB P w) a vs
 | .dT kvs=>kvs.length<=sizeLine/\(a==sysModules)=false/\∃ xs:List (List Key×Addr×Value),
   Paired (λ (p:List Key×V) (q:List Key×Addr×Value)=>p.1=q.1/\H q.2.1=some (.tup (p.1.map kV))/\RelV p.2 q.2.2) kvs xs /\
   ∃ o es ep,h.get? a=some o/\o.ExactDict/\o.data=.dict es ep/\es.toList=xs.map (entryOfKey (tupleKind (zB P w)))/\(xs.map (·.1)).Nodup
 | .set S n=>h.SetOf (intKind P w) a S n
 | .ins C dx fs=>H dx=some (.own a)/\fs.length<=1000/\dx≠a/\h.get? a=some (PySem.W.instObj C dx) /\
   ∃ mA,h.Ns1 dx mA/\(∀ f,RelO (fs.lookup f) (mA f))/\PySem.Within mA (fs.map (·.1))
 | .own _=>∃ o,h.get? a=some o
 | .xd fs=>∃ mA,h.Ns1 a mA/\∀ f,RelO (fs.lookup f) (mA f)
 | .rng lo hi=>∃ t u v,h.get? a=some { cls:=.type "range",data:=.fields #[.int lo t,.int hi u,.int 1 v] }
 | .frz o u=>h.get? a=some o/\ObjOk H h a u
 | .tbl ps=>h.get? a=some { cls:=.none,data:=.fields ps }
 | .met f x=>h.get? a=some (PySem.W.methodObj (.ref f) (.ref x))
 | .ext φ=>φ h/\(∃ o,h.get? a=some o)/\∀ h1 h2:Heap,φ h1->(∀ o,h1.get? a=some o->h2.get? a=some o)->φ h2
def HOk (H:Hp)(h:Heap):Prop:=∀ a o,H a=some o->ObjOk P w H h a o
end
section
variable {P:XZ}{w:World}{H H':Hp}{h h':Heap}{a:Addr}{o:HO}
theorem ObjOk.lt (x:ObjOk P w H h a o):a<h.objs.size:=by
 cases o with
 | lst xs=>obtain ⟨_,_,_,_,e⟩:=x;exact Y0i e
 | tup xs=>obtain ⟨_,_,_,p⟩:=x;exact p.lt
 | dK kvs=>obtain ⟨_,_,_,_,o,_,_,e,_⟩:=x;exact Y0i e
 | dT kvs=>obtain ⟨_,_,_,_,o,_,_,e,_⟩:=x;exact Y0i e
 | set S n=>obtain ⟨o,_,_,_,e,_⟩:=x;exact Y0i e
 | ins C dx fs=>obtain ⟨_,_,_,e,_⟩:=x;exact Y0i e
 | own y=>obtain ⟨_,e⟩:=x;exact Y0i e
 | xd fs=>obtain ⟨_,⟨_,_,_,e,_⟩,_⟩:=x;exact Y0i e
 | rng lo hi=>obtain ⟨_,_,_,e⟩:=x;exact Y0i e
 | frz ob u=>obtain ⟨e,_⟩:=x;exact Y0i e
 | tbl ps=>exact Y0i (show h.get? a=some _ from x)
 | met f y=>exact Y0i (show h.get? a=some _ from x)
 | ext φ=>obtain ⟨_,⟨_,e⟩,_⟩:=x;exact Y0i e
theorem Paired.mapP {α β:Type}{F G:α->β->Prop}:∀ {l₁:List α}{l₂:List β},Paired F l₁ l₂->(∀ a b,F a b->G a b)->Paired G l₁ l₂
 | _,_,.nil,_=>.nil
 | _,_,.cons r t,f=>.cons (f _ _ r) (Paired.mapP t f)
theorem ObjOk.stay (x:ObjOk P w H h a o)(k:∀ b u,(b=a\/H b=some (.own a))->h.get? b=some u->h'.get? b=some u)
  (ho:∀ b,H b=some (.own a)->H' b=some (.own a)) (ht:∀ b xs,H b=some (.tup xs)->H' b=some (.tup xs)):ObjOk P w H' h' a o:=by
 induction o with
 | lst xs=>obtain ⟨z,its,n,r,e⟩:=x;exact ⟨z,its,n,r,k _ _ 206 e⟩
 | tup xs=>obtain ⟨z,its,r,ob,e,c⟩:=x;exact ⟨z,its,r,ob,k _ _ 206 e,c⟩
 | dK kvs=>obtain ⟨z,y,vs,r,ob,es,ep,e,c⟩:=x;exact ⟨z,y,vs,r,ob,es,ep,k _ _ 206 e,c⟩
 | dT kvs =>
  obtain ⟨z,y,xs,r,ob,es,ep,e,c⟩:=x;exact ⟨z,y,xs,Paired.mapP r λ p q z=>⟨z.1,ht _ _ z.2.1,z.2.2⟩,ob,es,ep,k _ _ 206 e,c⟩
 | set S n=>obtain ⟨ob,es,ep,t,e,c⟩:=x;exact ⟨ob,es,ep,t,k _ _ 206 e,c⟩
 | ins C dx fs =>
  obtain ⟨d,z,ne,e,mA,⟨od,es,ep,e2,c⟩,r⟩:=x;exact ⟨ho _ d,z,ne,k _ _ 206 e,mA,⟨od,es,ep,k _ _ (.inr d) e2,c⟩,r⟩
 | own y=>obtain ⟨ob,e⟩:=x;exact ⟨ob,k _ _ 206 e⟩
 | xd fs=>obtain ⟨mA,⟨od,es,ep,e,c⟩,r⟩:=x;exact ⟨mA,⟨od,es,ep,k _ _ 206 e,c⟩,r⟩
 | rng lo hi=>obtain ⟨t,u,v,e⟩:=x;exact ⟨t,u,v,k _ _ 206 e⟩
 | frz ob u ih=>obtain ⟨e,q⟩:=x;exact ⟨k _ _ 206 e,ih q⟩
 | tbl ps =>
  have e:=x;show h'.get? a=some { cls:=.none,data:=.fields ps };exact k a _ 206 e
 | met f y =>
  have e:=x;show h'.get? a=some (PySem.W.methodObj (.ref f) (.ref y));exact k a _ 206 e
 | ext φ=>obtain ⟨p,⟨o,e⟩,st⟩:=x;exact ⟨st _ _ p λ o q=>k _ _ 206 q,⟨o,k _ _ 206 e⟩,st⟩
theorem HOk.lt (x:HOk P w H h)(e:H a=some o):a<h.objs.size:=(x a o e).lt
theorem HOk.fresh (x:HOk P w H h)(e:h.objs.size<=a):H a=none:=by
 cases q:H a with
 | none=>rfl
 | some u=>exact absurd (Y0p (x.lt q) e) (Y1f _)
theorem HOk.kept (x:HOk P w H h)(k:∀ b u,h.get? b=some u->h'.get? b=some u):HOk P w H h':=λ a o e =>
 (x a o e).stay (λ b u _ q=>k b u q) (λ _ q=>q) λ _ _ q=>q
theorem HOk.laid (x:HOk P w H h)(k:∀ b u,h.get? b=some u->h'.get? b=some u)(hp:h.objs.size<=a)(new:ObjOk P w (upd H a o) h' a o):HOk P w (upd H a o) h':=λ b u e=>by
 have hn:=x.fresh hp;by_cases hb:b=a
 ·subst hb;rw [zA] at e;cases e;exact new
 ·rw [zp hb] at e;exact (x b u e).stay (λ c v _ q=>k c v q) (λ c q=>by rw [zp (jy q hn)];exact q) λ c xs q=>by rw [zp (jy q hn)];exact q
end
def Rd (H:Hp)(a:Addr)(u:HO):Prop:=H a=some u\/∃ o,H a=some (.frz o u)
theorem Rd.ok {P:XZ}{w:World}{H:Hp}{h:Heap}{a:Addr}{u:HO}(r:Rd H a u)(x:HOk P w H h):ObjOk P w H h a u:=by
 rcases r with r | ⟨o,r⟩
 ·exact x a u r
 ·obtain ⟨_,q⟩:=x a _ r;exact q
def Mut:Option HO->Prop
 | some (.lst _)=>True
 | some (.dK _)=>True
 | some (.dT _)=>True
 | some (.set _ _)=>True
 | some (.ins _ _ _)=>True
 | some (.ext _)=>True
 | _=>False
section
variable {P:XZ}{w:World}{H:Hp}{h h':Heap}{x e:Addr}{o':HO}
theorem HOk.write (ok:HOk P w H h)(mu:Mut (H x))(he:e=x\/H e=some (.own x))(k:∀ b u,b≠e->h.get? b=some u->h'.get? b=some u)(heo:∃ u,h'.get? e=some u)
  (new:ObjOk P w (upd H x o') h' x o'):HOk P w (upd H x o') h':=λ b u q=>by
 have nown:∀ c y,H c=some (.own y)->c≠x:=λ c y r z=>by subst z;rw [r] at mu;exact mu
 have ntup:∀ c xs,H c=some (.tup xs)->c≠x:=λ c xs r z=>by subst z;rw [r] at mu;exact mu
 by_cases hb:b=x
 ·subst hb;rw [zA] at q;cases q;exact new
 ·rw [zp hb] at q;by_cases hbe:b=e
  ·have q':H b=some (.own x):=by
    rcases he with z | z
    ·exact absurd (hbe.trans z) hb
    ·rw [hbe];exact z
   rw [q] at q';cases q';obtain ⟨v,hv⟩:=heo;exact ⟨v,by rw [hbe];exact hv⟩
  ·refine (ok b u q).stay (λ c v hc r=>k c v ?_ r) (λ c r=>by rw [zp (nown c b r)];exact r) λ c xs r=>by rw [zp (ntup c xs r)];exact r
   rcases hc with rfl | hc
   ·exact hbe
   ·rintro rfl
    rcases he with z | z
    ·exact nown c b hc z
    ·rw [hc] at z;cases z;exact hb rfl
end
structure Un (fs ex:XV)(H H':Hp)(h h':Heap):Prop where
 keep:∀ b o,h.get? b=some o->H b=none->b∉fs->b∉ex->h'.get? b=some o
 slot:∀ b o,h.get? b=some o->H b=none->b∈fs->b∉ex->∃ sl,h'.get? b=some { o with slots:=sl }
 free:∀ b o,h.get? b=some o->H b=none->b∉ex->H' b=none
 there:∀ b o,h.get? b=some o->b∉ex->∃ o',h'.get? b=some o'
 tups:∀ b xs,H b=some (.tup xs)->H' b=some (.tup xs)
 frzs:∀ b o u,H b=some (.frz o u)->H' b=some (.frz o u)
 tbls:∀ b ps,H b=some (.tbl ps)->∃ more,H' b=some (.tbl (ps++more))
section
variable {fs fs' ex ex':XV}{H H1 H2:Hp}{h h1 h2 h':Heap}{a x e:Addr}{o:HO}
theorem Un.any (u:Un fs ex H H1 h h1){b:Addr}{ob:Obj}(q:h.get? b=some ob)(n:H b=none)(hx:b∉ex):∃ sl,h1.get? b=some { ob with slots:=sl }:=by
 by_cases hb:b∈fs
 ·exact u.slot b ob q n hb hx
 ·exact ⟨ob.slots,u.keep b ob q n hb hx⟩
theorem Un.kept (k:∀ b u,h.get? b=some u->h'.get? b=some u):Un fs ex H H h h' :=
 ⟨λ b ob q _ _ _=>k b ob q,λ b ob q _ _ _=>⟨ob.slots,k b ob q⟩,λ _ _ _ n _=>n,λ b ob q _=>⟨ob,k b ob q⟩,λ _ _ q=>q,λ _ _ _ q=>q,λ _ ps q=>⟨#[],by rw [q];simp⟩⟩
theorem Un.refl:Un fs ex H H h h:=Un.kept λ _ _ q=>q
theorem Un.laid (k:∀ b u,h.get? b=some u->h'.get? b=some u)(hp:h.objs.size<=a)(hn:H a=none):Un fs ex H (upd H a o) h h' where
 keep:=λ b u q _ _ _=>k b u q
 slot:=λ b u q _ _ _=>⟨u.slots,k b u q⟩
 free:=λ b u q n _=>by rw [zp (Y0m (Y0p (Y0i q) hp))];exact n
 there:=λ b u q _=>⟨u,k b u q⟩
 tups:=λ b xs q=>by rw [zp (jy q hn)];exact q
 frzs:=λ b u xs q=>by rw [zp (jy q hn)];exact q
 tbls:=λ b ps q=>⟨#[],by rw [zp (jy q hn),q];simp⟩
theorem Un.write (mu:Mut (H x))(he:e=x\/H e=some (.own x))(k:∀ b u,b≠e->h.get? b=some u->h'.get? b=some u)(heo:∃ u,h'.get? e=some u):Un fs ex H (upd H x o) h h':=by
 have hx:∀ b,H b=none->b≠x:=λ b n z=>by subst z;rw [n] at mu;exact mu
 have hb:∀ b,H b=none->b≠e:=λ b n z=>by
  subst z;rcases he with r | r
  ·exact hx b n r
  ·rw [n] at r;cases r
 have hm:∀ b u,H b=some u->¬ Mut (some u)->b≠x:=λ b u q nm z=>by subst z;rw [q] at mu;exact nm mu
 refine ⟨λ b u q n _ _=>k b u (hb b n) q,λ b u q n _ _=>⟨u.slots,k b u (hb b n) q⟩,λ b u q n _=>by rw [zp (hx b n)];exact n,λ b u q _=>?_,
  λ b xs q=>by rw [zp (hm b _ q λ z=>z)];exact q,λ b u xs q=>by rw [zp (hm b _ q λ z=>z)];exact q,λ b ps q=>⟨#[],by rw [zp (hm b _ q λ z=>z),q];simp⟩⟩
 by_cases hbe:b=e
 ·subst hbe;exact heo
 ·exact ⟨u,k b u hbe q⟩
end
def trk (h:Heap)(H:Hp):List Addr:=(List.range h.objs.size).filter λ a=>(H a).isSome
def WF (h:Heap)(H:Hp):Heap:=PySem.W.hideAll h (trk h H)
theorem Gk (h:Heap)(H:Hp):(WF h H).objs.size=h.objs.size:=PySem.W.hideAll_size _ _
theorem Ov {h:Heap}{H:Hp}{b:Addr}{o:Obj}(e:h.get? b=some o)(n:H b=none):(WF h H).get? b=some o :=
 PySem.W.hideAll_get _ e λ hm=>by
  have q:=(List.mem_filter.mp hm).2;rw [n] at q;simp at q
theorem z0x {h:Heap}{H:Hp}{b:Addr}{o:Obj}(e:(WF h H).get? b=some o):h.get? b=some o/\H b=none:=by
 have e':=PySem.W.of_hideAll (trk h H) e;refine ⟨e',?_⟩;cases q:H b with
 | none=>rfl
 | some x =>
  have hm:b∈trk h H:=List.mem_filter.mpr ⟨Y3e.mpr (Y0i e'),by simp [q]⟩;have z:(WF h H).get? b=none:=PySem.W.hideAll_none (trk h H) hm;rw [z] at e;cases e
def z0y (g h:Heap)(L:Addr):List (Addr×Obj):=(List.range h.objs.size).filterMap λ a=>if a=L\/(g.get? a).isSome=true then none else (h.get? a).map λ o=>(a,o)
def ym (g h:Heap)(L d:Addr):List (Addr×Obj):=(z0y g h L).filter λ p=>decide (p.1≠d)
structure Mod (K:Y00)(mg:XW)(base:Heap):Prop where
 kin:K.In base
 glob:base.Ns mainGlobals mg
 blt:∃ mb,base.Ns builtinsNs mb/\∀ x:Str,x≠"__name__"->mb x=bootBuiltins x
 nolimit:base.NoLimit
structure Cx where
 prog:Program
 w:World
 K:Y00
 mg:Str->Option Value
 base:Heap
 A:Around
 N:List Str
 s₀:Shared
 H₀:Hp
 env:Env
 outer:List Env
 stack:List Env
 ex:List Addr
 fn:Str->Bool
 calm:Bool
 pn:List (Addr×Obj)
 xe:Value->Shared->Prop
def frs (l:List Env):List Addr:=l.filterMap (·.frame)
abbrev Cx.fs (X:Cx):List Addr:=frs X.outer
def Vis (sc:Scope)(x:Str):Prop:=sc.names.lookup x=some .local\/sc.names.lookup x=some .cell\/sc.names.lookup x=some .free
def Loc (sc:Scope)(x:Str):Prop:=sc.names.lookup x=some .local\/sc.names.lookup x=some .cell
def z9c (env:Env)(h:Heap)(m:XW)(x:Str)(u:Value):Prop :=
 (env.kindOf x=some .local/\m x=some u)\/((env.kindOf x=some .cell\/env.kindOf x=some .free)/\∃ c,env.cells.lookup x=some c/\h.IsCell c (some u))
structure Cx.Ok (X:Cx):Prop where
 mod:Mod X.K X.mg X.base
 kind:X.env.scope.kind=.function
 glob:X.env.globals=mainGlobals
 blt:X.env.builtins=builtinsNs
 above:X.s₀.heap.objs.size<=X.env.locals
 inj:∀ x y c,X.env.cells.lookup x=some c->X.env.cells.lookup y=some c->x=y
 has:∀ x,(X.env.kindOf x=some .cell\/X.env.kindOf x=some .free)->∃ c,X.env.cells.lookup x=some c
 cab:∀ x c,X.fn x=true->X.env.cells.lookup x=some c->X.s₀.heap.objs.size<=c
 hd:X.calm=true->X.A.handled=none
 frames:X.A.frames=some X.stack
 stk:X.stack=X.outer\/(X.stack=X.env::X.outer/\X.env.frame=some X.env.locals)
 exf:∀ b∈X.ex,b≠X.env.locals/\∀ x c,X.env.cells.lookup x=some c->c≠b
 bs:∀ b o,X.base.get? b=some o->X.s₀.heap.get? b=some o/\X.H₀ b=none
 bsz:X.base.objs.size<=X.s₀.heap.objs.size
 noex:∀ b o,X.base.get? b=some o->b∉X.ex
 exfs:∀ b∈X.ex,b∉X.fs
 funs:X.s₀.heap.FunFrames X.base X.outer
 frf:∀ b∈X.fs,X.H₀ b=none
structure Inv (X:Cx)(pins:132)(σ:List (Option V))(H:Hp)(s:170):Prop where
 ok:X.Ok
 os:s.os=X.s₀.os
 bare:AllBare s.gens
 base:Un X.fs X.ex X.H₀ H X.s₀.heap s.heap
 loc:∃ m,s.heap.Ns X.env.locals m/\∀ (i:Nat) (x:Str) (v:V),X.N[i]?=some x->σ[i]?=some (some v)->Vis X.env.scope x->∃ u,RelV v u/\z9c X.env s.heap m x u
 cell:∀ x c,X.env.cells.lookup x=some c->∃ v,s.heap.IsCell c v
 free:H X.env.locals=none
 freeC:∀ x c,X.env.cells.lookup x=some c->H c=none
 pin:∀ p∈X.pn++pins,s.heap.get? p.1=some p.2/\H p.1=none/\p.1≠X.env.locals/\p.1∉X.fs/\∀ v,p.2.data≠.cell v
 hok:HOk X.prog X.w H s.heap
 len:σ.length=X.N.length
section
variable {X:Cx}{pins:132}{σ:List (Option V)}{H H':Hp}{s:170}{h':Heap}
theorem Cx.Ok.nofr (ok:X.Ok){b:Addr}{o:Obj}(e:X.base.get? b=some o):b∉X.fs:=λ hb=>by
 have:=(ok.funs.mem hb).1
 rw [e] at this;cases this
theorem Inv.bs (I:127):∀ b o,X.base.get? b=some o->s.heap.get? b=some o/\H b=none:=λ b o e =>
 ⟨I.base.keep b o (I.ok.bs b o e).1 (I.ok.bs b o e).2 (I.ok.nofr e) (I.ok.noex b o e),I.base.free b o (I.ok.bs b o e).1 (I.ok.bs b o e).2 (I.ok.noex b o e)⟩
theorem Inv.bk (I:127):∀ b o,X.base.get? b=some o->s.heap.get? b=some o:=λ b o e=>(I.bs b o e).1
theorem Inv.mod (I:127):Mod X.K X.mg X.base:=I.ok.mod
theorem Inv.kIn (I:127):X.K.In s.heap:=I.ok.mod.kin.keeps I.bk
theorem Inv.lt (I:127):X.env.locals<s.heap.objs.size:=let ⟨_,hn,_⟩:=I.loc;hn.lt
theorem Inv.sz (I:127):X.s₀.heap.objs.size<=s.heap.objs.size:=Y1n I.ok.above (Y1z I.lt)
theorem Inv.nofs (I:127){a:Addr}(h:s.heap.objs.size<=a):a∉X.fs:=λ hb=>by
 obtain ⟨_,o,ho,_⟩:=I.ok.funs.mem hb;exact absurd (Y0p (Y0i ho) (Y1n I.sz h)) (Y1f _)
theorem Inv.cne (I:127):∀ x c,X.env.cells.lookup x=some c->c≠X.env.locals:=λ x c e z=>by
 obtain ⟨v,o,ho,hd⟩:=I.cell x c e;obtain ⟨m,⟨o',es,ep,ho',hd',_⟩,_⟩:=I.loc;rw [z,ho'] at ho;cases ho;rw [hd'] at hd;cases hd
theorem Inv.funs (I:127):s.heap.FunFrames X.base X.outer:=by
 have all:∀ (l:List Env),(∀ b∈frs l,b∈X.fs)->X.s₀.heap.FunFrames X.base l->s.heap.FunFrames X.base l:=by
  intro l
  induction l with
  | nil=>intro _ _;trivial
  | cons env r ih =>
   intro hs hl;obtain ⟨hk,⟨L,o,hf,hn,ho,hd⟩,hr⟩:=hl;have hL:=hs L (by unfold frs;rw [Y2g,hf];exact Y0c);obtain ⟨sl,e⟩:=I.base.slot L o ho (I.ok.frf L hL) hL λ z=>I.ok.exfs L z hL;exact ⟨hk,⟨L,_,hf,hn,e,hd⟩,ih (λ b hb=>hs b (by unfold frs;rw [Y2g,hf];exact Y06 _ hb)) hr⟩
 exact all X.outer (λ _ hb=>hb) I.ok.funs
theorem Inv.stack (I:127):s.heap.FunFrames X.base X.stack:=by
 rcases I.ok.stk with e | ⟨e,hf⟩
 ·rw [e];exact I.funs
 ·rw [e];obtain ⟨m,hn,_⟩:=I.loc;refine .cons (by rw [I.ok.kind];decide) hf hn ?_ I.funs;exact Y2c (Y1n I.ok.bsz I.ok.above)
theorem Inv.stkSub (I:127):∀ b∈frs X.stack,b∈X.env.locals::X.fs:=λ b hb=>by
 rcases I.ok.stk with e | ⟨e,hf⟩
 ·rw [e] at hb;exact Y06 _ hb
 ·rw [e] at hb;unfold frs at hb;rw [Y2g,hf] at hb;exact hb
theorem Inv.stkFree (I:127):∀ b∈frs X.stack,H b=none:=λ b hb=>by
 rcases Y0g.mp (I.stkSub b hb) with e | hb
 ·rw [e];exact I.free
 ·obtain ⟨_,o,ho,_⟩:=I.ok.funs.mem hb;exact I.base.free b o ho (I.ok.frf b hb) λ z=>I.ok.exfs b z hb
theorem Inv.step {g':Array GenState}{t':Nat}{d':Drawn}{ch:XV}(I:127)
  (hch:184)
  (keep:∀ b o,b≠X.env.locals->b∉X.fs->b∉ch->s.heap.get? b=some o->H b=none->h'.get? b=some o)
  (slot:∀ b o,b≠X.env.locals->b∈X.fs->b∉ch->s.heap.get? b=some o->H b=none->∃ sl,h'.get? b=some { o with slots:=sl }) (free:∀ b o,b∉ch->s.heap.get? b=some o->H b=none->H' b=none)
  (there:∀ b o,b∉ch->s.heap.get? b=some o->∃ o',h'.get? b=some o')
  (tups:∀ b xs,H b=some (.tup xs)->H' b=some (.tup xs)) (frzs:∀ b o u,H b=some (.frz o u)->H' b=some (.frz o u)) (tbls:∀ b ps,H b=some (.tbl ps)->∃ more,H' b=some (.tbl (ps++more)))
  (ns:∀ m,s.heap.Ns X.env.locals m->h'.Ns X.env.locals m) (hok:HOk X.prog X.w H' h') (hg:AllBare g') :
  Inv X pins σ H' { s with heap:=h',gens:=g',drawn:=d',toks:=t' }:=by
 have neL:∀ b o,X.s₀.heap.get? b=some o->b≠X.env.locals:=λ b o e=>Y0m (Y0p (Y0i e) I.ok.above);have neC:∀ b o,X.s₀.heap.get? b=some o->b∉X.ex->b∉ch:=λ b o e hx hb=>by
  rcases (hch b hb).1 with z | z
  ·exact hx z
  ·exact absurd (Y0p (Y0i e) z) (Y1f _)
 have cellK:∀ x c,X.env.cells.lookup x=some c->∀ v,s.heap.IsCell c v->h'.IsCell c v:=λ x c e v ⟨o,ho,hd⟩=>by
  have nch:=λ z=>(hch c z).2.2.1 x c e rfl;by_cases hc:c∈X.fs
  ·obtain ⟨sl,q⟩:=slot c o (I.cne x c e) hc nch ho (I.freeC x c e);exact ⟨_,q,hd⟩
  ·exact ⟨o,keep c o (I.cne x c e) hc nch ho (I.freeC x c e),hd⟩
 refine ⟨I.ok,I.os,hg,⟨λ b o e n hb hx=>?_,λ b o e n hb hx=>?_,λ b o e n hx=>?_,λ b o e hx=>?_,λ b xs e=>tups b xs (I.base.tups b xs e),λ b o xs e=>frzs b o xs (I.base.frzs b o xs e),λ b ps e=>?_⟩,?_,λ x c e=>?_,?_,λ x c e=>?_,λ p hp=>?_,hok,I.len⟩
 ·exact keep b o (neL b o e) hb (neC b o e hx) (I.base.keep b o e n hb hx) (I.base.free b o e n hx)
 ·obtain ⟨sl,e1⟩:=I.base.slot b o e n hb hx;obtain ⟨sl',e2⟩:=slot b _ (neL b o e) hb (neC b o e hx) e1 (I.base.free b o e n hx);exact ⟨sl',e2⟩
 ·obtain ⟨o',e1⟩:=I.base.there b o e hx;exact free b o' (neC b o e hx) e1 (I.base.free b o e n hx)
 ·obtain ⟨o',e1⟩:=I.base.there b o e hx;exact there b o' (neC b o e hx) e1
 ·obtain ⟨m1,e1⟩:=I.base.tbls b ps e;obtain ⟨m2,e2⟩:=tbls b _ e1;exact ⟨m1++m2,by rw [e2,Array.append_assoc]⟩
 ·obtain ⟨m,hn,hl⟩:=I.loc;refine ⟨m,ns m hn,λ i x v e1 e2 e3=>?_⟩;obtain ⟨u,r,l⟩:=hl i x v e1 e2 e3;refine ⟨u,r,?_⟩;rcases l with l | ⟨k,c,e,z⟩
  ·exact .inl l
  ·exact .inr ⟨k,c,e,cellK x c e _ z⟩
 ·obtain ⟨v,z⟩:=I.cell x c e;exact ⟨v,cellK x c e v z⟩
 ·obtain ⟨m,⟨o,_,_,ho,_⟩,_⟩:=I.loc;exact free _ o (λ z=>(hch _ z).2.1 rfl) ho I.free
 ·obtain ⟨v,o,ho,hd⟩:=I.cell x c e;exact free c o (λ z=>(hch c z).2.2.1 x c e rfl) ho (I.freeC x c e)
 ·obtain ⟨e,n,ne,nf,d⟩:=I.pin p hp;have nch:=λ z=>(hch p.1 z).2.2.2 p hp rfl;exact ⟨keep p.1 p.2 ne nf nch e n,free p.1 p.2 nch e n,ne,nf,d⟩
theorem Inv.un {t':Nat}(I:127)(u:Un X.fs [] H H' s.heap h')(hok:HOk X.prog X.w H' h'):Inv X pins σ H' { s with heap:=h',toks:=t' }:=by
 obtain ⟨m,⟨o,es,ep,ho,r⟩,_⟩:=id I.loc;obtain ⟨sl,hL⟩:=u.any ho I.free 133;exact I.step (ch:=[]) (λ _ z=>nomatch z) (λ b o _ hb _ e n=>u.keep b o e n hb 133) (λ b o _ hb _ e n=>u.slot b o e n hb 133) (λ b o _ e n=>u.free b o e n 133) (λ b o _ e=>u.there b o e 133) u.tups u.frzs u.tbls (λ m' hm=>by
  obtain ⟨o',es',ep',ho',r'⟩:=hm;rw [ho] at ho';cases ho';exact ⟨_,es',ep',hL,r'⟩) hok I.bare
theorem Inv.call {g':Array GenState}{t':Nat}{d':Drawn}{ch:XV}(I:127)(u:Un (frs X.stack) ch H H' s.heap h')(hok:HOk X.prog X.w H' h')(hg:AllBare g')
  (hch:184) :
  Inv X pins σ H' { s with heap:=h',gens:=g',drawn:=d',toks:=t' }:=by
 obtain ⟨m,⟨o,es,ep,ho,r⟩,_⟩:=id I.loc;obtain ⟨sl,hL⟩:=u.any ho I.free λ z=>(hch _ z).2.1 rfl;exact I.step hch (λ b o hL hb hc e n=>u.keep b o e n (λ z=>(Y0g.mp (I.stkSub b z)).elim hL hb) hc) (λ b o _ _ hc e n=>u.any e n hc) (λ b o hc e n=>u.free b o e n hc) (λ b o hc e=>u.there b o e hc) u.tups u.frzs u.tbls (λ m' hm=>by
  obtain ⟨o',es',ep',ho',r'⟩:=hm;rw [ho] at ho';cases ho';exact ⟨_,es',ep',hL,r'⟩) hok hg
theorem Inv.turned {t':Nat}{it:Addr}(I:127)(k:∀ b o,b≠it->s.heap.get? b=some o->h'.get? b=some o)(hn:H it=none)(hL:it≠X.env.locals)
  (h1:it∈X.ex\/X.s₀.heap.objs.size<=it) (h2:∀ x c,X.env.cells.lookup x=some c->c≠it) (h3:∀ p∈X.pn++pins,p.1≠it):Inv X pins σ H { s with heap:=h',toks:=t' }:=by
 have nit:∀ b u,H b=some u->b≠it:=λ b u e z=>by rw [z,hn] at e;cases e
 refine I.step (ch:=[it]) (λ b hb=>?_) (λ b o _ _ hc e _=>k b o (λ z=>hc (by simp [z])) e) (λ b o _ _ hc e _=>⟨o.slots,k b o (λ z=>hc (by simp [z])) e⟩) (λ _ _ _ _ n=>n)
  (λ b o hc e=>⟨o,k b o (λ z=>hc (by simp [z])) e⟩) (λ _ _ e=>e) (λ _ _ _ e=>e) (λ b ps e=>⟨#[],by rw [e];simp⟩) (λ m hm=>?_) (λ b u e=>?_) I.bare
 ·have e:b=it:=by simpa using hb
  subst e;exact ⟨h1,hL,h2,h3⟩
 ·obtain ⟨o,es,ep,ho,r⟩:=hm;exact ⟨o,es,ep,k _ o (Ne.symm hL) ho,r⟩
 ·refine (I.hok b u e).stay (λ c v hc q=>k c v ?_ q) (λ _ q=>q) λ _ _ q=>q;rcases hc with z | z
  ·rw [z];exact nit b u e
  ·exact nit c _ z
theorem Inv.tok (I:127)(t:Nat):Inv X pins σ H { s with toks:=t }:=I.un Un.refl I.hok
theorem Inv.kept {t':Nat}(I:127)(k:∀ b u,s.heap.get? b=some u->h'.get? b=some u):Inv X pins σ H { s with heap:=h',toks:=t' }:=I.un (Un.kept k) (I.hok.kept k)
theorem Inv.laid {a:Addr}{o:HO}{t':Nat}(I:127)(k:∀ b u,s.heap.get? b=some u->h'.get? b=some u)(hp:s.heap.objs.size<=a)(new:ObjOk X.prog X.w (upd H a o) h' a o) :
  Inv X pins σ (upd H a o) { s with heap:=h',toks:=t' }:=I.un (Un.laid k hp (I.hok.fresh hp)) (I.hok.laid k hp new)
theorem Inv.write {x e:Addr}{o:HO}{t':Nat}(I:127)(mu:Mut (H x))(he:e=x\/H e=some (.own x))(k:∀ b u,b≠e->s.heap.get? b=some u->h'.get? b=some u)(heo:∃ u,h'.get? e=some u)
  (new:ObjOk X.prog X.w (upd H x o) h' x o):Inv X pins σ (upd H x o) { s with heap:=h',toks:=t' }:=I.un (Un.write mu he k heo) (I.hok.write mu he k heo new)
theorem Inv.weak {σ':List (Option V)}(I:127)(hl:σ'.length=σ.length)(w:∀ (i:Nat) v,σ'[i]?=some (some v)->σ[i]?=some (some v)):Inv X pins σ' H s :=
 ⟨I.ok,I.os,I.bare,I.base,let ⟨m,hn,hl'⟩:=I.loc;⟨m,hn,λ i x v e1 e2 e3=>hl' i x v e1 (w i v e2) e3⟩,I.cell,I.free,I.freeC,I.pin,I.hok,hl.trans I.len⟩
theorem Inv.pins_of {pins':132}(I:127)(h:∀ p∈pins',s.heap.get? p.1=some p.2/\H p.1=none/\p.1≠X.env.locals/\p.1∉X.fs/\∀ v,p.2.data≠.cell v):Inv X pins' σ H s :=
 ⟨I.ok,I.os,I.bare,I.base,I.loc,I.cell,I.free,I.freeC,λ p hp=>(Y0r.mp hp).elim (λ z=>I.pin p (Y0v _ z)) (h p),I.hok,I.len⟩
theorem QN {N:XY}(hN:N.Nodup){i j:Nat}{x:Str}(a:N[i]?=some x)(b:N[j]?=some x):i=j:=by
 obtain ⟨h1,e1⟩:=Y0f.mp a;obtain ⟨h2,e2⟩:=Y0f.mp b;exact (List.getElem_inj hN).mp (e1.trans e2.symm)
theorem JU {M:Model}{A:Around}{E:XQ}{i:Nat}{x:Str}{v:V}{u:Value}{Q:Unit->Shared->Prop}(I:127)(hN:X.N.Nodup)(hi:X.N[i]?=some x)(hx:Loc X.env.scope x)(r:RelV v u)
  (h:∀ s',Inv X pins (σ.set i (some v)) H s'->(∃ a,Heap.SameBut a s.heap s'.heap/\(a=X.env.locals\/X.env.cells.lookup x=some a))->Q () s') (hf:X.fn x=true\/X.env.scope.names.lookup x=some .local:=by first | exact .inl rfl | exact .inr rfl | assumption):wpAny M A (storeName X.env x u) Q E s:=by
 obtain ⟨m,hn,hl⟩:=id I.loc;have hcls:(X.env.scope.kind==.class||(X.env.scope.kind==.module&&X.env.locals != X.env.globals))=false:=by rw [I.ok.kind];rfl
 have hiσ:i<σ.length:=by rw [I.len];exact (Y0f.mp hi).1
 have cne:=I.cne;have tracked:∀ {a:Addr}{h':Heap},(∃ o,s.heap.get? a=some o/\H a=none)->Heap.SameBut a s.heap h'->HOk X.prog X.w H h':=λ {a h'} ha hs b ob e=>by
  obtain ⟨_,_,hfree⟩:=ha;refine (I.hok b ob e).stay (λ c w' hc q=>(hs.2 c ?_).trans q) (λ _ q=>q) λ _ _ q=>q
  rintro rfl
  rcases hc with rfl | hc
  ·rw [hfree] at e;cases e
  ·rw [hfree] at hc;cases hc
 rcases hx with hk | hk
 ·refine wpAny_storeName_local hk hn (λ h' hn' hs=>?_) hcls;obtain ⟨oL,_,_,hoL,_⟩:=id hn;refine h _ ⟨I.ok,I.os,I.bare,⟨λ b o e n hb hx=>?_,λ b o e n hb hx=>?_,I.base.free,λ b o e hx=>?_,I.base.tups,I.base.frzs,I.base.tbls⟩,⟨_,hn',λ j y v' e1 e2 e3=>?_⟩,λ y c e=>?_,I.free,I.freeC,λ p hp=>?_,tracked ⟨oL,hoL,I.free⟩ hs,by simpa using I.len⟩ ⟨_,hs,.inl rfl⟩
  ·exact (hs.2 b (Y0m (Y0p (Y0i e) I.ok.above))).trans (I.base.keep b o e n hb hx)
  ·obtain ⟨sl,e1⟩:=I.base.slot b o e n hb hx;exact ⟨sl,(hs.2 b (Y0m (Y0p (Y0i e) I.ok.above))).trans e1⟩
  ·obtain ⟨o',e1⟩:=I.base.there b o e hx;exact ⟨o',(hs.2 b (Y0m (Y0p (Y0i e) I.ok.above))).trans e1⟩
  ·by_cases hj:j=i
   ·subst hj;rw [hi] at e1;cases e1;rw [Y0b hiσ] at e2;cases e2;exact ⟨u,r,.inl ⟨hk,by simp⟩⟩
   ·rw [Y1e (Ne.symm hj)] at e2;obtain ⟨u',r',q⟩:=hl j y v' e1 e2 e3;refine ⟨u',r',?_⟩;rcases q with ⟨k,e⟩ | ⟨k,c,e,z⟩
    ·refine .inl ⟨k,?_⟩
     have:y≠x:=λ e=>hj (QN hN e1 (e▸hi))
     simp [this,e]
    ·exact .inr ⟨k,c,e,z.sameBut hs (cne y c e)⟩
  ·obtain ⟨w',z⟩:=I.cell y c e;exact ⟨w',z.sameBut hs (cne y c e)⟩
  ·obtain ⟨e,n,ne,nf,d⟩:=I.pin p hp;exact ⟨(hs.2 p.1 ne).trans e,n,ne,nf,d⟩
 ·have hfn:X.fn x=true:=by
   rcases hf with z | z
   ·exact z
   ·rw [z] at hk;cases hk
  obtain ⟨c,hc⟩:=I.ok.has x (.inl hk);obtain ⟨w',z⟩:=I.cell x c hc;refine wpAny_storeName_cell I.ok.kind hk hc z (λ h' hc' hs=>?_);obtain ⟨oc,hoc,hocd⟩:=id z;refine h { s with heap:=h' } ⟨I.ok,I.os,I.bare,⟨λ b o e n hb hx=>?_,λ b o e n hb hx=>?_,I.base.free,λ b o e hx=>?_,I.base.tups,I.base.frzs,I.base.tbls⟩,⟨m,hn.sameBut hs (Ne.symm (cne x c hc)),λ j y v' e1 e2 e3=>?_⟩,λ y c' e=>?_,I.free,I.freeC,λ p hp=>?_,tracked ⟨oc,hoc,I.freeC x c hc⟩ hs,by simpa using I.len⟩ ⟨c,hs,.inr hc⟩
  ·exact (hs.2 b (Y0m (Y0p (Y0i e) (I.ok.cab x c hfn hc)))).trans (I.base.keep b o e n hb hx)
  ·obtain ⟨sl,e1⟩:=I.base.slot b o e n hb hx;exact ⟨sl,(hs.2 b (Y0m (Y0p (Y0i e) (I.ok.cab x c hfn hc)))).trans e1⟩
  ·obtain ⟨o',e1⟩:=I.base.there b o e hx;exact ⟨o',(hs.2 b (Y0m (Y0p (Y0i e) (I.ok.cab x c hfn hc)))).trans e1⟩
  ·by_cases hj:j=i
   ·subst hj;rw [hi] at e1;cases e1;rw [Y0b hiσ] at e2;cases e2;exact ⟨u,r,.inr ⟨.inl hk,c,hc,hc'⟩⟩
   ·rw [Y1e (Ne.symm hj)] at e2;obtain ⟨u',r',q⟩:=hl j y v' e1 e2 e3;refine ⟨u',r',?_⟩;rcases q with q | ⟨k,c',e,z'⟩
    ·exact .inl q
    ·refine .inr ⟨k,c',e,z'.sameBut hs ?_⟩
     rintro rfl
     exact hj (QN hN e1 (I.ok.inj _ _ _ e hc▸hi))
  ·by_cases hcc:c'=c
   ·subst hcc;exact ⟨_,hc'⟩
   ·obtain ⟨w2,z2⟩:=I.cell y c' e;exact ⟨w2,z2.sameBut hs hcc⟩
  ·obtain ⟨e,n,ne,nf,d⟩:=I.pin p hp;refine ⟨(hs.2 p.1 ?_).trans e,n,ne,nf,d⟩;intro q;rw [q,hoc] at e;have q':oc=p.2:=Option.some.inj e;exact d w' (by rw [<- q'];exact hocd)
theorem QO {M:Model}{A:Around}{E:XQ}{i:Nat}{x:Str}{v:V}{u:Value}{Q:Unit->Shared->Prop}(I:127)(hN:X.N.Nodup)(hi:X.N[i]?=some x)(hx:Loc X.env.scope x)(r:RelV v u)
  (h:∀ s',Inv X pins (σ.set i (some v)) H s'->Q () s') (hf:X.fn x=true\/X.env.scope.names.lookup x=some .local:=by first | exact .inl rfl | exact .inr rfl | assumption):wpAny M A (storeName X.env x u) Q E s :=
 JU I hN hi hx r (λ s' I' _=>h s' I') hf
theorem Inv.call' {s':170}{ch:XV}(I:127)(ho:s'.os=s.os)(u:Un (frs X.stack) ch H H' s.heap s'.heap)(hok:HOk X.prog X.w H' s'.heap)(hg:AllBare s'.gens)
  (hch:184):Inv X pins σ H' s':=by
 obtain ⟨h',g',d',t',o'⟩:=s';have e:=ho;subst e;exact I.call u hok hg hch
end
abbrev XK:=Value->Option Addr->Hp->Prop
abbrev St:=List (Option V)
abbrev VK:=V->Hp->Prop
abbrev TE:=St->Hp->VK->Prop
abbrev TT:=St->Hp->(Bool->Hp->Prop)->Prop
abbrev TA:=St->Hp->(List V->Hp->Prop)->Prop
structure Ends where
 nx:St->Hp->Prop
 rt:VK
 bk:St->Hp->Prop:=λ _ _=>False
 ct:St->Hp->Prop:=λ _ _=>False
abbrev TS:=Ends->St->Hp->Prop
def EP (X:Cx)(pins:132)(σ:St)(Q:VK)(u:Value)(s':170):Prop:=∃ v H',Inv X pins σ H' s'/\RelV v u/\Q v H'
def TP (X:Cx)(pins:132)(σ:St)(Q:Bool->Hp->Prop)(b:Bool)(s':170):Prop:=∃ H',Inv X pins σ H' s'/\Q b H'
def AP (X:Cx)(pins:132)(σ:St)(Q:List V->Hp->Prop)(us:XU)(s':170):Prop:=∃ vs H',Inv X pins σ H' s'/\Vals vs us/\Q vs H'
def SP (X:Cx)(pins:132)(D:Ends)(f:Flow)(s':170):Prop :=
 match f with
 | .next=>∃ σ' H',Inv X pins σ' H' s'/\D.nx σ' H'
 | .brk=>∃ σ' H',Inv X pins σ' H' s'/\D.bk σ' H'
 | .cont=>∃ σ' H',Inv X pins σ' H' s'/\D.ct σ' H'
 | .ret u=>∃ v σ' H',Inv X pins σ' H' s'/\RelV v u/\D.rt v H'
def PE (X:Cx)(e:Expr)(t:TE):Prop :=
 ∀ (pins:132) (s:170) (σ:St) (H:Hp) (Q:VK),Inv X pins σ H s->t σ H Q->wpAny 130 X.A (eval e X.env) (EP X pins σ Q) X.xe s
def PT (X:Cx)(e:Expr)(t:TT):Prop :=
 ∀ (pins:132) (s:170) (σ:St) (H:Hp) (Q:Bool->Hp->Prop),Inv X pins σ H s->t σ H Q->wpAny 130 X.A (isTrue e X.env (eval e X.env)) (TP X pins σ Q) X.xe s
def PW (X:Cx)(e:Expr)(t:TT):Prop :=
 ∀ (whole:Sem Value) (pins:132) (s:170) (σ:St) (H:Hp) (Q:Bool->Hp->Prop),Inv X pins σ H s->t σ H Q->wpAny 130 X.A (isTrue e X.env whole) (TP X pins σ Q) X.xe s
theorem PW.pt {X:Cx}{e:Expr}{t:TT}(h:PW X e t):PT X e t:=h _
def PA (X:Cx)(es:List Expr)(t:TA):Prop :=
 ∀ (pos:Pos) (pins:132) (s:170) (σ:St) (H:Hp) (Q:List V->Hp->Prop),Inv X pins σ H s->t σ H Q->wpAny 130 X.A (spliced (backTo pos (starEach es X.env))) (AP X pins σ Q) X.xe s
def PS (X:Cx)(st:Stmt)(t:TS):Prop :=
 ∀ (pins:132) (s:170) (σ:St) (H:Hp) (D:Ends),Inv X pins σ H s->t D σ H->wpAny 130 X.A (exec st X.env) (SP X pins D) X.xe s
def PSs (X:Cx)(st:List Stmt)(t:TS):Prop :=
 ∀ (pins:132) (s:170) (σ:St) (H:Hp) (D:Ends),Inv X pins σ H s->t D σ H->wpAny 130 X.A (execs st X.env) (SP X pins D) X.xe s
theorem thn {α:Type}{t:Sem α}{Q Q':α->Shared->Prop}{M:Model}{A:Around}{E:XQ}{s:170}(h:wpAny M A t Q E s)(hQ:∀ a s,Q a s->Q' a s):wpAny M A t Q' E s:=wpAny_mono h hQ λ _ _ x=>x
section
variable {X:Cx}
theorem bin {a b:Expr}{ta tb:TE}(ha:PE X a ta)(hb:PE X b tb){pins:132}{s:170}{σ:St}{H:Hp}{R:V->V->Hp->Prop}(I:127)(h:ta σ H λ x H1=>tb σ H1 λ y H2=>R x y H2)
  {α:Type}{Q:α->Shared->Prop}{f:Value->Value->Sem α}
  (hf:∀ v u s2 x y H2,Inv X pins σ H2 s2->RelV x v->RelV y u->R x y H2->wpAny 130 X.A (f v u) Q X.xe s2) :
  wpAny 130 X.A (eval a X.env) (λ v s₁=>wpAny 130 X.A (eval b X.env) (λ u s₂=>wpAny 130 X.A (f v u) Q X.xe s₂) X.xe s₁) X.xe s:=by
 refine thn 249 λ v s1 ⟨x,H1,I1,r1,q1⟩=>?_;refine thn (hb pins s1 σ H1 _ I1 q1) λ u s2 ⟨y,H2,I2,r2,q2⟩=>?_;exact hf v u s2 x y H2 I2 r1 r2 q2
def z73 (i:Nat):TE:=λ σ H Q=>∃ v,σ[i]?=some (some v)/\Q v H
def tC (v:V):TE:=λ _ H Q=>Q v H
theorem Ow {i:Nat}{x:Str}{pos:Pos} (hN:X.N[i]?=some x) (hv:Vis X.env.scope x) (hd:175=false:=by decide) (hcd:(x==("__classdict__":Str))=false:=by decide):PE X (.Name x pos) (z73 i):=by
 intro pins s σ H Q I h;obtain ⟨v,e,h⟩:=h;obtain ⟨m,hn,hl⟩:=I.loc;obtain ⟨u,r,l⟩:=hl i x v hN e hv;have fin:EP X pins σ Q u s:=⟨v,H,I,r,h⟩;rcases l with ⟨hk,hm⟩ | ⟨hk,c,hc,hcell⟩
 ·exact wpAny_Name (wpAny_loadName_local I.ok.kind hk hn hm fin) hd
 ·rcases hk with hk | hk
  ·exact wpAny_Name (wpAny_loadName_cell I.ok.kind hk hc hcell fin) hd
  ·exact wpAny_Name (wpAny_loadName_free I.ok.kind hk hc hcell fin hcd) hd
theorem z4y {i j pos}:PE X (.Constant 222 j pos) (tC 222):=λ _ _ _ H _ I h=>wpAny_Constant_int ⟨.int i,H,I.tok _,150,h⟩
theorem z74 {b j pos}:PE X (.Constant (.bool b) j pos) (tC (.bl b)):=λ _ _ _ H _ I h=>Constant_bool ⟨.bl b,H,I,rfl,h⟩
theorem z4z {j pos}:PE X (.Constant .none j pos) (tC .non):=λ _ _ _ H _ I h=>Constant_none ⟨.non,H,I,rfl,h⟩
theorem Ox {x j pos}:PE X (.Constant 248 j pos) (tC 248):=λ _ _ _ H _ I h=>Calls.Constant_str ⟨.str x,H,I.tok _,150,h⟩
def Gl (X:Cx)(x:Str):Prop:=X.env.kindOf x=some .globalImplicit
theorem WG {E:XQ}{pins:132}{s:170}{σ:St}{H:Hp}{x:Str}{u:Value}{pos:Pos}{Q:XQ}(I:127)(hg:Gl X x)(hm:X.mg x=some u)(h:Q u s)
  (hd:175=false:=by decide):wpAny 130 X.A (eval (.Name x pos) X.env) Q E s :=
 Calls.Name_function_global I.ok.kind hg (Calls.loadGlobal_global (by rw [I.ok.glob];exact I.mod.glob.keeps I.bk) hm h) hd
theorem wI {E:XQ}{pins:132}{s:170}{σ:St}{H:Hp}{x:Str}{u:Value}{pos:Pos}{Q:XQ}(I:127)(hg:Gl X x)(hm:X.mg x=none)(hv:bootBuiltins x=some u)(h:Q u s)
  (hn:x≠"__name__":=by decide) (hd:175=false:=by decide):wpAny 130 X.A (eval (.Name x pos) X.env) Q E s:=by
 obtain ⟨mb,h1,h2⟩:=I.mod.blt;exact Calls.Name_function_global I.ok.kind hg (Calls.loadGlobal_builtin (by rw [I.ok.glob];exact I.mod.glob.keeps I.bk) hm (by rw [I.ok.blt];exact h1.keeps I.bk) ((h2 x hn).trans hv) h) hd
theorem jz {x:Str}{v:V}{u:Value}{pos:Pos} (hg:Gl X x) (hm:X.mg x=some u) (r:RelV v u) (hd:175=false:=by decide):PE X (.Name x pos) (tC v) :=
 λ _ _ _ H _ I h=>WG I hg hm ⟨v,H,I,r,h⟩ hd
theorem z0z {x:Str}{v:V}{u:Value}{pos:Pos} (hg:Gl X x) (hm:X.mg x=none) (hv:bootBuiltins x=some u) (r:RelV v u) (hn:x≠"__name__":=by decide) (hd:175=false:=by decide):PE X (.Name x pos) (tC v) :=
 λ _ _ _ H _ I h=>wI I hg hm hv ⟨v,H,I,r,h⟩ hn hd
variable {a b:Expr}{ta tb:TE}{pos:Pos}
def tB (t:TE):TT:=λ σ H Q=>t σ H λ x H1=>∃ c,x=.bl c/\Q c H1
theorem z50 {e:Expr}{t:TE}(h:PE X e t)(he:∀ whole,isTrue e X.env whole=(do let v <- whole;standAt e.pos;holding [v] (truthy v)):=by intro _;rfl):PT X e (tB t):=by
 intro pins s σ H Q I hw;refine isTrue_plain (thn (h pins s σ H _ I hw) λ v s1 ⟨x,H1,I1,r1,q1⟩=>?_) (he _);obtain ⟨d,rfl,q⟩:=q1;cases r1;exact wpAny_truthy_bool ⟨H1,I1,q⟩
variable {tA tB':TT}{ym:List Expr}
def z9d (t u:TT):TT:=λ σ H Q=>t σ H λ c H1=>if c=true then u σ H1 Q else Q false H1
def tOr (t u:TT):TT:=λ σ H Q=>t σ H λ c H1=>if c=true then Q true H1 else u σ H1 Q
def z9e (t:TT):TT:=λ σ H Q=>t σ H λ c H1=>Q (!c) H1
theorem z10 (ha:PT X a tA):PW X (.BoolOp .And [a] pos) tA:=by
 intro wh pins s σ H Q I h;refine isTrue_and (thn (ha pins s σ H Q I h) λ c s1 e=>?_);cases c with
 | true=>exact isTrue_and_nil e
 | false=>exact e
theorem z51 (ha:PT X a tA):PW X (.BoolOp .Or [a] pos) tA:=by
 intro wh pins s σ H Q I h;refine isTrue_or (thn (ha pins s σ H Q I h) λ c s1 e=>?_);cases c with
 | false=>exact isTrue_or_nil e
 | true=>exact e
theorem Oy (ha:PT X a tA)(hb:PW X (.BoolOp .And (b::ym) pos) tB'):PW X (.BoolOp .And (a::b::ym) pos) (z9d tA tB'):=by
 intro wh pins s σ H Q I h;refine isTrue_and (thn 249 λ c s1 ⟨H1,I1,q1⟩=>?_);cases c with
 | true=>exact hb wh pins s1 σ H1 Q I1 q1
 | false=>exact ⟨H1,I1,q1⟩
theorem z3k (ha:PT X a tA)(hb:PW X (.BoolOp .Or (b::ym) pos) tB'):PW X (.BoolOp .Or (a::b::ym) pos) (tOr tA tB'):=by
 intro wh pins s σ H Q I h;refine isTrue_or (thn 249 λ c s1 ⟨H1,I1,q1⟩=>?_);cases c with
 | true=>exact ⟨H1,I1,q1⟩
 | false=>exact hb wh pins s1 σ H1 Q I1 q1
theorem z52 (ha:PT X a tA):PT X (.UnaryOp .Not a pos) (z9e tA):=by
 intro pins s σ H Q I h;exact isTrue_not (ha pins s σ H (λ c H1=>Q (!c) H1) I h)
def z75 (ta tb:TE):TE:=λ σ H Q=>ta σ H λ x H1=>∃ c,x=.bl c/\if c=true then tb σ H1 Q else Q (.bl false) H1
def z9f (ta tb:TE):TE:=λ σ H Q=>ta σ H λ x H1=>∃ c,x=.bl c/\if c=true then Q (.bl true) H1 else tb σ H1 Q
def z76 (ta:TE):TE:=λ σ H Q=>ta σ H λ x H1=>∃ c,x=.bl c/\Q (.bl (!c)) H1
theorem Oz {op}{t:TE}(h:PE X a t):PE X (.BoolOp op [a] pos) t:=λ pins s σ H Q I hw=>BoolOp_one (h pins s σ H Q I hw)
theorem OA (ha:PE X a ta)(hb:PE X (.BoolOp .And (b::ym) pos) tb):PE X (.BoolOp .And (a::b::ym) pos) (z75 ta tb):=by
 intro pins s σ H Q I h;refine BoolOp_and (thn 249 λ v s1 ⟨x,H1,I1,r1,q1⟩=>?_);obtain ⟨c,rfl,q1⟩:=q1;cases r1;refine wpAny_truthy_bool ?_;cases c with
 | true=>exact hb pins s1 σ H1 Q I1 q1
 | false=>exact ⟨.bl false,H1,I1,rfl,q1⟩
theorem z3l (ha:PE X a ta)(hb:PE X (.BoolOp .Or (b::ym) pos) tb):PE X (.BoolOp .Or (a::b::ym) pos) (z9f ta tb):=by
 intro pins s σ H Q I h;refine BoolOp_or (thn 249 λ v s1 ⟨x,H1,I1,r1,q1⟩=>?_);obtain ⟨c,rfl,q1⟩:=q1;cases r1;refine wpAny_truthy_bool ?_;cases c with
 | false=>exact hb pins s1 σ H1 Q I1 q1
 | true=>exact ⟨.bl true,H1,I1,rfl,q1⟩
theorem z53 (ha:PE X a ta):PE X (.UnaryOp .Not a pos) (z76 ta):=by
 intro pins s σ H Q I h;refine UnaryOp_ (thn 249 λ v s1 ⟨x,H1,I1,r1,q1⟩=>?_);obtain ⟨c,rfl,q1⟩:=q1;cases r1;exact not_of (wpAny_truthy_bool ⟨.bl (!c),H1,I1,rfl,q1⟩)
def tIf (t:TT)(ta tb:TE):TE:=λ σ H Q=>t σ H λ c H1=>if c=true then ta σ H1 Q else tb σ H1 Q
theorem OB {c:Expr}(hc:PT X c tA)(ha:PE X a ta)(hb:PE X b tb):PE X (.IfExp c a b pos) (tIf tA ta tb):=by
 intro pins s σ H Q I h;refine wpAny_IfExp (thn (hc pins s σ H _ I h) λ d s1 ⟨H1,I1,q1⟩=>?_);cases d with
 | true=>exact ha pins s1 σ H1 Q I1 q1
 | false=>exact hb pins s1 σ H1 Q I1 q1
end
def SqL (K:Y00)(H:Hp)(a:Addr)(xs:211):Prop :=
 Rd H a 210 \/
  ∃ (o:Obj) (its:XJ) (n:Nat),K.lookup a=some o/\o.cls=.type "list"/\o.dict=none/\o.data=.seq its n/\its.size<=sizeLine/\Vals xs its.toList
def SqT (K:Y00)(H:Hp)(a:Addr)(xs:211):Prop :=
 Rd H a (.tup xs) \/
  ∃ (o:Obj) (its:XJ) (n:Nat),K.lookup a=some o/\o.cls=.type "tuple"/\o.data=.seq its n/\its.size<=sizeLine/\Vals xs its.toList
def z9g:Value->Option V
 | .none=>some .non
 | .bool b=>some (.bl b)
 | .int i _=>some 222
 | .str x _=>some 248
 | .bytes b _=>some (.byt b)
 | .float b _=>some (.flt b)
 | .ref a=>some (.ref a)
 | .type n=>some (.ty n)
 | _=>none
theorem RelV.abs {x:V}{u:Value}(r:RelV x u):z9g u=some x:=by
 cases x with
 | non=>cases r;rfl
 | bl _=>cases r;rfl
 | int _=>obtain ⟨t,rfl⟩:=r;rfl
 | str _=>obtain ⟨t,rfl⟩:=r;rfl
 | byt _=>obtain ⟨t,rfl⟩:=r;rfl
 | flt _=>obtain ⟨t,rfl⟩:=r;rfl
 | ref _=>cases r;rfl
 | ty _=>cases r;rfl
theorem RelV.inj {x y:V}{u:Value}(r:RelV x u)(q:RelV y u):x=y:=Option.some.inj (r.abs.symm.trans q.abs)
theorem Vals.inj:∀ {xs ys:211}{us:XU},Vals xs us->Vals ys us->xs=ys
 | _,_,_,.nil,.nil=>rfl
 | _,_,_,.cons r t,.cons r' t'=>by rw [r.inj r',Vals.inj t t']
section
variable {X:Cx}{pins:132}{σ:St}{H:Hp}{s:170}{a:Addr}{xs ys:211}
theorem SqL.of {K:Y00}(h:H a=some 210):SqL K H a xs:=.inl (.inl h)
theorem SqT.of {K:Y00}(h:H a=some (.tup xs)):SqT K H a xs:=.inl (.inl h)
theorem Inv.list (I:127)(h:SqL X.K H a xs):∃ its:List Value,Vals xs its/\PlainL s.heap a its.toArray/\xs.length<=sizeLine:=by
 rcases h with h | ⟨o,its,n,hk,hc,hd,hs,hz,r⟩
 ·obtain ⟨z,its,n,r,e⟩:=h.ok I.hok;exact ⟨its,r,⟨_,n,e,rfl,rfl,rfl⟩,z⟩
 ·refine ⟨its.toList,r,⟨o,n,I.kIn a o hk,hc,hd,by simpa using hs⟩,?_⟩;have e:=r.length;simp only [Y26] at e;omega
theorem Inv.tuple (I:127)(h:SqT X.K H a xs):∃ its:List Value,Vals xs its/\IsTup s.heap a its.toArray/\xs.length<=sizeLine:=by
 rcases h with h | ⟨o,its,n,hk,hc,hs,hz,r⟩
 ·obtain ⟨z,its,r,p⟩:=h.ok I.hok;exact ⟨its,r,p,z⟩
 ·refine ⟨its.toList,r,⟨o,I.kIn a o hk,hc,n,by simpa using hs⟩,?_⟩;have e:=r.length;simp only [Y26] at e;omega
theorem Inv.list_inj (I:127)(h:SqL X.K H a xs)(h':SqL X.K H a ys):xs=ys:=by
 obtain ⟨its,r,⟨o,n,e,_,_,d⟩,_⟩:=I.list h;obtain ⟨its',r',⟨o',n',e',_,_,d'⟩,_⟩:=I.list h';rw [e] at e';cases e';rw [d] at d';injection d' with d1 _
 have:its=its':=by simpa using congrArg Array.toList d1
 subst this;exact r.inj r'
theorem Inv.tuple_inj (I:127)(h:SqT X.K H a xs)(h':SqT X.K H a ys):xs=ys:=by
 obtain ⟨its,r,⟨o,e,_,n,d⟩,_⟩:=I.tuple h;obtain ⟨its',r',⟨o',e',_,n',d'⟩,_⟩:=I.tuple h';rw [e] at e';cases e';rw [d] at d';injection d' with d1 _
 have:its=its':=by simpa using congrArg Array.toList d1
 subst this;exact r.inj r'
end
abbrev Cx.wish (X:Cx)(E:XQ):Cx:={ X with xe:=E }
abbrev Cx.nox (X:Cx):Cx:=X.wish λ _ _=>False
theorem Cx.Ok.wish {X:Cx}(ok:X.Ok)(E:XQ):(X.wish E).Ok :=
 ⟨ok.mod,ok.kind,ok.glob,ok.blt,ok.above,ok.inj,ok.has,ok.cab,ok.hd,ok.frames,ok.stk,ok.exf,ok.bs,ok.bsz,ok.noex,ok.exfs,ok.funs,ok.frf⟩
theorem Cx.Ok.unwish {X:Cx}{E:XQ}(ok:(X.wish E).Ok):X.Ok :=
 ⟨ok.mod,ok.kind,ok.glob,ok.blt,ok.above,ok.inj,ok.has,ok.cab,ok.hd,ok.frames,ok.stk,ok.exf,ok.bs,ok.bsz,ok.noex,ok.exfs,ok.funs,ok.frf⟩
section
variable {X:Cx}{pins:132}{σ:St}{H:Hp}{s:170}{E:XQ}
theorem Inv.wish (I:127)(E:XQ):Inv (X.wish E) pins σ H s:=⟨I.ok.wish E,I.os,I.bare,I.base,I.loc,I.cell,I.free,I.freeC,I.pin,I.hok,I.len⟩
theorem Inv.unwish (I:Inv (X.wish E) pins σ H s):Inv X pins σ H s:=⟨I.ok.unwish,I.os,I.bare,I.base,I.loc,I.cell,I.free,I.freeC,I.pin,I.hok,I.len⟩
theorem SP.unwish {D:Ends}{f:Flow}{s':170}(h:SP (X.wish E) pins D f s'):SP X pins D f s':=by
 cases f with
 | next=>obtain ⟨σ',H',I,q⟩:=h;exact ⟨σ',H',I.unwish,q⟩
 | brk=>obtain ⟨σ',H',I,q⟩:=h;exact ⟨σ',H',I.unwish,q⟩
 | cont=>obtain ⟨σ',H',I,q⟩:=h;exact ⟨σ',H',I.unwish,q⟩
 | ret u=>obtain ⟨v,σ',H',I,r,q⟩:=h;exact ⟨v,σ',H',I.unwish,r,q⟩
end
section
variable {X:Cx}{st:Stmt}{ym:List Stmt}{t u:TS}{e:Expr}{te:TE}{pos:Pos}
def z3m:TS:=λ D σ H=>D.nx σ H
def z9h (t u:TS):TS:=λ D σ H=>t { D with nx:=u D } σ H
theorem z11:PSs X [] z3m:=λ _ _ σ H _ I h=>wpAny_execs_nil ⟨σ,H,I,h⟩
theorem OC (h1:PS X st t)(h2:PSs X ym u):PSs X (st::ym) (z9h t u):=by
 intro pins s σ H D I h;refine wpAny_execs_cons (thn (h1 pins s σ H { D with nx:=u D } I h) λ f s1 q=>?_);cases f with
 | next =>
  obtain ⟨σ',H',I',q⟩:=q;exact h2 pins s1 σ' H' D I' q
 | ret v=>exact q
 | brk=>exact q
 | cont=>exact q
def z54:TS:=λ D σ H=>D.bk σ H
def z77:TS:=λ D σ H=>D.ct σ H
theorem z12:PS X (.Pass pos) z3m:=λ _ _ σ H _ I h=>wpAny_Pass ⟨σ,H,I,h⟩
theorem OD:PS X (.Break pos) z54:=λ _ _ σ H _ I h=>wpAny_Break ⟨σ,H,I,h⟩
theorem QP:PS X (.Continue pos) z77:=λ _ _ σ H _ I h=>wpAny_Continue ⟨σ,H,I,h⟩
theorem Inv.quiet {pins:132}{σ:St}{H:Hp}{s:170}(I:127):interactive X.env=false:=by simp [interactive,I.ok.kind]
def z78 (te:TE):TS:=λ D σ H=>te σ H λ _ H1=>D.nx σ H1
theorem z13 (he:PE X e te)(hs:swapsWith e none pos.line X.env=pure false:=by rfl):PS X (.Expr e pos) (z78 te):=by
 intro pins s σ H D I h;exact wpAny_Expr_any (thn (he pins s σ H _ I h) λ v s1 ⟨x,H1,I1,r1,q1⟩=>⟨σ,H1,I1,q1⟩) I.quiet hs
def z9i (te:TE):TS:=λ D σ H=>te σ H D.rt
theorem z55 (he:PE X e te):PS X (.Return (some e) pos) (z9i te):=by
 intro pins s σ H D I h;exact wpAny_Return_some (thn (he pins s σ H _ I h) λ v s1 ⟨x,H1,I1,r1,q1⟩=>⟨x,σ,H1,I1,r1,q1⟩)
def z79:TS:=λ D _ H=>D.rt .non H
theorem z14:PS X (.Return none pos) z79:=λ _ _ σ H _ I h=>wpAny_Return_none ⟨.non,σ,H,I,rfl,h⟩
def z9j (c:TT)(t u:TS):TS:=λ D σ H=>c σ H λ b H1=>if b=true then t D σ H1 else u D σ H1
theorem z7a {c:Expr}{a b:List Stmt}{tc:TT}(hc:PT X c tc)(ha:PSs X a t)(hb:PSs X b u):PS X (.If c a b pos) (z9j tc t u):=by
 intro pins s σ H D I h;refine wpAny_If (thn (hc pins s σ H _ I h) λ d s1 ⟨H1,I1,q1⟩=>?_);cases d with
 | true=>exact ha pins s1 σ H1 D I1 q1
 | false=>exact hb pins s1 σ H1 D I1 q1
end
abbrev TG:=V->St->Hp->(St->Hp->Prop)->Prop
abbrev TGs:=List V->St->Hp->(St->Hp->Prop)->Prop
def PG (X:Cx)(target:Expr)(t:TG):Prop :=
 ∀ (pins:132) (s:170) (σ:St) (H:Hp) (v:V) (u:Value) (Q:St->Hp->Prop),Inv X pins σ H s->RelV v u->t v σ H Q ->
  wpAny 130 X.A (assign target X.env u) (λ _ s'=>∃ σ' H',Inv X pins σ' H' s'/\Q σ' H') X.xe s
def PGs (X:Cx)(ts:List Expr)(t:TGs):Prop :=
 ∀ (pins:132) (s:170) (σ:St) (H:Hp) (vs:211) (us:XU) (Q:St->Hp->Prop),Inv X pins σ H s->Vals vs us->t vs σ H Q ->
  wpAny 130 X.A (assignInOrder ((assignEach ts X.env).map (·.2)) us) (λ _ s'=>∃ σ' H',Inv X pins σ' H' s'/\Q σ' H') X.xe s
abbrev OE:=V->V->V->Hp->(Hp->Prop)->Prop
def z56 (X:Cx)(t:OE):Prop :=
 ∀ (pins:132) (s:170) (σ:St) (H:Hp) (o i v:V) (ov iv u:Value) (Q:Hp->Prop),Inv X pins σ H s->RelV o ov->RelV i iv->RelV v u->t o i v H Q ->
  wpAny 130 X.A (setItem ov iv u) (λ _ s'=>∃ H',Inv X pins σ H' s'/\Q H') X.xe s
section
variable {X:Cx}{pos:Pos}
def Vg (i:Nat):TG:=λ v σ H Q=>Q (σ.set i (some v)) H
theorem Vh {i:Nat}{x:Str}(hN:X.N.Nodup)(hi:X.N[i]?=some x)(hx:Loc X.env.scope x)(hf:X.fn x=true\/X.env.scope.names.lookup x=some .local:=by first | exact .inl rfl | exact .inr rfl | assumption):PG X (.Name x pos) (Vg i):=by
 intro pins s σ H v u Q I r h;exact wpAny_assign_Name (QO I hN hi hx r (λ s' I'=>⟨_,H,I',h⟩) hf)
def z7b:TGs:=λ vs σ H Q=>vs=[]/\Q σ H
def z3n (t:TG)(u:TGs):TGs:=λ vs σ H Q=>∃ v r,vs=v::r/\t v σ H λ σ' H'=>u r σ' H' Q
theorem z15:PGs X [] z7b:=by
 intro pins s σ H vs us Q I r h;obtain ⟨e,h⟩:=h;subst e;cases r;exact assignInOrder_nil ⟨σ,H,I,h⟩
theorem OF {e:Expr}{es:List Expr}{t:TG}{u:TGs}(h1:PG X e t)(h2:PGs X es u)
  (hs:(assignEach (e::es) X.env).map (·.2)=assign e X.env::(assignEach es X.env).map (·.2):=by rfl):PGs X (e::es) (z3n t u):=by
 intro pins s σ H vs us Q I r h;obtain ⟨v,vr,e1,h⟩:=h;subst e1;cases r with
 | cons r rr =>
  rw [hs];refine assignInOrder_cons (thn (h1 pins s σ H _ _ _ I r h) λ _ s1 ⟨σ1,H1,I1,q1⟩=>?_);exact h2 pins s1 σ1 H1 _ _ Q I1 rr q1
def z9k (K:Y00)(n:Nat)(t:TGs):TG:=λ v σ H Q=>∃ a xs,v=.ref a/\SqT K H a xs/\xs.length=n/\t xs σ H Q
theorem OG {es:List Expr}{k:Nat}{t:TGs}{n:Nat}(hc:X.calm=true)(h:PGs X es t)
  (hn:(assignEach es X.env).length=n:=by rfl) (hst:(assignEach es X.env).findIdx? (·.1)=none:=by rfl):PG X (.Tuple es k pos) (z9k X.K n t):=by
 intro pins s σ H v u Q I r hw;obtain ⟨a,xs,e1,hq,hl,hw⟩:=hw;subst e1;cases r;obtain ⟨its,rv,ht,hz⟩:=I.tuple hq;refine assign_Tuple_tuple (I.ok.hd hc) ht (by simp [hn,<- hl,rv.length]) hst λ h' hx=>?_;have I1:Inv X pins σ H { s with heap:=h' }:=I.kept λ b o e=>hx b o (Y0m (Y0i e)) e;exact h pins _ σ H xs _ Q I1 (by simpa using rv) hw
def z9l (to ti:TE)(t:OE):TG:=λ v σ H Q=>to σ H λ o H1=>ti σ H1 λ i H2=>t o i v H2 λ H3=>Q σ H3
theorem OH {o i:Expr}{to ti:TE}{t:OE}(ho:PE X o to)(hi:PE X i ti)(hs:z56 X t)
  (ha:∀ v,assign (.Subscript o i pos) X.env v=(do
   let ov <- holding [v] (eval o X.env)
   let iv <- holding [v,ov] (eval i X.env)
   standAt pos
   holding [v,ov,iv] (setItem ov iv v)
   release [v,ov,iv] []):=by intro _;rfl):PG X (.Subscript o i pos) (z9l to ti t):=by
 intro pins s σ H v u Q I r h;rw [ha];refine wpAny_bind (wpAny_holding (thn (ho pins s σ H _ I h) λ ov s1 ⟨x,H1,I1,r1,q1⟩=>?_));refine wpAny_bind (wpAny_holding (thn (hi pins s1 σ H1 _ I1 q1) λ iv s2 ⟨y,H2,I2,r2,q2⟩=>?_));refine wpAny_bind (wpAny_standAt (wpAny_bind (wpAny_holding (thn (hs pins s2 σ H2 x y v ov iv u _ I2 r1 r2 r q2) λ _ s3 ⟨H3,I3,q3⟩=>?_))));exact wpAny_release ⟨σ,H3,I3,q3⟩
def z57 (te:TE)(g:TG):TS:=λ D σ H=>te σ H λ x H1=>g x σ H1 D.nx
theorem U1 {tg e:Expr}{te:TE}{g:TG}(he:PE X e te)(hg:PG X tg g)(hs:swapsWithSole [tg] e pos.line X.env=pure false:=by rfl)(hw:swappedStores [tg] e X.env=pure none:=by rfl)
  (h1:(assignEach [tg] X.env).map (·.2)=[assign tg X.env]:=by rfl):PS X (.Assign [tg] e pos) (z57 te g):=by
 intro pins s σ H D I h;refine wpAny_Assign_stores (thn (he pins s σ H _ I h) λ v s1 ⟨x,H1,I1,r1,q1⟩=>?_) hs hw;rw [h1];exact thn (hg pins s1 σ H1 x v _ I1 r1 q1) λ _ s2 q=>q
theorem z58 {i:Nat}{x:Str}{e:Expr}{te:TE}{pos':Pos}(hN:X.N.Nodup)(hi:X.N[i]?=some x)(hx:Loc X.env.scope x)(he:PE X e te)(hs:swapsWith e (some (.Name x pos')) pos.line X.env=pure false:=by rfl)(hf:X.fn x=true\/X.env.scope.names.lookup x=some .local:=by first | exact .inl rfl | exact .inr rfl | assumption) :
  PS X (.Assign [.Name x pos'] e pos) (z57 te (Vg i)):=by
 intro pins s σ H D I h;refine wpAny_Assign_Name (thn (he pins s σ H _ I h) λ v s1 ⟨y,H1,I1,r1,q1⟩=>?_) hs;exact QO I1 hN hi hx r1 (λ s2 I2=>⟨_,H1,I2,q1⟩) hf
end
section
variable {X:Cx}{pos:Pos}
def U2 (c:TT)(tb:TS):TS:=λ D σ H=>∃ W:Nat->St->Hp->Prop,(∃ m,W m σ H)/\∀ m σ H,W m σ H ->
 c σ H λ b H1=>if b=true then ∃ N:St->Hp->Prop,(∀ σ' H',N σ' H'->∃ m',m'<m/\W m' σ' H')/\tb { D with nx:=N,ct:=N,bk:=D.nx } σ H1 else D.nx σ H1
theorem OI {c:Expr}{body:List Stmt}{tc:TT}{tb:TS}(hp:PassesOwn 130 X.A X.env X.xe)(hc:PT X c tc)(hb:PSs X body tb):PS X (.While c body [] pos) (U2 tc tb):=by
 intro pins s σ H D I h;obtain ⟨W,⟨m0,w0⟩,turn⟩:=h;refine wpAny_While (codeAny_whileLoop (λ n s'=>∃ σ' H',Inv X pins σ' H' s'/\W n σ' H') ?_ m0 ⟨σ,H,I,w0⟩)
 rintro n s1 ⟨σ1,H1,I1,w1⟩
 refine wpAny_passesOwn hp (thn (hc pins s1 σ1 H1 _ I1 (turn n σ1 H1 w1)) λ b s2 ⟨H2,I2,q2⟩=>?_);cases b with
 | true =>
  obtain ⟨N,hN,q2⟩:=q2;rw [if_pos rfl];refine wpAny_passesOwn hp (thn (hb pins s2 σ1 H2 _ I2 q2) λ f s3 q3=>?_);cases f with
  | next =>
   obtain ⟨σ3,H3,I3,n3⟩:=q3;obtain ⟨m',hm,w3⟩:=hN σ3 H3 n3;exact ⟨m',hm,σ3,H3,I3,w3⟩
  | cont =>
   obtain ⟨σ3,H3,I3,n3⟩:=q3;obtain ⟨m',hm,w3⟩:=hN σ3 H3 n3;exact ⟨m',hm,σ3,H3,I3,w3⟩
  | brk=>exact q3
  | ret v=>exact q3
 | false =>
  rw [if_neg Y0y];exact wpAny_execs_nil ⟨σ1,H2,I2,q2⟩
end
structure It where
 go:Nat->Hp->Prop
 yld:Nat->Hp->V->Hp->Prop
 stop:Nat->Hp->Prop
def yM (X:Cx)(pins:132)(H:Hp)(b:Addr):Prop :=
 H b=none/\b≠X.env.locals/\b∉X.fs/\(b∈X.ex\/X.s₀.heap.objs.size<=b)/\(∀ x c,X.env.cells.lookup x=some c->c≠b)/\∀ p∈X.pn++pins,p.1≠b
theorem Inv.fpOk {X:Cx}{pins:132}{σ:St}{H H':Hp}{s:170}{b:Addr}(I:127)(hb:s.heap.objs.size<=b)(hn:H' b=none):yM X pins H' b:=by
 refine ⟨hn,Y1y (Y0p I.lt hb),I.nofs hb,.inr (Y1n I.sz hb),λ x c e z=>?_,λ p hp z=>?_⟩
 ·obtain ⟨v,q⟩:=I.cell x c e;exact absurd (Y0p q.lt (by rw [z];exact hb)) (Y1f _)
 ·exact absurd (Y0p (Y0i (I.pin p hp).1) (by rw [z];exact hb)) (Y1f _)
structure Turn (P:XZ)(w:World)(K:Y00)(tg:Expr)(J:It)(fp:XV)(it:Addr)(tn:Nat->Heap->Prop):Prop where
 mem:it∈fp
 obj:∀ i h,tn i h->∀ b∈fp,∃ o,h.get? b=some o/\∀ v,o.data≠.cell v
 keep:∀ i h h',tn i h->(∀ b∈fp,∀ o,h.get? b=some o->h'.get? b=some o)->tn i h'
 item:∀ (X:Cx),X.prog=P->X.w=w->X.K=K->X.calm=true->∀ (i:Nat) (pins:132) (s:170) (σ:St) (H:Hp) (E:XQ),Inv X pins σ H s->(∀ b∈fp,yM X pins H b)->tn i s.heap->J.go i H ->
  wpAny (model P w) X.A (pyNext (.ref it)) (λ r s1=>∃ u,r=some u /\
   wpAny (model P w) X.A (letOwnedTupleGo tg (.ref it) u) (λ _ s2=>∃ x H',Inv X pins σ H' s2/\RelV x u/\J.yld i H x H'/\tn (i+1) s2.heap/\∀ b∈fp,H' b=none) E s1) E s
 done:∀ (X:Cx),X.prog=P->X.w=w->X.K=K->X.calm=true->∀ (i:Nat) (pins:132) (s:170) (σ:St) (H:Hp) (E:XQ),Inv X pins σ H s->(∀ b∈fp,yM X pins H b)->tn i s.heap->J.stop i H ->
  wpAny (model P w) X.A (pyNext (.ref it)) (λ r s1=>r=none/\Inv X pins σ H s1) E s
 self:∀ (A:Around) (i:Nat) (s:170) (Q:XQ) (E:XQ),tn i s.heap->Q (.ref it) s->wpAny (model P w) A (pyIter (.ref it)) Q E s
abbrev TI:=St->Hp->(It->Hp->Prop)->Prop
def PIE (X:Cx)(pins:132)(σ:St)(tg:Expr)(R:It->Hp->Prop)(itv:Value)(s2:170):Prop :=
 ∃ (it:Addr) (fp:XV) (tn:Nat->Heap->Prop) (J:It) (H':Hp),itv=.ref it/\Inv X pins σ H' s2/\Turn X.prog X.w X.K tg J fp it tn/\tn 0 s2.heap/\(∀ b∈fp,yM X pins H' b)/\R J H'
def PI (X:Cx)(tg iter:Expr)(wi:TI):Prop :=
 ∀ (pins:132) (s:170) (σ:St) (H:Hp) (R:It->Hp->Prop),Inv X pins σ H s->wi σ H R ->
  wpAny 130 X.A (eval iter X.env) (λ v s1=>wpAny 130 X.A (pyIter v) (PIE X pins σ tg R) X.xe s1) X.xe s
theorem ZJ {M:Model}{A:Around}{E:XQ}{s:170}{tg:Expr}{it:Addr}{u:Value}{o:Obj}{n:String}{vs:XJ}{Q:Unit->Shared->Prop}(ho:s.heap.get? it=some o)(hc:o.cls=.type n)(hd:o.data=.fields vs)
    (hn:["enumerate","zip","dict_itemiterator","dict_reverseitemiterator","odict_iterator","itertools.zip_longest","itertools.pairwise"].contains n=false) (hQ:Q () s):wpAny M A (letOwnedTupleGo tg (.ref it) u) Q E s:=by
  unfold letOwnedTupleGo;cases tg<;>first
    | exact wpAny_pure hQ
    | (cases u<;>first
        | exact wpAny_pure hQ
        | (refine wpAny_bind (wpAny_load ho ?_)
           rw [hc,hd];show wpAny M A (if (["enumerate","zip","dict_itemiterator","dict_reverseitemiterator","odict_iterator","itertools.zip_longest","itertools.pairwise"].contains n&&vs[0]?==some (rawInt _))=true then _ else _) Q E s;rw [if_neg (by intro h;rw [hn,Bool.false_and] at h;cases h)];exact wpAny_pure hQ))
def Itl (K:Y00)(a:Addr):It :=
 ⟨λ i H=>∃ xs x,SqL K H a xs/\xs[i]?=some x,λ i H x H'=>H'=H/\∀ xs,SqL K H a xs->xs[i]?=some x,λ i H=>∃ xs,SqL K H a xs/\xs.length<=i⟩
def Itt (K:Y00)(a:Addr):It :=
 ⟨λ i H=>∃ xs x,SqT K H a xs/\xs[i]?=some x,λ i H x H'=>H'=H/\∀ xs,SqT K H a xs->xs[i]?=some x,λ i H=>∃ xs,SqT K H a xs/\xs.length<=i⟩
def Itr (lo:Int)(n:Nat):It:=⟨λ i _=>i<n,λ i H x H'=>H'=H/\x=.int (lo+i),λ i _=>n<=i⟩
theorem JV {P:XZ}{w:World}{K:Y00}{tg:Expr}(a it:Addr):Turn P w K tg (Itl K a) [it] it (λ i h=>h.IsListIter it a i) where
 mem:=by simp
 obj:=λ i h st b hb=>by
  have e:b=it:=by simpa using hb
  subst e;obtain ⟨o,e,c,d⟩:=st;exact ⟨o,e,λ v z=>by rw [d] at z;cases z⟩
 keep:=λ i h h' st k=>st.at λ o e=>k it 133 o e
 item:=by
  intro X hP hw hK hc i pins s σ H E I hf st hg;subst hP hw hK;obtain ⟨xs,x,hq,hx⟩:=hg;obtain ⟨its,rv,p,hz⟩:=I.list hq;obtain ⟨u,hu,ru⟩:=rv.get hx;obtain ⟨f0,f1,f2,f3,f4,f5⟩:=hf it 133;refine wpAny_pyNext_list_item st p.isList (by simpa using hu) λ h' st' sb=>?_;have I1:Inv X pins σ H { s with heap:=h' }:=I.turned (λ b o hb e=>(sb.2 b hb).trans e) f0 f1 f3 f4 f5;obtain ⟨o,e,c,d⟩:=id st';exact ⟨u,rfl,ZJ e c d 123 ⟨x,H,I1,ru,⟨rfl,λ ys hy=>by rw [I.list_inj hy hq];exact hx⟩,st',λ b hb=>(hf b hb).1⟩⟩
 done:=by
  intro X hP hw hK hc i pins s σ H E I hf st hg;subst hP hw hK;obtain ⟨xs,hq,hx⟩:=hg;obtain ⟨its,rv,p,hz⟩:=I.list hq;obtain ⟨f0,f1,f2,f3,f4,f5⟩:=hf it 133;have hl:=rv.length;exact wpAny_pyNext_list_end (I.ok.hd hc) st p.isList 166 λ h' eb=>162
 self:=λ _ _ _ _ _ st h=>wpAny_pyIter_listiter st h
theorem U3 {P:XZ}{w:World}{K:Y00}{tg:Expr}(a it:Addr):Turn P w K tg (Itt K a) [it] it (λ i h=>h.IsTupleIter it a i) where
 mem:=by simp
 obj:=λ i h st b hb=>by
  have e:b=it:=by simpa using hb
  subst e;obtain ⟨o,e,c,d⟩:=st;exact ⟨o,e,λ v z=>by rw [d] at z;cases z⟩
 keep:=λ i h h' st k=>st.at λ o e=>k it 133 o e
 item:=by
  intro X hP hw hK hc i pins s σ H E I hf st hg;subst hP hw hK;obtain ⟨xs,x,hq,hx⟩:=hg;obtain ⟨its,rv,p,hz⟩:=I.tuple hq;obtain ⟨u,hu,ru⟩:=rv.get hx;obtain ⟨f0,f1,f2,f3,f4,f5⟩:=hf it 133;refine wpAny_pyNext_tuple_item st (show s.heap.IsTuple a its.toArray from p) (by simpa using hu) λ h' st' sb=>?_;have I1:Inv X pins σ H { s with heap:=h' }:=I.turned (λ b o hb e=>(sb.2 b hb).trans e) f0 f1 f3 f4 f5;obtain ⟨o,e,c,d⟩:=id st';exact ⟨u,rfl,ZJ e c d 123 ⟨x,H,I1,ru,⟨rfl,λ ys hy=>by rw [I.tuple_inj hy hq];exact hx⟩,st',λ b hb=>(hf b hb).1⟩⟩
 done:=by
  intro X hP hw hK hc i pins s σ H E I hf st hg;subst hP hw hK;obtain ⟨xs,hq,hx⟩:=hg;obtain ⟨its,rv,p,hz⟩:=I.tuple hq;obtain ⟨f0,f1,f2,f3,f4,f5⟩:=hf it 133;have hl:=rv.length;exact wpAny_pyNext_tuple_end (I.ok.hd hc) st (show s.heap.IsTuple a its.toArray from p) 166 λ h' eb=>162
 self:=λ _ _ _ _ _ st h=>wpAny_pyIter_tupleiter st h
theorem U4 {P:XZ}{w:World}{K:Y00}{tg:Expr}(it:Addr)(lo:Int)(n:Nat):Turn P w K tg (Itr lo n) [it] it (λ i h=>IsRangeIter h it (lo+(i:Nat)*1) ((n:Int)-(i:Nat)) 1) where
 mem:=by simp
 obj:=λ i h st b hb=>by
  have e:b=it:=by simpa using hb
  subst e;exact ⟨_,st,λ v z=>by
   have z':=z;cases z'⟩
 keep:=λ i h h' st k=>k it 133 _ st
 item:=by
  intro X hP hw hK hc i pins s σ H E I hf st hg;subst hP hw hK;obtain ⟨f0,f1,f2,f3,f4,f5⟩:=hf it 133;have W:=Walks.range (prog:=X.prog) (w:=X.w) (I.ok.hd hc) it lo 1 n;refine W.item i s _ _ hg st λ v h' tk hv st' kk=>?_;obtain ⟨t,rfl⟩:=hv;have I1:Inv X pins σ H { s with heap:=h',toks:=tk }:=I.turned (λ b o hb e=>kk b o (by simpa using hb) e) f0 f1 f3 f4 f5;refine ⟨_,rfl,ZJ st' rfl rfl 123 ⟨.int (lo+i),H,I1,⟨t,?_⟩,⟨rfl,rfl⟩,st',λ b hb=>(hf b hb).1⟩⟩;rw [Int.mul_one]
 done:=by
  intro X hP hw hK hc i pins s σ H E I hf st hg;subst hP hw hK;obtain ⟨f0,f1,f2,f3,f4,f5⟩:=hf it 133;exact wpAny_pyNext_range_end (I.ok.hd hc) st (by have:n<=i:=hg;omega) λ h' eb=>162
 self:=λ _ _ _ _ _ st h=>wpAny_pyIter_rangeiter st h
section
variable {X:Cx}{tg:Expr}
def z7c (K:Y00)(tl:TE):TI:=λ σ H R=>tl σ H λ x H1=>∃ a,x=.ref a/\(∃ xs,SqL K H1 a xs)/\R (Itl K a) H1
theorem z16 {l:Expr}{tl:TE}(hl:PE X l tl):PI X tg l (z7c X.K tl):=by
 intro pins s σ H R I h;refine thn (hl pins s σ H _ I h) λ v s1 ⟨x,H1,I1,r1,q1⟩=>?_;obtain ⟨a,e,⟨xs,hq⟩,q⟩:=q1;subst e;cases r1;obtain ⟨its,rv,p,hz⟩:=I1.list hq;refine wpAny_pyIter_list p.isList ?_;refine ⟨s1.heap.objs.size,[s1.heap.objs.size],_,_,H1,rfl,I1.kept λ b o e=>Y02 _ e,JV a _,240,λ b hb=>?_,q⟩;have e:b=s1.heap.objs.size:=by simpa using hb
 subst e;exact I1.fpOk 176 (I1.hok.fresh 176)
theorem OJ {pins:132}{σ:St}{H:Hp}{s:170}{R:It->Hp->Prop}{E:XQ}{lo hi:Int}{t u v:Tok}{tk:Nat}(I:127)(h1:-(2 ^ 62)<=lo)(h2:lo<2 ^ 62)(h3:-(2 ^ 62)<=hi)(h4:hi<2 ^ 62)
  (q:R (Itr lo (hi-lo).toNat) H):wpAny 130 X.A (pyIter 233) (PIE X pins σ tg R) E { s with heap:=s.heap.push { cls:=.type "range",data:=.fields #[.int lo t,.int hi u,.int 1 v] },toks:=tk }:=by
 refine wpAny_pyIter_range (IsRange.new ..) (small_one h1 h2 h3 h4) ?_;have I1:Inv X pins σ H { s with heap:=s.heap.push { cls:=.type "range",data:=.fields #[.int lo t,.int hi u,.int 1 v] },toks:=tk }:=I.kept λ b o e=>Y02 _ e;refine ⟨(s.heap.push { cls:=.type "range",data:=.fields #[.int lo t,.int hi u,.int 1 v] }).objs.size,[(s.heap.push { cls:=.type "range",data:=.fields #[.int lo t,.int hi u,.int 1 v] }).objs.size],_,_,H,rfl,
  I1.kept λ b o e=>Y02 _ e,U4 _ lo (hi-lo).toNat,?_,λ b hb=>?_,q⟩
 ·have e1:lo+((0:Nat):Int)*1=lo:=by simp
  have e2:(((hi-lo).toNat:Nat):Int)-((0:Nat):Int)=Builtin.Range.rangeSize lo hi 1:=by rw [rangeSize_one];split<;>omega
  show IsRangeIter _ _ (lo+((0:Nat):Int)*1) ((((hi-lo).toNat:Nat):Int)-((0:Nat):Int)) 1;rw [e1,e2];exact Y0h _ rfl
 ·have e:b=(s.heap.push { cls:=.type "range",data:=.fields #[.int lo t,.int hi u,.int 1 v] }).objs.size:=by simpa using hb
  subst e;exact I1.fpOk 176 (I1.hok.fresh 176)
def z7d (ta:TA):TI:=λ σ H R=>ta σ H λ vs H1=>∃ j:Int,vs=[.int j]/\-(2 ^ 62)<=j/\j<2 ^ 62/\R (Itr 0 j.toNat) H1
theorem Gm {a:Expr}{ta:TA}{p pos:Pos} (hg:Gl X "range") (hm:X.mg "range"=none) (ha:PA X [a] ta) (hs:starEach [a] X.env=[(false,eval a X.env)]:=by rfl):PI X tg (.Call (.Name "range" p) [a] [] pos) (z7d ta):=by
 intro pins s σ H R I h;refine Call_ (wI I hg hm boot_range (Y1b (thn (ha pos pins s σ H _ I h) λ us s1 ⟨vs,H1,I1,r1,q1⟩=>?_) hs rfl));obtain ⟨j,e,q1,q2,q⟩:=q1;subst e;cases r1 with
 | cons r rr =>
  cases rr;obtain ⟨t,rfl⟩:=r;exact call_range_1 (OJ I1 117 117 q1 q2 (by simpa using q))
def z59 (wi:TI)(g:TG)(tb:TS):TS:=λ D σ H=>wi σ H λ J H1=>∃ W:Nat->Nat->St->Hp->Prop,(∃ m,W 0 m σ H1)/\∀ i m σ H,W i m σ H ->
 (J.stop i H/\D.nx σ H)\/(J.go i H/\∃ N:St->Hp->Prop,(∀ σ' H',N σ' H'->∃ m',m'<m/\W (i+1) m' σ' H')/\∀ x H',J.yld i H x H'->g x σ H' λ σ2 H2=>tb { D with nx:=N,ct:=N,bk:=D.nx } σ2 H2)
def yd (fp:XV)(h:Heap):List (Addr×Obj):=fp.filterMap λ b=>(h.get? b).map λ o=>(b,o)
theorem wJ {fp:XV}{h:Heap}{b:Addr}{o:Obj}(hb:b∈fp)(e:h.get? b=some o):(b,o)∈yd fp h:=List.mem_filterMap.mpr ⟨b,hb,by rw [e];rfl⟩
theorem JW {fp:XV}{h:Heap}{p:Addr×Obj}(hp:p∈yd fp h):p.1∈fp/\h.get? p.1=some p.2:=by
 obtain ⟨b,hb,e⟩:=List.mem_filterMap.mp hp;cases q:h.get? b with
 | none=>rw [q] at e;cases e
 | some o =>
  rw [q] at e;have e':=Option.some.inj e;subst e';exact ⟨hb,q⟩
theorem Inv.pinned {pins:132}{σ:St}{H:Hp}{s:170}{fp:XV}(I:127)(hf:∀ b∈fp,yM X pins H b)(ho:∀ b∈fp,∃ o,s.heap.get? b=some o/\∀ v,o.data≠.cell v):Inv X (pins++yd fp s.heap) σ H s :=
 I.pins_of λ p hp=>(Y0r.mp hp).elim (λ z=>I.pin p (Y0q _ z)) λ z=>by
  obtain ⟨hb,e⟩:=JW z;obtain ⟨f0,f1,f2,_⟩:=hf p.1 hb;obtain ⟨o,e',d⟩:=ho p.1 hb;rw [e] at e';cases e';exact ⟨e,f0,f1,f2,d⟩
theorem Inv.unpinned {pins pl:132}{σ:St}{H:Hp}{s:170}(I:Inv X (pins++pl) σ H s):Inv X pins σ H s:=I.pins_of λ p hp=>I.pin p (Y0q _ (Y0v _ hp))
theorem z5a {iter:Expr}{body:List Stmt}{wi:TI}{g:TG}{tb:TS}{pos:Pos}(hp:PassesOwn 130 X.A X.env X.xe)(hc:X.calm=true)(hi:PI X tg iter wi)(hg:PG X tg g)(hb:PSs X body tb)
  (hs:∀ x,foldedSetIterable iter X.env x=pure x:=by intro _;rfl):PS X (.For tg iter body [] pos) (z59 wi g tb):=by
 intro pins s σ H D I h;refine wpAny_For (thn (hi pins s σ H _ I h) λ v s1 h1=>thn h1 λ itv s2 h2=>?_) hs;obtain ⟨it,fp,tn,J,H2,e,I2,T,st2,f2,W,⟨m0,w0⟩,turn⟩:=h2;subst e;have stat:∀ {H':Hp},(∀ b∈fp,H' b=none)->∀ b∈fp,yM X pins H' b:=λ hn b hb=>⟨hn b hb,(f2 b hb).2⟩;refine codeAny_forLoop_any (λ n s'=>∃ i σ' H',Inv X pins σ' H' s'/\tn i s'.heap/\(∀ b∈fp,H' b=none)/\W i n σ' H') ?_ m0 ⟨0,σ,H2,I2,st2,λ b hb=>(f2 b hb).1,w0⟩
 rintro n s3 ⟨i,σ3,H3,I3,st3,fr3,w3⟩
 rcases turn i n σ3 H3 w3 with ⟨stop,qn⟩ | ⟨go,N,hN,step⟩
 ·refine wpAny_passesOwn hp (thn (T.done X rfl rfl rfl hc i pins s3 σ3 H3 X.xe I3 (stat fr3) st3 stop) λ r s4 ⟨hr,I4⟩=>?_);subst hr;exact wpAny_execs_nil ⟨σ3,H3,I4,qn⟩
 ·refine wpAny_passesOwn hp (thn (T.item X rfl rfl rfl hc i pins s3 σ3 H3 X.xe I3 (stat fr3) st3 go) λ r s4 ⟨u,hr,h4⟩=>?_);subst hr;refine wpAny_passesOwn hp (thn h4 λ _ s5 ⟨x,H5,I5,r5,y5,st5,fr5⟩=>?_);have I5':=I5.pinned (stat fr5) (T.obj _ _ st5);refine wpAny_passesOwn hp (thn (hg _ s5 σ3 H5 x u _ I5' r5 (step x H5 y5)) λ _ s6 ⟨σ6,H6,I6,q6⟩=>?_);refine wpAny_passesOwn hp (thn (hb _ s6 σ6 H6 _ I6 q6) λ f s7 q7=>?_);have again:∀ {σ7:St}{H7:Hp},Inv X (pins++yd fp s5.heap) σ7 H7 s7->N σ7 H7->∃ m,m<n/\∃ i σ' H',Inv X pins σ' H' s7/\tn i s7.heap/\(∀ b∈fp,H' b=none)/\W i m σ' H':=λ {σ7 H7} I7 n7=>by
   obtain ⟨m',hm,w7⟩:=hN σ7 H7 n7;refine ⟨m',hm,i+1,σ7,H7,I7.unpinned,T.keep _ _ _ st5 λ b hb o e=>(I7.pin (b,o) (Y0q _ (Y0q _ (wJ hb e)))).1,λ b hb=>?_,w7⟩;obtain ⟨o,e,d⟩:=T.obj _ _ st5 b hb;exact (I7.pin (b,o) (Y0q _ (Y0q _ (wJ hb e)))).2.1
  cases f with
  | next=>obtain ⟨σ7,H7,I7,n7⟩:=q7;exact again I7 n7
  | cont=>obtain ⟨σ7,H7,I7,n7⟩:=q7;exact again I7 n7
  | brk=>obtain ⟨σ7,H7,I7,q7⟩:=q7;exact ⟨σ7,H7,I7.unpinned,q7⟩
  | ret v=>obtain ⟨x7,σ7,H7,I7,r7,q7⟩:=q7;exact ⟨x7,σ7,H7,I7.unpinned,r7,q7⟩
end
abbrev R2:=V->V->Hp->VK->Prop
def OpR (X:Cx)(f:Value->Value->Sem Value)(r:R2):Prop :=
 ∀ (pins:132) (s:170) (σ:St) (H:Hp) (x y:V) (v u:Value) (Q:VK),Inv X pins σ H s->RelV x v->RelV y u->r x y H Q ->
  wpAny 130 X.A (f v u) (EP X pins σ Q) X.xe s
def UnR (X:Cx)(f:Value->Sem Value)(r:V->Hp->VK->Prop):Prop :=
 ∀ (pins:132) (s:170) (σ:St) (H:Hp) (x:V) (v:Value) (Q:VK),Inv X pins σ H s->RelV x v->r x H Q ->
  wpAny 130 X.A (f v) (EP X pins σ Q) X.xe s
def jd (X:Cx)(f:Value)(r:List V->Hp->VK->Prop):Prop :=
 ∀ (pins:132) (s:170) (σ:St) (H:Hp) (xs:211) (us:XU) (Q:VK),Inv X pins σ H s->Vals xs us->r xs H Q ->
  wpAny 130 X.A (call f us) (EP X pins σ Q) X.xe s
def tOp (r:R2)(ta tb:TE):TE:=λ σ H Q=>ta σ H λ x H1=>tb σ H1 λ y H2=>r x y H2 Q
def tUn (r:V->Hp->VK->Prop)(ta:TE):TE:=λ σ H Q=>ta σ H λ x H1=>r x H1 Q
def rI (C:Int->Int->Prop)(g:Int->Int->V):R2:=λ x y H Q=>∃ i j,x=.int i/\y=.int j/\C i j/\Q (g i j) H
def rI0 (g:Int->Int->V):R2:=λ x y H Q=>∃ i j,x=.int i/\y=.int j/\Q (g i j) H
def rU (g:Int->V):V->Hp->VK->Prop:=λ x H Q=>∃ i,x=.int i/\Q (g i) H
section
variable {X:Cx}{a b c:Expr}{ta tb tc:TE}{pos:Pos}
theorem z5b (ha:PE X a ta)(hb:PE X b tb){pins:132}{s:170}{σ:St}{H:Hp}{R:V->V->Hp->Prop}(I:127)
  (h:ta σ H λ x H1=>tb σ H1 λ y H2=>R x y H2) {Q:XQ}{f:Value->Value->Sem Value}
  (hf:∀ v u s2 x y H2,Inv X pins σ H2 s2->RelV x v->RelV y u->R x y H2->wpAny 130 X.A (f v u) Q X.xe s2) :
  wpAny 130 X.A (eval a X.env) (λ v s₁=>wpAny 130 X.A (eval b X.env) (λ u s₂=>wpAny 130 X.A (f v u) Q X.xe s₂) X.xe s₁) X.xe s:=by
 refine thn 249 λ v s1 ⟨x,H1,I1,r1,q1⟩=>?_;refine thn (hb pins s1 σ H1 _ I1 q1) λ u s2 ⟨y,H2,I2,r2,q2⟩=>?_;exact hf v u s2 x y H2 I2 r1 r2 q2
theorem z7e {op:Operator}{r:R2}(ho:OpR X (binaryOp op) r)(ha:PE X a ta)(hb:PE X b tb):PE X (.BinOp a op b pos) (tOp r ta tb):=by
 intro pins s σ H Q I h;exact wpAny_BinOp (z5b ha hb I h λ v u s2 x y H2 I2 rx ry q=>ho pins s2 σ H2 x y v u Q I2 rx ry q)
theorem OK {op:UnaryOp}{r:V->Hp->VK->Prop}(ho:UnR X (unaryOp op) r)(ha:PE X a ta):PE X (.UnaryOp op a pos) (tUn r ta):=by
 intro pins s σ H Q I h;exact UnaryOp_ (thn 249 λ v s1 ⟨x,H1,I1,r1,q1⟩=>ho pins s1 σ H1 x v Q I1 r1 q1)
theorem opI {f:Value->Value->Sem Value}{C:Int->Int->Prop}{g:Int->Int->Int}
  (rule:∀ (i j:Int) (t u:Tok) (s:170) (Q:XQ) (E:XQ),C i j->Q (.int (g i j) s.toks) { s with toks:=s.toks+1 }->wpAny (model X.prog X.w) X.A (f (.int i t) (.int j u)) Q E s) :
  OpR X f (rI C λ i j=>.int (g i j)):=by
 intro pins s σ H x y v u Q I rx ry h;obtain ⟨i,j,rfl,rfl,hc,q⟩:=h;obtain ⟨t,rfl⟩:=rx;obtain ⟨t',rfl⟩:=ry;exact rule i j t t' s _ _ hc ⟨.int (g i j),H,I.tok _,150,q⟩
theorem z7f {f:Value->Value->Sem Value}{g:Int->Int->Int}
  (rule:∀ (i j:Int) (t u:Tok) (s:170) (Q:XQ) (E:XQ),Q (.int (g i j) s.toks) { s with toks:=s.toks+1 }->wpAny (model X.prog X.w) X.A (f (.int i t) (.int j u)) Q E s) :
  OpR X f (rI0 λ i j=>.int (g i j)):=by
 intro pins s σ H x y v u Q I rx ry h;obtain ⟨i,j,rfl,rfl,q⟩:=h;obtain ⟨t,rfl⟩:=rx;obtain ⟨t',rfl⟩:=ry;exact rule i j t t' s _ _ ⟨.int (g i j),H,I.tok _,150,q⟩
theorem z17 {f:Value->Value->Sem Value}{g:Int->Int->Bool}
  (rule:∀ (i j:Int) (t u:Tok) (s:170) (Q:XQ) (E:XQ),Q (.bool (g i j)) s->wpAny 130 X.A (f (.int i t) (.int j u)) Q E s) :
  OpR X f (rI0 λ i j=>.bl (g i j)):=by
 intro pins s σ H x y v u Q I rx ry h;obtain ⟨i,j,rfl,rfl,q⟩:=h;obtain ⟨t,rfl⟩:=rx;obtain ⟨t',rfl⟩:=ry;exact rule i j t t' s _ _ ⟨.bl (g i j),H,I,rfl,q⟩
def z9m (i j:Int):Prop:=0<j/\j<1073741824
def z9n (i j:Int):Prop:=0<=j/\j<=1000000/\i.natAbs<2 ^ 64
def zam (i j:Int):Prop:=(-(2 ^ 64)<i/\i<2 ^ 64)\/(-(2 ^ 64)<j/\j<2 ^ 64)
theorem z5c:OpR X (binaryOp .Add) (rI0 λ i j=>.int (i+j)):=z7f λ _ _ _ _ _ _ _ q=>add_int q
theorem z5d:OpR X (binaryOp .Sub) (rI0 λ i j=>.int (i-j)):=z7f λ _ _ _ _ _ _ _ q=>sub_int q
theorem z18:OpR X (binaryOp .FloorDiv) (rI z9m λ i j=>.int (i/j)):=opI λ i j _ _ _ _ _ hc q=>by
 have h1:=hc.1;have h2:j<1073741824:=hc.2;exact floordiv_int 117 (by rw [Int.fdiv_eq_ediv_of_nonneg i 117];exact q) (.inl (PyProof.noPylong_small 117))
theorem z5e:OpR X (binaryOp .Mod) (rI (λ _ j=>0<j) λ i j=>.int (i%j)):=opI λ i j _ _ _ _ _ hc q=>by
 have h1:(0:Int)<j:=hc;exact mod_int' 117 (by rw [Int.fmod_eq_emod_of_nonneg i 117];exact q)
theorem z5f:OpR X (binaryOp .Pow) (rI z9n λ i j=>.int (i ^ j.toNat)):=opI λ _ _ _ _ _ _ _ hc q=>pow_int_small hc.1 hc.2.1 hc.2.2 q
theorem unI {f:Value->Sem Value}{g:Int->Int}
  (rule:∀ (i:Int) (t:Tok) (s:170) (Q:XQ) (E:XQ),Q (.int (g i) s.toks) { s with toks:=s.toks+1 }->wpAny (model X.prog X.w) X.A (f (.int i t)) Q E s) :
  UnR X f (rU λ i=>.int (g i)):=by
 intro pins s σ H x v Q I rx h;obtain ⟨i,rfl,q⟩:=h;obtain ⟨t,rfl⟩:=rx;exact rule i t s _ _ ⟨.int (g i),H,I.tok _,150,q⟩
theorem z5g:UnR X (unaryOp .USub) (rU λ i=>.int (-i)):=unI λ _ _ _ _ _ q=>neg_int q
theorem z5h:UnR X (unaryOp .Invert) (rU λ i=>.int (Builtin.bitNot i)):=unI λ _ _ _ _ _ q=>invert_int q
end
section
variable {X:Cx}{a b c:Expr}{ta tb tc:TE}{pos:Pos}
theorem ZM {pins:132}{σ:St}{H:Hp}{s:170}{Q:VK}{k k':Bool}(I:127)(q:Q (.bl k) H)(e:k=k'):EP X pins σ Q (.bool k') s:=by
 subst e;exact ⟨.bl k,H,I,rfl,q⟩
theorem z7g:OpR X (compareOp .Lt) (rI0 λ i j=>.bl (decide (i<j))):=z17 λ _ _ _ _ _ _ _ q=>lt_int q
theorem z7h:OpR X (compareOp .LtE) (rI0 λ i j=>.bl (decide (i<=j))):=z17 λ _ _ _ _ _ _ _ q=>le_int q
theorem z7i:OpR X (compareOp .Gt) (rI0 λ i j=>.bl (decide (j<i))):=z17 λ _ _ _ _ _ _ _ q=>gt_int q
theorem z7j:OpR X (compareOp .GtE) (rI0 λ i j=>.bl (decide (j<=i))):=z17 λ _ _ _ _ _ _ _ q=>ge_int q
theorem Gn:OpR X (compareOp .In) (λ x y H Q=>∃ i j,x=.str i/\y=.str j/\Q (.bl (!(Builtin.Str.occurrences j i 0 j.length 1).isEmpty)) H):=by
 intro pins s σ H x y v u Q I rx ry h;obtain ⟨i,j,rfl,rfl,q⟩:=h;obtain ⟨t,rfl⟩:=rx;obtain ⟨t',rfl⟩:=ry;exact in_str (ZM I q rfl)
theorem Vi {op:CmpOp}{r:R2}(ho:OpR X (compareOp op) r)(ha:PE X a ta)(hb:PE X b tb)(hm:behindInMarks op b=false):PE X (.Compare a [op] [b] pos) (tOp r ta tb):=by
 intro pins s σ H Q I h;exact wpAny_Compare1 (z5b ha hb I h λ v u s2 x y H2 I2 rx ry q=>ho pins s2 σ H2 x y v u Q I2 rx ry q) hm
def OL (t:TE):TT:=λ σ H Q=>t σ H λ x H'=>∃ k,x=.bl k/\Q k H'
theorem Vj {op:CmpOp}{r:R2}(ho:OpR X (compareOp op) r)(ha:PE X a ta)(hb:PE X b tb)(hm:behindInMarks op b=false):PT X (.Compare a [op] [b] pos) (OL (tOp r ta tb)):=by
 intro pins s σ H Q I h;refine wpAny_isTrue_Compare1 (thn 249 λ v s1 ⟨x,H1,I1,r1,q1⟩=>thn (hb pins s1 σ H1 _ I1 q1) λ u s2 ⟨y,H2,I2,r2,q2⟩ =>
  thn (ho pins s2 σ H2 x y v u _ I2 r1 r2 q2) λ c s3 ⟨z,H3,I3,r3,k,e,q3⟩=>?_) hm
 subst e;cases r3;exact wpAny_truthy_bool ⟨H3,I3,q3⟩
theorem yN:(sizeLine:Nat)<2 ^ 63:=by rw [sizeLine_eq];decide
theorem U5:OpR X (binaryOp .Add) (λ x y H Q=>∃ i j,x=.str i/\y=.str j/\i.length+j.length<=sizeLine/\Q (.str (i++j)) H):=by
 intro pins s σ H x y v u Q I rx ry h;obtain ⟨i,j,rfl,rfl,hz,q⟩:=h;obtain ⟨t,rfl⟩:=rx;obtain ⟨t',rfl⟩:=ry;exact add_str (λ t' tk=>⟨.str (i++j),H,I.tok _,150,q⟩) hz
theorem Z6 {x:V}{us:XU}(r:Vals [x] us):∃ u,us=[u]/\RelV x u:=by
 cases r with
 | cons r1 r2=>cases r2;exact ⟨_,rfl,r1⟩
theorem OM {x y:V}{us:XU}(r:Vals [x,y] us):∃ u w',us=[u,w']/\RelV x u/\RelV y w':=by
 cases r with
 | cons r1 r2 =>
  cases r2 with
  | cons r3 r4=>cases r4;exact ⟨_,_,rfl,r1,r3⟩
theorem ON:jd X (.builtin "abs") (λ xs H Q=>∃ i,xs=[.int i]/\Q (.int (if i<0 then -i else i)) H):=by
 intro pins s σ H xs us Q I r h;obtain ⟨i,rfl,q⟩:=h;obtain ⟨u,rfl,t,rfl⟩:=Z6 r;exact call_abs_int λ u tk=>⟨.int (if i<0 then -i else i),H,I.tok _,150,q⟩
theorem Go (hc:X.calm=true):jd X (.builtin "min") (λ xs H Q=>∃ i j,xs=[.int i,.int j]/\Q (.int (if j<i then j else i)) H):=by
 intro pins s σ H xs us Q I r h;obtain ⟨i,j,rfl,q⟩:=h;obtain ⟨u,w',rfl,⟨t,rfl⟩,⟨t',rfl⟩⟩:=OM r;refine min_two_ints (I.ok.hd hc) λ h' tk k=>⟨_,H,I.kept k,?_,q⟩;by_cases hj:j<i
 ·rw [if_pos hj,if_pos hj];exact 150
 ·rw [if_neg hj,if_neg hj];exact 150
theorem JX:jd X (.type "int") (λ xs H Q=>(∃ i,xs=[.int i]/\Q 222 H)\/∃ k,xs=[.bl k]/\Q (.int (if k then 1 else 0)) H):=by
 intro pins s σ H xs us Q I r h;rcases h with ⟨i,rfl,q⟩ | ⟨k,rfl,q⟩
 ·obtain ⟨u,rfl,t,rfl⟩:=Z6 r;exact call_int_int ⟨.int i,H,I,150,q⟩
 ·obtain ⟨u,rfl,r1⟩:=Z6 r;cases r1;exact call_int_bool ⟨.int (if k then 1 else 0),H,I.tok _,150,q⟩
def z9o (K:Y00)(x:V)(H:Hp)(n:Nat):Prop :=
 match x with
 | .str y=>y.length<=sizeLine/\n=y.length
 | .byt y=>y.size<=sizeLine/\n=y.size
 | .ref p=>(∃ xs,SqL K H p xs/\n=xs.length)\/∃ xs,SqT K H p xs/\n=xs.length
 | _=>False
theorem OO:jd X (.builtin "len") (λ xs H Q=>∃ x n,xs=[x]/\z9o X.K x H n/\Q (.int n) H):=by
 intro pins s σ H xs us Q I r h;obtain ⟨x,n,rfl,e,q⟩:=h;obtain ⟨u,rfl,rx⟩:=Z6 r;have hl:=yN;have hs:=sizeLine_eq;cases x with
 | str y =>
  obtain ⟨t,rfl⟩:=rx;obtain ⟨hy,e'⟩:y.length<=sizeLine/\n=y.length:=e;subst e';exact len_str 117 ⟨.int _,H,I.tok _,150,q⟩
 | byt y =>
  obtain ⟨t,rfl⟩:=rx;obtain ⟨hy,e'⟩:y.size<=sizeLine/\n=y.size:=e;subst e';exact PySem.W.len_bytes 117 ⟨.int _,H,I.tok _,150,q⟩
 | ref p =>
  cases rx;have e':=e;rcases e' with ⟨xs,hx,e'⟩ | ⟨xs,hx,e'⟩
  ·subst e';obtain ⟨its,r',pl,hz⟩:=I.list hx;have vQ:=r'.length;exact Calls.call_len_list pl.isList (by simp only [Y0e];omega) ⟨.int xs.length,H,I.tok _,⟨_,by simp only [Y0e];rw [vQ]⟩,q⟩
  ·subst e';obtain ⟨its,r',pl,hz⟩:=I.tuple hx;have vQ:=r'.length;exact len_tuple pl (by simp only [Y0e];omega) ⟨.int xs.length,H,I.tok _,⟨_,by simp only [Y0e];rw [vQ]⟩,q⟩
 | _=>exact (show False from e).elim
end
structure ObjM (h:Heap)(x dx C:Addr)(mA:XW):Prop where
 obj:h.get? x=some (PySem.W.instObj C dx)
 ns:h.Ns1 dx mA
 ne:dx≠x
theorem Gp {h:Heap}{dx:Addr}{mA:XW}(n:h.Ns1 dx mA):∃ od,h.get? dx=some od/\∀ name,PySem.W.lookIn name od=some (mA name):=by
 obtain ⟨o,es,ep,ho,hd,hk,_,hm⟩:=n;refine ⟨o,ho,λ name=>?_⟩;have e:=hm name;unfold nsFind findBy at e;rw [<- Array.find?_toList] at e;unfold PySem.W.lookIn;rw [hd];dsimp only
 split
 ·rename_i y q;rw [q] at e;exact congrArg some e
 ·rename_i q;rw [q] at e;have a:es.toList.any (·.refKey)=false:=by
   rw [List.any_eq_false];intro y hy;obtain ⟨z,t,hkey⟩:=hk y (Array.mem_toList_iff.mp hy);simp [DictEntry.refKey,hkey]
  have a':¬ es.toList.any (·.refKey)=true:=by rw [a];exact Y0y
  rw [if_neg a'];exact congrArg some e
theorem ObjM.look {h:Heap}{x dx C:Addr}{mA:XW}(I:ObjM h x dx C mA):∃ od,PySem.W.InstAt h x (PySem.W.instObj C dx) C (some od)/\∀ name,PySem.W.lookIn name od=some (mA name) :=
 let ⟨od,ho,hl⟩:=Gp I.ns
 ⟨od,⟨I.obj,rfl,rfl,ho⟩,hl⟩
section
variable {prog:XZ}{w:World}{A:Around}{E:XQ}{s:170}{K:Y00}{x dx C f:Addr}{mA:XW}{name:Str}{v:Value}
theorem z19 {expr:Bool}{Q:XQ}(X:K.In s.heap)(I:ObjM s.heap x dx C mA)(hg:PySem.W.plainGet K C name=true)(hh:PySem.W.hasDictIn K C=true)
  (ha:PySem.W.findIn K (.ref C) name=some none) (hv:mA name=some v) (hv':PySem.W.handedIn v=true) (h:Q v { s with toks:=s.toks+1 }) :
  wpAny 137 A (getAttr (.ref x) name expr) Q E s:=by
 obtain ⟨od,J,hl⟩:=I.look;exact PySem.W.get_value X J (PySem.W.plainGet_of hg).1 (PySem.W.findObj_own hh ha rfl (by rw [hl,hv])) hv' h
theorem z1a {ns:XY}{Q:Unit->Shared->Prop}(X:K.In s.heap)(I:ObjM s.heap x dx C mA)
  (hs:PySem.W.findIn K (.ref C) "__setattr__"=some (some (.builtin "object.__setattr__"))) (hp:PySem.W.plainOver K C=true) (ht:PySem.W.takerIn K C name=some none) (hh:PySem.W.hasDictIn K C=true)
  (hw:PySem.Within mA ns) (hsz:ns.length<=sizeLine)
  (h:∀ h',ObjM h' x dx C (λ y=>if y=name then some v else mA y)->Heap.SameBut dx s.heap h'->Q () { s with heap:=h',toks:=s.toks+2 }) :
  wpAny 137 A (setAttr (.ref x) name v) Q E s:=by
 obtain ⟨od,J,hl⟩:=I.look;refine PySem.W.set_plain X J hs (PySem.W.osa_open X J hp ht λ b=>?_);obtain ⟨cd,hc,hd'⟩:=PySem.W.any_some hh;have hx:=I.obj;refine wpAny_bind (wpAny_pure (wpAny_bind (wpAny_bind (wpAny_loadPart hx (wpAny_bind (PySem.W.Looks.here (PySem.W.looks_clsIn X hc) ?_))))));rw [hd'];refine wpAny_pure (wpAny_bind (wpAny_pure (wpAny_bind ?_)));refine wpAny_nsSet1 I.ns λ h' hn2 hs2=>?_;obtain ⟨oD,esD,epD,hoD,hdD,hcD⟩:=hn2.count (PySem.Within.cons name v hw);refine wpAny_bind (wpAny_lookBehind hoD (by rw [hdD];exact pastItsLine_dict (Y1n hcD (by rw [Y03];omega))) ?_);exact wpAny_pure (h _ ⟨(hs2.2 _ (Ne.symm I.ne)).trans I.obj,hn2,I.ne⟩ hs2)
theorem OP {R:Result->Shared->Prop}{vs:XU}{kw:List (Str×Value)}(X:K.In s.heap)(hm:PySem.W.makesIn K C=true)
    (hi:PySem.W.findIn K (.ref C) "__init__"=some (some (.ref f))) (hf:PySem.W.typeIn K (.ref f)=some (.type "function"))
    (h:codeAny 137 (A.under (.builtin "type.__call__" ⟨.ref C::vs,kw⟩)) (.call (.ref f) ⟨.ref 179::vs,kw⟩) (PySem.W.InitBack 179 R)
      { s with heap:=(s.heap.push PySem.W.emptyDict).push (PySem.W.instObj C s.heap.objs.size) }) :
    codeAny 137 A (.call (.ref C) ⟨vs,kw⟩) R s:=by
  obtain ⟨hh,g,d,t,os⟩:=s;exact PySem.W.make_core (PySem.W.makes_of X hm) (PySem.W.looks_findIn X hi) (λ self=>PySem.W.bind_fn X self hf) 206 h
end
def wK (f:Str)(v:V):List (Str×V)->List (Str×V)
 | []=>[(f,v)]
 | (g,x)::r=>if g=f then (g,v)::r else (g,x)::wK f v r
theorem Z7 (f g:Str)(v:V):∀ fs:List (Str×V),(wK f v fs).lookup g=if g=f then some v else fs.lookup g
 | []=>by
  show List.lookup g [(f,v)]=_;by_cases h:g=f
  ·have hb:=beq_iff_eq.mpr h;simp only [List.lookup,hb,if_pos h]
  ·have hb:=beq_eq_false_iff_ne.mpr h;simp only [List.lookup,hb,if_neg h]
 | (k,x)::r=>by
  have ih:=Z7 f g v r;rw [show wK f v ((k,x)::r)=(if k=f then (k,v)::r else (k,x)::wK f v r) from rfl];by_cases hk:k=f
  ·rw [if_pos hk];by_cases h:g=k
   ·have hb:=beq_iff_eq.mpr h;simp only [List.lookup,hb,if_pos (h.trans hk)]
   ·have hb:=beq_eq_false_iff_ne.mpr h;simp only [List.lookup,hb,if_neg (λ e:g=f=>h (e.trans hk.symm))]
  ·rw [if_neg hk];by_cases h:g=k
   ·have hb:=beq_iff_eq.mpr h;simp only [List.lookup,hb,if_neg (λ e:g=f=>hk (h.symm.trans e))]
   ·have hb:=beq_eq_false_iff_ne.mpr h;simp only [List.lookup,hb];exact ih
theorem yO (f:Str)(v:V):∀ fs:List (Str×V),f∈(wK f v fs).map (·.1)/\∀ g,g∈fs.map (·.1)->g∈(wK f v fs).map (·.1)
 | []=>⟨by simp [wK],λ g h=>by simp at h⟩
 | (k,x)::r=>by
  obtain ⟨i1,i2⟩:=yO f v r;rw [show wK f v ((k,x)::r)=(if k=f then (k,v)::r else (k,x)::wK f v r) from rfl];by_cases hk:k=f
  ·rw [if_pos hk];subst hk;exact ⟨by simp,λ g h=>by simpa using h⟩
  ·rw [if_neg hk];refine ⟨?_,λ g h=>?_⟩
   ·rw [Y0n];exact Y06 _ i1
   ·rw [Y0n] at h ⊢;rcases Y0g.mp h with e | e
    ·exact Y0g.mpr (.inl e)
    ·exact Y06 _ (i2 g e)
theorem Z8 (f:Str)(v:V):∀ fs:List (Str×V),(wK f v fs).length<=fs.length+1
 | []=>by simp [wK]
 | (k,x)::r=>by
  have ih:=Z8 f v r;rw [show wK f v ((k,x)::r)=(if k=f then (k,v)::r else (k,x)::wK f v r) from rfl];by_cases hk:k=f
  ·rw [if_pos hk,Y03,Y03];omega
  ·rw [if_neg hk,Y03,Y03];omega
theorem RelO.some_of {v:V}{o:Option Value}(r:RelO (some v) o):∃ u,o=some u/\RelV v u:=by
 cases o with
 | none=>exact (show False from r).elim
 | some u=>exact ⟨u,rfl,r⟩
theorem Gq {v:V}{u:Value}(r:RelV v u):PySem.W.handedIn u=true:=by
 cases v with
 | non=>cases (show u=Value.none from r);rfl
 | bl b=>cases (show u=Value.bool b from r);rfl
 | int i=>obtain ⟨t,e⟩:=(show ∃ t,u=Value.int i t from r);cases e;rfl
 | str x=>obtain ⟨t,e⟩:=(show ∃ t,u=Value.str x t from r);cases e;rfl
 | byt b=>obtain ⟨t,e⟩:=(show ∃ t,u=Value.bytes b t from r);cases e;rfl
 | flt b=>obtain ⟨t,e⟩:=(show ∃ t,u=Value.float b t from r);cases e;rfl
 | ref a=>cases (show u=Value.ref a from r);rfl
 | ty n=>cases (show u=Value.type n from r);rfl
section
variable {P:XZ}{w:World}{H H':Hp}{h h':Heap}{a C dx:Addr}{fs fs':List (Str×V)}
theorem WH (hok:HOk P w H h)(e:H a=some (.ins C dx fs)):∃ mA,ObjM h a dx C mA/\(∀ f,RelO (fs.lookup f) (mA f))/\PySem.Within mA (fs.map (·.1))/\fs.length<=1000/\H dx=some (.own a):=by
 obtain ⟨d,z,ne,ob,mA,n,r,q⟩:=(show ObjOk P w H h a (.ins C dx fs) from hok a _ e);exact ⟨mA,⟨ob,n,ne⟩,r,q,z,d⟩
end
structure Cls (K:Y00)(C:Addr):Prop where
 pg:PySem.W.plainGet K C Str.empty=true
 hd:PySem.W.hasDictIn K C=true
 po:PySem.W.plainOver K C=true
 sa:PySem.W.findIn K (.ref C) "__setattr__"=some (some (.builtin "object.__setattr__"))
theorem Cls.get {K:Y00}{C:Addr}(c:Cls K C)(f:Str):PySem.W.plainGet K C f=true:=c.pg
def NoAttr (K:Y00)(C:Addr)(f:Str):Prop:=PySem.W.findIn K (.ref C) f=some none
theorem NoAttr.taker {K:Y00}{C:Addr}{f:Str}(n:NoAttr K C f):PySem.W.takerIn K C f=some none:=by
 unfold PySem.W.takerIn;rw [show PySem.W.findIn K (.ref C) f=some none from n];rfl
structure Con (K:Y00)(C:Addr)(f:Str)(v:V)(u:Value):Prop where
 at_:PySem.W.findIn K (.ref C) f=some (some u)
 rel:RelV v u
 get:PySem.W.specialIn K u "__get__"=some none
 cp:PySem.W.copiedNames.contains f=false
structure Meth (K:Y00)(C:Addr)(m:Str)(f:Addr):Prop where
 at_:PySem.W.findIn K (.ref C) m=some (some (.ref f))
 fn:PySem.W.isFn K (.ref f)=true
 kp:PySem.W.keepIn K (.ref f)=true
section
variable {X:Cx}{pins:132}{σ:St}{H:Hp}{s:170}{a C dx:Addr}{fs:List (Str×V)}{f:Str}{v:V}{A:Around}{E:XQ}
theorem U6 {b:Bool}{Q:XQ}(I:127)(e:H a=some (.ins C dx fs))(c:Cls X.K C)(n:NoAttr X.K C f)(l:fs.lookup f=some v)
  (h:∀ u s',Inv X pins σ H s'->RelV v u->Q u s'):wpAny 130 A (getAttr (.ref a) f b) Q E s:=by
 obtain ⟨mA,O,r,_,_,_⟩:=WH I.hok e;obtain ⟨u,hu,ru⟩:=RelO.some_of (by rw [<- l];exact r f);exact z19 I.kIn O (c.get f) c.hd n hu (Gq ru) (h u _ (I.tok _) ru)
theorem U7 {y:V}{u:Value}{Q:Unit->Shared->Prop}(I:127)(e:H a=some (.ins C dx fs))(c:Cls X.K C)(n:NoAttr X.K C f)(hl:fs.length<1000)(ry:RelV y u)
  (h:∀ s',Inv X pins σ (upd H a (.ins C dx (wK f y fs))) s'->Q () s'):wpAny 130 A (setAttr (.ref a) f u) Q E s:=by
 obtain ⟨mA,O,r,wi,_,ho⟩:=WH I.hok e;have hz:(fs.map (·.1)).length<=sizeLine:=by rw [Y08,sizeLine_eq];omega
 refine z1a I.kIn O c.sa c.po n.taker c.hd wi hz λ h' O' sb=>h _ ?_;have hd:∃ o,h'.get? dx=some o:=let ⟨o,_,_,e',_⟩:=O'.ns;⟨o,e'⟩;refine I.write (by rw [e];exact True.intro) (.inr ho) (λ b q hb z=>(sb.2 b hb).trans z) hd ?_;refine ⟨by rw [zp O.ne];exact ho,?_,O.ne,O'.obj,_,O'.ns,λ g=>?_,λ g hg=>?_⟩
 ·have:=Z8 f y fs;omega
 ·show RelO ((wK f y fs).lookup g) (if g=f then some u else mA g);rw [Z7];by_cases q:g=f
  ·rw [if_pos q,if_pos q];exact ry
  ·rw [if_neg q,if_neg q];exact r g
 ·by_cases q:g=f
  ·rw [q];exact (yO f y fs).1
  ·refine (yO f y fs).2 g (wi g λ z=>hg ?_);show (if g=f then some u else mA g)=none;rw [if_neg q];exact z
theorem Inv.made (I:127):Inv X pins σ (upd (upd H s.heap.objs.size (.own 179)) 179 (.ins C s.heap.objs.size []))
    { s with heap:=(s.heap.push PySem.W.emptyDict).push (PySem.W.instObj C s.heap.objs.size) }:=by
  have e1:(s.heap.push PySem.W.emptyDict).get? s.heap.objs.size=some PySem.W.emptyDict:=Y0h s.heap rfl;have e2:((s.heap.push PySem.W.emptyDict).push (PySem.W.instObj C s.heap.objs.size)).get? 179=some (PySem.W.instObj C s.heap.objs.size):=by
    have:=Y0h (s.heap.push PySem.W.emptyDict) (o:=PySem.W.instObj C s.heap.objs.size) rfl
    rwa [Y1u] at this
  have e3:(s.heap.push PySem.W.emptyDict).Ns s.heap.objs.size (λ _=>none):=⟨PySem.W.emptyDict,#[],_,e1,rfl,(λ e he=>absurd he 133),λ _=>rfl⟩;have I1:=I.laid (a:=s.heap.objs.size) (o:=.own 179) (h':=s.heap.push PySem.W.emptyDict) (t':=s.toks) (λ b u q=>Y02 _ q) 176 ⟨_,e1⟩;refine I1.laid (a:=s.heap.objs.size+1) (o:=.ins C s.heap.objs.size []) (t':=s.toks) (λ b u q=>Y02 _ q) (Nat.le_of_eq (Y1u _ _)) ?_;have ne:s.heap.objs.size≠s.heap.objs.size+1:=Y0m (Y2e _);refine ⟨by rw [zp ne,zA],Y1w _,ne,e2,λ _=>none,(Heap.Ns1.of_empty e3).at λ o q=>Y02 _ q,λ _=>True.intro,λ y hy=>absurd rfl hy⟩
theorem z1b {prog:XZ}{w:World}{env:Env}{e:Expr}{f:Str}{pos:Pos}{s:170}{Q:XQ}(hb:attributeBase e f env (eval e env)=eval e env)
  (h:wpAny 137 A (eval e env) (λ o s₁=>wpAny 137 A (getAttr o f true) Q E s₁) E s):wpAny 137 A (eval (.Attribute e f pos) env) Q E s :=
 Attribute_any_ h (by rw [arm_eval_Attribute,hb])
end
def z9p (K:Y00)(ta:TE)(f:Str):TE:=λ σ H Q=>ta σ H λ x H1=>∃ a C dx fs v,x=.ref a/\H1 a=some (.ins C dx fs)/\Cls K C/\NoAttr K C f/\fs.lookup f=some v/\Q v H1
def z9q (K:Y00)(ta tv:TE)(f:Str):TS:=λ D σ H=>tv σ H λ y H1=>ta σ H1 λ x H2=>∃ a C dx fs,x=.ref a/\H2 a=some (.ins C dx fs)/\Cls K C/\NoAttr K C f/\fs.length<1000 /\
 D.nx σ (upd H2 a (.ins C dx (wK f y fs)))
section
variable {X:Cx}{o e value:Expr}{f:Str}{pos pos' tpos:Pos}{ta tv:TE}
theorem z5i (he:PE X e ta)(hb:attributeBase e f X.env (eval e X.env)=eval e X.env):PE X (.Attribute e f pos) (z9p X.K ta f):=by
 intro pins s σ H Q I h;refine z1b hb (thn (he pins s σ H _ I h) λ u s1 ⟨x,H1,I1,rx,a,C,dx,fs,v,ex,ea,c,n,l,q⟩=>?_);subst ex;obtain rfl:u=Value.ref a:=rx;exact U6 I1 ea c n l λ u' s2 I2 ru=>⟨v,H1,I2,ru,q⟩
theorem z5j (ha:PE X o ta)(hv:PE X value tv)(hs:swapsWith value (some (.Attribute o f pos')) pos.line X.env=pure false):PS X (.Assign [.Attribute o f pos'] value pos) (z9q X.K ta tv f):=by
 intro pins s σ H D I h;refine plainObj_wpAny_Assign_Attribute (thn (hv pins s σ H _ I h) λ u s1 ⟨y,H1,I1,ry,q⟩=>thn (ha pins s1 σ H1 _ I1 q) λ ov s2 ⟨x,H2,I2,rx,a,C,dx,fs,ex,ea,c,n,l,q2⟩=>?_) hs;subst ex;obtain rfl:ov=Value.ref a:=rx;exact U7 I2 ea c n l ry λ s3 I3=>⟨σ,_,I3,q2⟩
end
section
variable {X:Cx}{pins:132}{σ:St}{H:Hp}{s:170}{A:Around}{E:XQ}{Q:XQ}{c:Value}{b:Bool}
inductive TyOf (K:Y00)(H:Hp):V->Value->Prop where
 | non:TyOf K H .non (.type "NoneType")
 | bl (x:Bool):TyOf K H (.bl x) (.type "bool")
 | int (i:Int):TyOf K H 222 (.type "int")
 | str (x:Str):TyOf K H 248 (.type "str")
 | flt (x:UInt64):TyOf K H (.flt x) (.type "float")
 | lst {a:Addr}{xs:211} (e:H a=some 210):TyOf K H (.ref a) (.type "list")
 | frz {a:Addr}{o:Obj}{xs:211} (e:H a=some (.frz o 210)):TyOf K H (.ref a) (.type "list")
 | tup {a:Addr}{xs:211} (e:H a=some (.tup xs)):TyOf K H (.ref a) (.type "tuple")
 | dK {a:Addr}{kvs:List (Key×V)} (e:H a=some (.dK kvs)):TyOf K H (.ref a) (.type "dict")
 | dT {a:Addr}{kvs:List (List Key×V)} (e:H a=some (.dT kvs)):TyOf K H (.ref a) (.type "dict")
 | ins {a C dx:Addr}{fs:List (Str×V)} (e:H a=some (.ins C dx fs)) (cl:Cls K C) (ha:PySem.W.findIn K (.ref C) "__class__"=some (some 180))
   (hn:PySem.W.specialIn K 180 "__get__"=some (some (.builtin "getset_descriptor.__get__"))) (htk:PySem.W.takesIn K 180=some true)
   (hm:PySem.W.mroIn K C (.type "object")=some true):TyOf K H (.ref a) (.ref C)
theorem wC {x:V}{u t:Value}(I:127)(rx:RelV x u)(ty:TyOf X.K H x t)(e:PySem.W.kitOne X.K t c=some b)(h:∀ tk,Q (.bool b) { s with toks:=tk }) :
  wpAny 130 A (call (.builtin "isinstance") [u,c]) Q E s:=by
 cases ty with
 | non=>cases (show u=Value.none from rx);exact Y1a PySem.W.kitx_none I.kIn True.intro e (λ z=>nomatch z) h
 | bl y=>cases (show u=Value.bool y from rx);exact Y1a PySem.W.kitx_bool I.kIn True.intro e (λ z=>nomatch z) h
 | int i=>obtain ⟨t,q⟩:=(show ∃ t,u=Value.int i t from rx);cases q;exact Y1a PySem.W.kitx_int I.kIn True.intro e (λ z=>nomatch z) h
 | str y=>obtain ⟨t,q⟩:=(show ∃ t,u=Value.str y t from rx);cases q;exact Y1a PySem.W.kitx_str I.kIn True.intro e (λ z=>nomatch z) h
 | flt y=>obtain ⟨t,q⟩:=(show ∃ t,u=Value.float y t from rx);cases q;exact Y1a PySem.W.kitx_float I.kIn True.intro e (λ z=>nomatch z) h
 | @lst a xs ea =>
  cases (show u=Value.ref a from rx);obtain ⟨_,_,n,_,h1⟩:=(show ObjOk X.prog X.w H s.heap a 210 from I.hok a _ ea);exact Y1a Y2x I.kIn ⟨_,h1,rfl⟩ e (λ z=>nomatch z) h
 | @frz a ob xs ea =>
  cases (show u=Value.ref a from rx);obtain ⟨_,_,_,n,_,h1⟩:=(show ObjOk X.prog X.w H s.heap a (.frz ob 210) from I.hok a _ ea);exact Y1a Y2x I.kIn ⟨_,h1,rfl⟩ e (λ z=>nomatch z) h
 | @tup a xs ea =>
  cases (show u=Value.ref a from rx);obtain ⟨_,_,_,p⟩:=(show ObjOk X.prog X.w H s.heap a (.tup xs) from I.hok a _ ea);obtain ⟨o,h1,h2,_⟩:=p;exact Y1a PySem.W.kitx_tuple I.kIn ⟨o,h1,h2⟩ e (λ z=>nomatch z) h
 | @dK a kvs ea =>
  cases (show u=Value.ref a from rx);obtain ⟨_,_,vs,_,p⟩:=(show ObjOk X.prog X.w H s.heap a (.dK kvs) from I.hok a _ ea);obtain ⟨o,es,ep,h1,h2,_⟩:=p;exact Y1a PySem.W.kitx_dict I.kIn ⟨o,h1,h2.1⟩ e (λ z=>nomatch z) h
 | @dT a kvs ea =>
  cases (show u=Value.ref a from rx);obtain ⟨_,_,xs,_,o,es,ep,h1,h2,_⟩:=(show ObjOk X.prog X.w H s.heap a (.dT kvs) from I.hok a _ ea);exact Y1a PySem.W.kitx_dict I.kIn ⟨o,h1,h2.1⟩ e (λ z=>nomatch z) h
 | @ins a C dx fs ea cl ha hn htk hm =>
  cases (show u=Value.ref a from rx);obtain ⟨mA,O,_⟩:=WH I.hok ea;obtain ⟨od,J,_⟩:=O.look;exact Y1a (PySem.W.kitx_own (cl.get _) cl.hd ha hn htk hm) I.kIn J e (λ z=>nomatch z) h
end
structure Room (k:Nat)(A:Around):Prop where
 hd:A.handled=none
 dp:A.depth+3*k+5<recursionLimit
 un:A.units+16*k+200<cLine
theorem Room.mono {j k:Nat}{A:Around}(r:Room k A)(h:j<=k):Room j A:=⟨r.hd,by have:=r.dp;omega,by have:=r.un;omega⟩
theorem Room.deeper {k:Nat}{A:Around}(r:Room (k+1) A)(env:Env):Room k (A.deeper env) :=
 ⟨r.hd,by have:=r.dp;show A.depth+1+3*k+5<_;omega,by have:=r.un;show A.units+3+16*k+200<_;omega⟩
theorem U8 {A:Around}{C:Addr}{us:XU}{kw:List (Str×Value)}:(A.under (.builtin "type.__call__" ⟨.ref C::us,kw⟩)).depth=A.depth+1:=by
 first | rfl | simp [Around.under,Code.weight,Code.isCreation,Code.isGuard,Code.isCaller,Code.frames,Code.isFrame,guardIds]
theorem U9 {A:Around}{C:Addr}{us:XU}{kw:List (Str×Value)}:(A.under (.builtin "type.__call__" ⟨.ref C::us,kw⟩)).units=A.units+1:=by
 first | rfl | simp [Around.under,Code.cUnits,Code.frames,Code.isFrame]
theorem Room.make {k:Nat}{A:Around}(r:Room (k+1) A)(C:Addr)(us:XU)(kw:List (Str×Value)):Room k (A.under (.builtin "type.__call__" ⟨.ref C::us,kw⟩)) :=
 ⟨r.hd,by have:=r.dp;rw [U8];omega,by have:=r.un;rw [U9];omega⟩
theorem Room.depth {k:Nat}{A:Around}(r:Room k A):A.depth<recursionLimit:=by have:=r.dp;omega
theorem Room.units {k:Nat}{A:Around}(r:Room k A):A.units+64<cLine:=by have:=r.un;omega
def z9r:TA:=λ _ H Q=>Q [] H
def OQ (ta:TE)(tr:TA):TA:=λ σ H Q=>ta σ H λ x H1=>tr σ H1 λ xs H2=>Q (x::xs) H2
section
variable {X:Cx}{e:Expr}{es:List Expr}{te:TE}{t:TA}{pos:Pos}
theorem zW:PA X [] z9r:=λ _ _ _ _ H Q I h=>Calls.spliced_nil ⟨[],H,I,.nil,h⟩
theorem zC (ha:PE X e te)(hr:PA X es t)(hs:starEach (e::es) X.env=(false,eval e X.env)::starEach es X.env:=by rfl):PA X (e::es) (OQ te t):=by
 intro pos pins s σ H Q I h;rw [hs];show wpAny _ _ (spliced ((false,eval e X.env)::backTo pos (starEach es X.env))) _ _ s;refine Calls.spliced_cons (thn 249 λ u s1 ⟨x,H1,I1,r1,q1⟩=>?_);exact thn (hr pos pins s1 σ H1 _ I1 q1) λ us s2 ⟨xs,H2,I2,r2,q2⟩=>⟨x::xs,H2,I2,.cons r1 r2,q2⟩
def z9s (t:TA):TE:=λ σ H Q=>t σ H λ xs H1=>xs.length<=sizeLine/\∀ p,H1 p=none->Q (.ref p) (upd H1 p (.tup xs))
def z9t (t:TA):TE:=λ σ H Q=>t σ H λ xs H1=>xs.length<=sizeLine/\∀ p,H1 p=none->Q (.ref p) (upd H1 p 210)
theorem OR {x1}(h:PA X es t):PE X (.Tuple es x1 pos) (z9s t):=by
 intro pins s σ H Q I hq;refine wpAny_Tuple_spliced (thn (h pos pins s σ H _ I hq) λ us s1 ⟨xs,H1,I1,r,z,q⟩=>⟨by rw [<- r.length];exact z,?_⟩);have hf:=I1.hok.fresh 176;refine ⟨.ref s1.heap.objs.size,upd H1 s1.heap.objs.size (.tup xs),I1.laid (λ b u e=>Y02 _ e) 176 ?_,rfl,q _ hf⟩;exact ⟨z,us,r,⟨_,Y0h _ rfl,rfl,_,rfl⟩⟩
theorem Ua (h:PA X es t):PE X (.List es pos) (z9t t):=by
 intro pins s σ H Q I hq;refine wpAny_List_spliced (thn (h pos pins s σ H _ I hq) λ us s1 ⟨xs,H1,I1,r,z,q⟩=>⟨by rw [<- r.length];exact z,?_⟩);have hf:=I1.hok.fresh 176;refine ⟨.ref s1.heap.objs.size,upd H1 s1.heap.objs.size 210,I1.laid (λ b u e=>Y02 _ e) 176 ?_,rfl,q _ hf⟩;exact ⟨z,us,0,r,Y0h _ rfl⟩
end
abbrev Sp:=List V->Hp->VK->XK->Prop
abbrev CXT:=List Env->Hp->Shared->XK->Value->Shared->Prop
structure Env0 (P:XZ)(w:World)(K:Y00)(mg:XW)(base:Heap)(A:Around)(outer:List Env)(s:170)(H:Hp):Prop where
 frames:A.frames=some outer
 mod:Mod K mg base
 bs:∀ b o,base.get? b=some o->s.heap.get? b=some o/\H b=none
 bsz:base.objs.size<=s.heap.objs.size
 funs:s.heap.FunFrames base outer
 frf:∀ b∈frs outer,H b=none
 hok:HOk P w H s.heap
 bare:AllBare s.gens
def CE (outer:List Env)(P:XZ)(w:World)(H:Hp)(s:170)(Q:VK)(u:Value)(s':170):Prop :=
 ∃ v H',s'.os=s.os/\AllBare s'.gens/\Un (frs outer) [] H H' s.heap s'.heap/\HOk P w H' s'.heap/\RelV v u/\Q v H'
def CR (CX:CXT)(outer:List Env)(P:XZ)(w:World)(H:Hp)(s:170)(Q:VK)(E:XK)(r:Result)(s':170):Prop :=
 match r with
 | .ok (.ret u)=>CE outer P w H s Q u s'
 | .ok _=>False
 | .error e=>CX outer H s E e s'
structure FnOk (P:XZ)(w:World)(K:Y00)(mg:XW)(base:Heap)(CX:CXT)(k:Nat)(f:Addr)(fd:FuncData)(ps:XY)(sp:Sp):Prop where
 len:∀ vs H Q E,sp vs H Q E->vs.length=ps.length
 run:∀ (A:Around) (outer:List Env) (s:170) (H:Hp) (args:Args) (us:XU) (vs:211) (Q:VK) (E:XK),Room k A->Env0 P w K mg base A outer s H->BindsTo s fd args (ps.zip us)->Vals vs us->sp vs H Q E ->
  codeAny (model P w) A (.call (.ref f) args) (CR CX outer P w H s Q E) s
theorem Env0.make {P:XZ}{w:World}{K:Y00}{mg:XW}{base:Heap}{A:Around}{outer:List Env}{s:170}{H:Hp}(e:Env0 P w K mg base A outer s H)(C:Addr)(us:XU)(kw:List (Str×Value)) :
  Env0 P w K mg base (A.under (.builtin "type.__call__" ⟨.ref C::us,kw⟩)) outer s H:=⟨by first | exact e.frames | (simpa [Around.under,Code.envs,Code.isFrame,pushEnvs] using e.frames),e.mod,e.bs,e.bsz,e.funs,e.frf,e.hok,e.bare⟩
section
variable {X:Cx}{pins:132}{σ:St}{H:Hp}{s s':170}
theorem Inv.env0 (I:127):Env0 X.prog X.w X.K X.mg X.base X.A X.stack s H :=
 ⟨I.ok.frames,I.ok.mod,I.bs,Y1n I.ok.bsz I.sz,I.stack,I.stkFree,I.hok,I.bare⟩
theorem Inv.after {Q:VK}{u:Value}(I:127)(h:CE X.stack X.prog X.w H s Q u s'):EP X pins σ Q u s':=by
 obtain ⟨v,H',os,bare,un,hok,r,q⟩:=h;obtain ⟨hh,g,d,t,os'⟩:=s';obtain rfl:os'=s.os:=os;exact ⟨v,H',I.call un hok bare (λ b z=>absurd z 133),r,q⟩
end
def Binds (K:Y00)(fd:FuncData)(ps:XY)(ds:XU):Prop :=
 ∀ (s:170) (us:XU),K.In s.heap->(us++ds).length=ps.length->BindsTo s fd ⟨us,[]⟩ (ps.zip (us++ds))
theorem Binds.all {K:Y00}{fd:FuncData}{ps:XY}(h:∀ us:List Value,us.length=ps.length->bindArgs fd ⟨us,[]⟩=pure (ps.zip us)):Binds K fd ps []:=λ s us _ hl=>by
 rw [Y0a] at hl ⊢;exact .of_eq (h us hl)
def z5k (CX:CXT)(X:Cx)(E:XK):Prop:=∀ (pins:132) (σ:St) (H:Hp) (s:170) (e:Value) (s':170),Inv X pins σ H s->CX X.stack H s E e s'->X.xe e s'
section
variable {X:Cx}{CX:CXT}{k:Nat}{f C:Addr}{fd:FuncData}{ps:XY}{sp:Sp}{dvs:211}{ds:XU}{E:XK}{x m:Str}{p pos apos:Pos}{e o:Expr}{es:List Expr}{ta:TE}{t:TA}
theorem z5l {pins:132}{σ:St}{H:Hp}{s:170}{Q:VK}{us:XU}{vs:211}(F:FnOk X.prog X.w X.K X.mg X.base CX k f fd ps sp)(hr:Room k X.A)(hb:Binds X.K fd ps ds)(hd:Vals dvs ds)(hx:z5k CX X E)
  (I:127) (r:Vals vs us) (h:sp (vs++dvs) H Q E):wpAny 130 X.A (call (.ref f) us) (EP X pins σ Q) X.xe s:=by
 have r2:Vals (vs++dvs) (us++ds):=r.append hd;have hl:(us++ds).length=ps.length:=by rw [<- r2.length];exact F.len _ _ _ _ h
 refine wpAny_call (codeAny_mono (F.run X.A X.stack s H ⟨us,[]⟩ (us++ds) (vs++dvs) Q E hr I.env0 (hb s us I.kIn hl) r2 h) λ r s' hq=>?_);cases r with
 | error e=>exact hx pins σ H s e s' I hq
 | ok fl =>
  cases fl with
  | ret u=>exact I.after hq
  | next=>exact False.elim hq
  | brk=>exact False.elim hq
  | cont=>exact False.elim hq
structure Mk (K:Y00)(C f:Addr):Prop where
 makes:PySem.W.makesIn K C=true
 init:PySem.W.findIn K (.ref C) "__init__"=some (some (.ref f))
 fn:PySem.W.isFn K (.ref f)=true
 kp:PySem.W.keepIn K (.ref C)=true
end
section
variable {X:Cx}{CX:CXT}{k:Nat}{f C:Addr}{fd:FuncData}{ps ks:XY}{sp:Sp}{E:XK}{x m:Str}{p pos apos kpos:Pos}{e o:Expr}{es:List Expr}{kws:List Keyword}{te ta:TE}{t tk:TA}{nm:Option Str}
structure KBinds (K:Y00)(fd:FuncData)(ps ks:XY)(g:List Value->List Value->List Value)(gV:List V->List V->List V):Prop where
 to:∀ (s:170) (us ws:XU),K.In s.heap->(g us ws).length=ps.length->BindsTo s fd ⟨us,ks.zip ws⟩ (ps.zip (g us ws))
 rel:∀ {vs:211}{us:XU}{zs:211}{ws:XU},Vals vs us->Vals zs ws->Vals (gV vs zs) (g us ws)
variable {g:List Value->List Value->List Value}{gV:List V->List V->List V}
end
structure FnScope (N P:XY)(sc:Scope):Prop where
 kind:sc.kind=.function
 co:sc.isCoroutine=false
 gen:sc.isGenerator=false
 nd:N.Nodup
 pre:N.take P.length=P
 par:∀ x∈P,sc.names.lookup x=some .local\/sc.names.lookup x=some .cell
 nofree:∀ y∈sc.names,y.2≠.free
theorem JY {kindOf:Str->Option NameKind}{x:Str}:∀ {binds:List (Str×Value)}{m:XW},(∀ v,(x,v)∉binds)->bindL kindOf binds m x=m x
 | [],_,_=>rfl
 | (n,v)::r,m,h=>by
  unfold bindL;rw [JY λ w hw=>h w (Y06 _ hw)]
  split
  ·have:x≠n:=by rintro rfl;exact h v Y0c
   simp [this]
  ·rfl
theorem JZ {kindOf:Str->Option NameKind}{x:Str}:∀ {binds:List (Str×Value)}{m:XW},(∀ v,(x,v)∉binds)->bindC kindOf binds m x=m x
 | [],_,_=>rfl
 | (n,v)::r,m,h=>by
  unfold bindC;rw [JZ λ w hw=>h w (Y06 _ hw)]
  split
  ·rfl
  ·have:x≠n:=by rintro rfl;exact h v Y0c
   simp [this]
theorem W1 {kindOf:Str->Option NameKind}{x:Str}{v:Value}:∀ {P:XY}{vs:XU}{i:Nat}{m:XW},P.Nodup->P[i]?=some x->vs[i]?=some v->kindOf x=some .local ->
  bindL kindOf (P.zip vs) m x=some v
 | [],_,_,_,_,h,_,_=>by simp at h
 | _::_,[],_,_,_,_,h,_=>by simp at h
 | p::P,w::vs,0,m,nd,h1,h2,hk=>by
  simp at h1 h2;subst h1;subst h2;show bindL kindOf ((p,w)::P.zip vs) m p=_;unfold bindL;rw [JY λ v hv=>(Y1o.mp nd).1 (List.of_mem_zip hv).1,if_pos hk];simp
 | p::P,w::vs,i+1,m,nd,h1,h2,hk=>by
  show bindL kindOf ((p,w)::P.zip vs) m x=_;unfold bindL;exact W1 (Y1o.mp nd).2 (by simpa using h1) (by simpa using h2) hk
theorem W3 {kindOf:Str->Option NameKind}{x:Str}{v:Value}:∀ {P:XY}{vs:XU}{i:Nat}{m:XW},P.Nodup->P[i]?=some x->vs[i]?=some v->kindOf x≠some .local ->
  bindC kindOf (P.zip vs) m x=some v
 | [],_,_,_,_,h,_,_=>by simp at h
 | _::_,[],_,_,_,_,h,_=>by simp at h
 | p::P,w::vs,0,m,nd,h1,h2,hk=>by
  simp at h1 h2;subst h1;subst h2;show bindC kindOf ((p,w)::P.zip vs) m p=_;unfold bindC;rw [JZ λ v hv=>(Y1o.mp nd).1 (List.of_mem_zip hv).1,if_neg hk];simp
 | p::P,w::vs,i+1,m,nd,h1,h2,hk=>by
  show bindC kindOf ((p,w)::P.zip vs) m x=_;unfold bindC;exact W3 (Y1o.mp nd).2 (by simpa using h1) (by simpa using h2) hk
def start (N:XY)(vs:211):St:=vs.map some++List.replicate (N.length-vs.length) none
def Ub (CX:CXT)(P:XZ)(w:World)(K:Y00)(mg:XW)(base:Heap)(N:XY)(qual:Str)(scope:Scope)(f:Addr)(cd:Value)(A:Around)(outer:List Env)(s:170)(H:Hp)(E:XK):Cx where
 prog:=P
 w:=w
 K:=K
 mg:=mg
 base:=base
 A:=A.deeper (envOfC qual scope s.heap.objs.size f cd)
 N:=N
 s₀:=s
 H₀:=H
 env:=envOfC qual scope s.heap.objs.size f cd
 outer:=outer
 stack:=envOfC qual scope s.heap.objs.size f cd::outer
 ex:=[]
 calm:=true
 fn:=λ _=>true
 pn:=[]
 xe:=λ e s'=>wpAny (model P w) (A.deeper (envOfC qual scope s.heap.objs.size f cd)) (leaving (envOfC qual scope s.heap.objs.size f cd) e) (λ _ s''=>CX outer H s E e s'') (λ e' s''=>CX outer H s E e' s'') s'
theorem QQ {sc:Scope}{n:Nat}{x:Str}(h:sc.names.lookup x=some .cell):∃ c,(cellsFrom n sc.names []).lookup x=some c:=by
 have q:=Y28 sc.names n [] (.inl h);exact Y2h.mp q
theorem Gr {CX:CXT}{P:XZ}{w:World}{K:Y00}{mg:XW}{base:Heap}{N ps:XY}{qual:Str}{scope:Scope}{f:Addr}{cd:Value}{A:Around}{outer:List Env}{s s1:170}{H:Hp}{E:XK}{us:XU}{vs:211}
  (S:FnScope N ps scope) (hd:A.handled=none) (e0:Env0 P w K mg base A outer s H) (hl:vs.length=ps.length) (r:Vals vs us)
  (x:InCallC s s.heap.objs.size (bindL (envOfC qual scope s.heap.objs.size f cd).kindOf (ps.zip us) λ _=>none) (cellsFrom 179 scope.names []) (bindC (envOfC qual scope s.heap.objs.size f cd).kindOf (ps.zip us) λ _=>none) s1) :
  Inv (Ub CX P w K mg base N qual scope f cd A outer s H E) [] (start N vs) H s1:=by
 have hpl:ps.length<=N.length:=by have:=congrArg List.length S.pre;rw [Y2r] at this;omega
 obtain ⟨h1,tk,rfl,hk⟩:=x.done;have noA:∀ b:Addr,b∉(Ub CX P w K mg base N qual scope f cd A outer s H E).ex:=λ b z=>absurd (show b∈([]:List Addr) from z) 133;refine ⟨⟨e0.mod,S.kind,rfl,rfl,Y04 _,λ y z c h1 h2=>?_,λ y hy=>?_,λ y c _ h=>?_,λ _=>hd,Around.frames_deeper e0.frames,.inr ⟨rfl,rfl⟩,λ b z=>absurd z (noA b),e0.bs,e0.bsz,λ b _ _=>noA b,λ b z=>absurd z (noA b),e0.funs,e0.frf⟩,
  rfl,e0.bare,Un.kept hk,⟨_,x.toInCall.ns,λ i y v h1 h2 h3=>?_⟩,λ y c h=>⟨_,x.cell y c h⟩,e0.hok.fresh 176,λ y c h=>?_,λ p hp=>absurd (show p∈([]:List (Addr×Obj)) from hp) 133,e0.hok.kept hk,?_⟩
 ·exact name_of_addr x.apart (Y0z h1) (Y0z h2)
 ·have hy:scope.names.lookup y=some .cell\/scope.names.lookup y=some .free:=hy;rcases hy with hy | hy
  ·exact QQ hy
  ·exact absurd rfl (S.nofree _ (Y0z hy))
 ·exact Y1z (x.above y c (Y0z h))
 ·have hi:i<vs.length:=by
   unfold start at h2;by_cases hi:i<vs.length
   ·exact hi
   ·rw [Y09 (by simpa using hi)] at h2;rw [List.getElem?_replicate] at h2;split at h2<;>cases h2
  have ha:vs[i]?=some v:=by
   unfold start at h2;rw [Y16 (by simpa using hi),Y0u] at h2;cases e:vs[i]? with
   | none=>rw [e] at h2;cases h2
   | some a=>rw [e] at h2;cases h2;rfl
  obtain ⟨u,hu,rv⟩:=r.get ha;have hp:ps[i]?=some y:=by
   rw [<- S.pre,List.getElem?_take_of_lt 117];exact h1
  have ndP:ps.Nodup:=by rw [<- S.pre];exact S.nd.sublist (List.take_sublist _ _)
  refine ⟨u,rv,?_⟩;rcases S.par y (Y1i hp) with k | k
  ·exact .inl ⟨k,W1 ndP hp hu k⟩
  ·obtain ⟨c,e⟩:=QQ (n:=s.heap.objs.size+1) k;refine .inr ⟨.inl k,c,e,?_⟩;have q:=x.cell y c e;rw [W3 ndP hp hu (by show scope.names.lookup y≠_;rw [k];decide)] at q;exact q
 ·exact e0.hok.fresh (Y1z (x.above y c (Y0z h)))
 ·unfold start;show _=N.length;rw [Y01,Y08,List.length_replicate];omega
theorem z7k {CX:CXT}{P:XZ}{w:World}{K:Y00}{mg:XW}{base:Heap}{k:Nat}{f:Addr}{name qual:Str}{params:Arguments}{body:List Stmt}{scope:Scope}{dV kV doc pm vw ct oc:Value}{an od:Option Addr}
  {osl:213}{N ps:XY}{sp:Sp} (lk:K.lookup f=some ⟨oc,od,.func (PySem.W.fnOf name qual params body scope dV kV doc pm an vw ct),osl⟩) (hcd:PySem.W.codeIn K vw qual=true) (S:FnScope N ps scope)
  (len:∀ vs H Q E,sp vs H Q E->vs.length=ps.length)
  (hbody:∀ (A:Around) (outer:List Env) (s:170) (H:Hp) (vs:211) (Q:VK) (E:XK),Room k (A.deeper (envOfC qual scope s.heap.objs.size f vw))->sp vs H Q E ->
   ∃ t,PSs (Ub CX P w K mg base N qual scope f vw A outer s H E) body t/\t { nx:=λ _ H'=>Q .non H',rt:=Q } (start N vs) H) :
  FnOk P w K mg base CX (k+1) f (PySem.W.fnOf name qual params body scope dV kV doc pm an vw ct) ps sp:=by
 refine ⟨len,λ A outer s H args us vs Q E hr e0 hb r hsp=>?_⟩;have hl:=len _ _ _ _ hsp;have KX:K.In s.heap:=e0.mod.kin.keeps λ b o e=>(e0.bs b o e).1;have lim:s.heap.NoLimit:=e0.mod.nolimit.keeps λ b o e=>(e0.bs b o e).1;have hkind:∀ y∈ps.zip us,scope.names.lookup y.1=some .local\/(scope.names.lookup y.1=some .cell/\((cellsFrom 179 scope.names []).lookup y.1).isSome=true):=λ ⟨n,v⟩ hy=>by
  rcases S.par n (List.of_mem_zip hy).1 with q | q
  ·exact .inl q
  ·exact .inr ⟨q,Y28 _ _ _ (.inl q)⟩
 refine codeAny_call_function hr.depth (KX _ _ lk) rfl S.co S.gen rfl (PySem.W.codeRec_of KX hcd) (hb _ _ _ _ ?_);refine wpAny_newFunctionEnv_cells S.kind hkind λ env he s1 x=>?_;subst he;refine ⟨lim.keeps x.toInCall.keep,codeAny_func ?_⟩;obtain ⟨t,ht,hq⟩:=hbody A outer s H vs Q E (hr.deeper _) hsp;have I:Inv (Ub CX P w K mg base N qual scope f vw A outer s H E) [] (start N vs) H s1:=Gr S hr.hd e0 hl r x;refine wpAny_mono (ht [] s1 (start N vs) H _ I hq) (λ fl s' hs=>?_) λ e s' hs=>hs;have fin:∀ {σ':St}{H':Hp}{v:V}{u:Value},Inv (Ub CX P w K mg base N qual scope f vw A outer s H E) [] σ' H' s'->RelV v u->Q v H'->CE outer P w H s Q u s' :=
  λ {σ' H' v u} J rv q=>⟨v,H',J.os,J.bare,J.base,J.hok,rv,q⟩
 cases fl with
 | ret u =>
  obtain ⟨v,σ',H',J,rv,q⟩:=hs;exact fin J rv q
 | next =>
  obtain ⟨σ',H',J,q⟩:=hs;exact fin (v:=V.non) (u:=Value.none) J rfl q
 | brk =>
  obtain ⟨_,_,_,q⟩:=hs;exact False.elim q
 | cont =>
  obtain ⟨_,_,_,q⟩:=hs;exact False.elim q
section
variable {X:Cx}{x:Str}{p pos:Pos}{e:Expr}{es:List Expr}{t:TA}{id T:String}{r:List V->Hp->VK->Prop}
def tCB (r:List V->Hp->VK->Prop)(t:TA):TE:=λ σ H Q=>t σ H λ vs H1=>r vs H1 Q
theorem wD (hc:jd X (.builtin id) r) (hg:Gl X x) (hm:X.mg x=none) (hv:bootBuiltins x=some (.builtin id)) (ha:PA X (e::es) t) (hn:x≠"__name__":=by decide) (hdb:175=false:=by decide)
  (he:starEach (e::es) X.env=(false,eval e X.env)::starEach es X.env:=by rfl) (hpl:(backTo pos (starEach es X.env)).any (·.1)=false:=by rfl):PE X (.Call (.Name x p) (e::es) [] pos) (tCB r t):=by
 intro pins s σ H Q I h;refine wpAny_Call_Name_kw (wI I hg hm hv ?_ hn hdb);exact PyProof.Rows.callWith_builtin1 (thn (ha pos pins s σ H _ I h) λ us s1 ⟨vs,H1,I1,r1,q1⟩=>hc pins s1 σ H1 vs us Q I1 r1 q1) he hpl
theorem qK (hc:jd X (.type T) r) (hg:Gl X x) (hm:X.mg x=none) (hv:bootBuiltins x=some (.type T)) (ha:PA X (e::es) t) (hn:x≠"__name__":=by decide) (hdb:175=false:=by decide)
  (he:starEach (e::es) X.env=(false,eval e X.env)::starEach es X.env:=by rfl) (hpl:(backTo pos (starEach es X.env)).any (·.1)=false:=by rfl):PE X (.Call (.Name x p) (e::es) [] pos) (tCB r t):=by
 intro pins s σ H Q I h;refine wpAny_Call_Name_kw (wI I hg hm hv ?_ hn hdb);exact Y1b (thn (ha pos pins s σ H _ I h) λ us s1 ⟨vs,H1,I1,r1,q1⟩=>hc pins s1 σ H1 vs us Q I1 r1 q1) he hpl
end
end L2
namespace HT
open PySem PyProof.Rows
section
variable {prog:XZ}{w:World}{A:Around}{E:XQ}{s:170}
theorem cat_tup {t b:Addr}{vs ws:XU}{Q:XQ}(ht:IsTup s.heap t vs.toArray)(hb:IsTup s.heap b ws.toArray)(hv:vs≠[])
  (h1:ws=[]->Q (.ref t) s) (h2:ws≠[]->Q 233 { s with heap:=s.heap.push { cls:=.type "tuple",data:=.seq (vs++ws).toArray } })
  (hsz:vs.length+ws.length<=sizeLine):wpAny 137 A (binaryOp .Add (.ref t) (.ref b)) Q E s:=by
 obtain ⟨⟨cls,dd,data,sl⟩,ho,hc,n,hd⟩:=id ht;obtain ⟨⟨cls2,dd2,data2,sl2⟩,ho2,hc2,n2,hd2⟩:=id hb;simp only at hc hd hc2 hd2;subst hc hd hc2 hd2;have e:vs.toArray++ws.toArray=(vs++ws).toArray:=by simp
 by_cases hw:ws=[]
 ·exact concat_meets ⟨_,ho,rfl⟩ ⟨_,ho2,rfl⟩ noFill_tuple_add seq_tuple_add Y36 Y32 (Y2y _ _)
   (tuple_addW1 t b vs.toArray ws.toArray n n2 dd dd2 sl sl2 (by simpa using hv) (by simp [hw])) ⟨ho,ho2,h1 hw⟩
 ·refine concat_meets ⟨_,ho,rfl⟩ ⟨_,ho2,rfl⟩ noFill_tuple_add seq_tuple_add Y36 Y32 (Y2y _ _)
   (tuple_addW2 t b vs.toArray ws.toArray n n2 dd dd2 sl sl2 (by simpa using hv) (by simpa using hw) (by rw [Y0e,Y0e];exact hsz)) ⟨ho,ho2,?_⟩
  rw [e];exact h2 hw
def sIx (n d:Nat):Option Int->Nat
 | none=>d
 | some v=>if v<0 then (v+(n:Int)).toNat else min v.toNat n
theorem z5m (n d:Nat)(hd:d<=n)(o:Option Int):sIx n d o<=n:=by
 cases o with
 | none=>exact hd
 | some v =>
  show (if v<0 then (v+(n:Int)).toNat else min v.toNat n)<=n;by_cases hv:v<0
  ·rw [if_pos hv];omega
  ·rw [if_neg hv];exact Nat.min_le_right _ _
theorem Vk (v:Int)(n d:Nat):(if v<0 then max (v+(n:Int)) 0 else min v (n:Int))=((sIx n d (some v):Nat):Int):=by
 show (if v<0 then max (v+(n:Int)) 0 else min v (n:Int))=(((if v<0 then (v+(n:Int)).toNat else min v.toNat n):Nat):Int);by_cases hv:v<0
 ·simp only [if_pos hv];omega
 ·simp only [if_neg hv];omega
theorem Uc (lo hi:Option Int)(n:Nat):Builtin.Slice.sliceAdjust lo hi 1 (n:Int)=(((sIx n 0 lo:Nat):Int),((sIx n n hi:Nat):Int)):=by
 have h1:¬ ((1:Int)<0):=by omega
 unfold Builtin.Slice.sliceAdjust;simp only [h1,if_false];refine Prod.ext ?_ ?_
 ·cases lo with
  | none=>rfl
  | some v=>exact Vk v n 0
 ·cases hi with
  | none=>rfl
  | some v=>exact Vk v n n
theorem Ud (i j:Nat):Builtin.Slice.slicePlaces (i:Int) (j:Int) 1=j-i:=by
 unfold Builtin.Slice.slicePlaces;have h1:(1:Int) > 0:=by omega
 simp only [h1,if_true,Int.ediv_one]
 split<;>omega
theorem ZN {v:Value}{o:Option Int}{Q:Option Int->Shared->Prop}(p:IsPart v o)(h:Q o s):wpAny 137 A (Builtin.Slice.slicePartIndex v) Q E s:=by
 cases p with
 | none=>exact slicePart_none h
 | int i t=>exact slicePart_int h
theorem wE {sl:Addr}{vl vu:Value}{lo hi:Option Int}{n:Nat}{Q:Int×Int×Nat->Shared->Prop}(hs:s.heap.IsSliceOf sl vl vu .none)(pl:IsPart vl lo)(pu:IsPart vu hi)
  (h:Q (((sIx n 0 lo:Nat):Int),1,sIx n n hi-sIx n 0 lo) s):wpAny 137 A (Builtin.Slice.sliceApplied (.ref sl) (pure (n:Int))) Q E s:=by
 obtain ⟨os,hos,hcs,hds⟩:=id hs;unfold Builtin.Slice.sliceApplied Builtin.Slice.sliceFields;refine wpAny_bind (wpAny_bind (wpAny_field hos hds rfl (wpAny_bind (wpAny_field hos hds rfl (wpAny_bind (wpAny_field hos hds rfl (wpAny_pure ?_)))))));refine wpAny_bind (slicePart_none ?_);show wpAny _ _ (if ((1:Int)==0)=true then _ else _) _ _ s;rw [if_neg 123];refine wpAny_bind (ZN pl (wpAny_bind (ZN pu (wpAny_bind (wpAny_pure ?_)))));show wpAny _ _ (match Builtin.Slice.sliceAdjust lo hi 1 (n:Int) with | (lo,hi)=>pure (lo,(1:Int),Builtin.Slice.slicePlaces lo hi 1)) _ _ s
 rw [Uc lo hi n];show wpAny _ _ (pure (((sIx n 0 lo:Nat):Int),(1:Int),Builtin.Slice.slicePlaces ((sIx n 0 lo:Nat):Int) ((sIx n n hi:Nat):Int) 1)) _ _ s;rw [Ud];exact wpAny_pure h
theorem OS (xs:XJ)(i k:Nat):((List.range k).filterMap λ (m:Nat)=>xs[((i:Int)+(m:Int)*1).toNat]?).toArray=((xs.toList.drop i).take k).toArray:=by
 have e:(λ (m:Nat)=>xs[((i:Int)+(m:Int)*1).toNat]?)=λ m=>xs[i+m]?:=by
  funext m
  have:((i:Int)+(m:Int)*1).toNat=i+m:=by omega
  rw [this]
 rw [e]
 have:=pick_run xs i k
 rw [Y2i] at this;have e2:((λ x=>xs[x]?)∘λ x=>i+x)=λ m=>xs[i+m]?:=rfl;rw [e2] at this;rw [this]
theorem getItem_tuple_cut {t sl:Addr}{items:XJ}{vl vu:Value}{lo hi:Option Int}{Q:XQ}(ht:IsTup s.heap t items)(hs:s.heap.IsSliceOf sl vl vu .none)(pl:IsPart vl lo)(pu:IsPart vu hi)
  (hw:¬ (sIx items.size 0 lo=0/\sIx items.size items.size hi=items.size))
  (h:Q 233 { s with heap:=s.heap.push { cls:=.type "tuple",data:=.seq ((items.toList.drop (sIx items.size 0 lo)).take (sIx items.size items.size hi-sIx items.size 0 lo)).toArray } })
  (hsz:items.size<=sizeLine):wpAny 137 A (getItem (.ref t) (.ref sl)) Q E s:=by
 have htake:sizeOk (.seq ((items.toList.drop (sIx items.size 0 lo)).take (sIx items.size items.size hi-sIx items.size 0 lo)).toArray):=by
  show ((items.toList.drop (sIx items.size 0 lo)).take (sIx items.size items.size hi-sIx items.size 0 lo)).toArray.size<=sizeLine;rw [Y0e,Y2r,Y3q,Y26];omega
 have hj:sIx items.size items.size hi<=items.size:=z5m _ _ 176 hi;obtain ⟨os,hos,hcs,hds⟩:=id hs;have hTs:s.TypeIs (.ref sl) "slice":=⟨os,hos,hcs⟩;unfold getItem
 try with_reducible refine wpAny_holding ?_
 first | refine wpAny_bind (wpAny_pure ?_) | skip
 refine wpAny_bind (wpAny_sequenceKey ht.typeIs 123 ?_);refine wpAny_bind (wpAny_callSpecial?_slot (name:=Str.ofString "__getitem__") ht.typeIs Y23
  (wpAny_call_entry Y23 ht.typeIs entry_tuple_getitem ?_ (args_tuple_getitem _ _)))
 show wpAny _ _ (Builtin.Tuple.tupleItemsOf (.ref t) >>= _) _ _ s;refine wpAny_bind (tupleItemsOf_ ht ?_);refine wpAny_bind (wpAny_typeOf hTs ?_);rw [if_pos 123];refine wpAny_bind (wE hs pl pu ?_);have hno:¬ (168=true):=by
  intro q;rw [Y0t,Y0t] at q;have q1:((sIx items.size 0 lo:Nat):Int)=0:=eq_of_beq q.1.1;have q2:sIx items.size items.size hi-sIx items.size 0 lo=items.size:=eq_of_beq q.2;exact hw ⟨by omega,by omega⟩
 show wpAny _ _ (if 168=true then _ else _) _ _ s;rw [if_neg hno,OS]
 first
  | exact wpAny_bind (m:=Builtin.Tuple.tupleExact _) (wpAny_newObj_type (wpAny_pure ⟨_,rfl,wpAny_pure h⟩) htake)
  | exact wpAny_bind (m:=Builtin.Tuple.tupleExact _) (wpAny_newObj_type (wpAny_bind (wpAny_pure (wpAny_pure ⟨_,rfl,wpAny_pure h⟩))) htake)
  | exact wpAny_bind (wpAny_bind (m:=Builtin.Tuple.tupleExact _) (wpAny_newObj_type (wpAny_pure (wpAny_pure ⟨_,rfl,wpAny_pure h⟩)) htake))
  | exact wpAny_bind (wpAny_bind (m:=Builtin.Tuple.tupleExact _) (wpAny_newObj_type (wpAny_pure ⟨_,rfl,wpAny_pure h⟩) htake))
end
end HT
namespace L2
open PySem PySem.Spec PyProof.Rows
abbrev TO:=St->Hp->(Option Int->Hp->Prop)->Prop
def PO (X:Cx)(e:Option Expr)(t:TO):Prop :=
 ∀ (pins:132) (s:170) (σ:St) (H:Hp) (Q:Option Int->Hp->Prop),Inv X pins σ H s->t σ H Q ->
  wpAny 130 X.A (evalPart e X.env) (λ u s'=>∃ o H',Inv X pins σ H' s'/\IsPart u o/\Q o H') X.xe s
def z1c:TO:=λ _ H Q=>Q none H
def z7l (t:TE):TO:=λ σ H Q=>t σ H λ x H1=>∃ i,x=.int i/\Q (some i) H1
section
variable {X:Cx}{e:Expr}{te:TE}{lo hi:Option Expr}{tl th:TO}{pos p2:Pos}
theorem z1d:PO X none z1c:=by
 intro pins s σ H Q I h;rw [evalPart_none];exact wpAny_pure ⟨none,H,I,.none,h⟩
theorem z1e (h:PE X e te):PO X (some e) (z7l te):=by
 intro pins s σ H Q I hw;rw [evalPart_some];refine thn (h pins s σ H _ I hw) λ u s1 ⟨x,H1,I1,r1,q1⟩=>?_;obtain ⟨i,rfl,q⟩:=q1;obtain ⟨t,rfl⟩:=r1;exact ⟨some i,H1,I1,.int i t,q⟩
def SlR (X:Cx)(r:V->Option Int->Option Int->Hp->VK->Prop):Prop :=
 ∀ (pins:132) (s:170) (σ:St) (H:Hp) (x:V) (v vl vu:Value) (lo hi:Option Int) (sl:Addr) (Q:VK),Inv X pins σ H s->RelV x v->s.heap.IsSliceOf sl vl vu .none->IsPart vl lo->IsPart vu hi->r x lo hi H Q ->
  ∃ T id,typeLookup (.type T) "__getitem__"=pure (some (.builtin id))/\s.TypeIs v T/\wpAny 130 X.A (getItem v (.ref sl)) (EP X pins σ Q) X.xe s
def tSl (r:V->Option Int->Option Int->Hp->VK->Prop)(te:TE)(tl th:TO):TE:=λ σ H Q=>te σ H λ x H1=>tl σ H1 λ l H2=>th σ H2 λ u H3=>r x l u H3 Q
theorem OT {r:V->Option Int->Option Int->Hp->VK->Prop}(hr:SlR X r)(he:PE X e te)(hl:PO X lo tl)(hu:PO X hi th):PE X (.Subscript e (.Slice lo hi none p2) pos) (tSl r te tl th):=by
 intro pins s σ H Q I h;refine Subscript_ (thn (he pins s σ H _ I h) λ v s1 ⟨x,H1,I1,r1,q1⟩=>?_);refine wpAny_Slice (thn (hl pins s1 σ H1 _ I1 q1) λ vl s2 ⟨l,H2,I2,pl,q2⟩=>thn (hu pins s2 σ H2 _ I2 q2) λ vu s3 ⟨u,H3,I3,pu,q3⟩=>?_);rw [evalPart_none];refine wpAny_pure ?_;have I4:Inv X pins σ H3 { s3 with heap:=s3.heap.push { cls:=.type "slice",data:=.fields #[vl,vu,.none] } }:=I3.kept (t':=s3.toks) λ b ob q=>Y02 _ q;obtain ⟨T,id,hT,ht,hg⟩:=hr pins { s3 with heap:=s3.heap.push { cls:=.type "slice",data:=.fields #[vl,vu,.none] } } σ H3 x v vl vu l u s3.heap.objs.size Q I4 r1 (Heap.IsSliceOf.new ..) pl pu q3;show wpAny 130 X.A (subscriptTail e (.Slice lo hi none p2) v (.ref s3.heap.objs.size)) (EP X pins σ Q) X.xe { s3 with heap:=s3.heap.push { cls:=.type "slice",data:=.fields #[vl,vu,.none] } };exact tail_any (ops:=[.ref s3.heap.objs.size,v]) ht hT hg (by with_unfolding_all rfl)
def Gs (xs:211)(lo hi:Option Int):List V:=(xs.drop (HT.sIx xs.length 0 lo)).take (HT.sIx xs.length xs.length hi-HT.sIx xs.length 0 lo)
theorem Z9 (xs:211)(lo hi:Option Int):(Gs xs lo hi).length<=xs.length:=by
 unfold Gs;rw [Y2r,Y3q];omega
def z9u (K:Y00):V->Option Int->Option Int->Hp->VK->Prop:=λ x lo hi H Q=>∃ a xs,x=.ref a/\SqT K H a xs /\
 ¬ (HT.sIx xs.length 0 lo=0/\HT.sIx xs.length xs.length hi=xs.length)/\∀ p,H p=none->Q (.ref p) (upd H p (.tup (Gs xs lo hi)))
theorem z5n:SlR X (z9u X.K):=by
 intro pins s σ H x v vl vu lo hi sl Q I rx hs pl pu h;obtain ⟨a,xs,rfl,hx,hw,q⟩:=h;cases rx;obtain ⟨its,r,ht,hz⟩:=I.tuple hx;have vQ:its.toArray.size=xs.length:=by rw [Y0e];exact r.length.symm
 refine ⟨"tuple",_,PyProof.Rows.slot_tuple_getitem.lookup,ht.typeIs,?_⟩;refine HT.getItem_tuple_cut ht hs pl pu (by rw [vQ];exact hw) ?_ (by rw [vQ];exact hz);rw [vQ];refine ⟨.ref s.heap.objs.size,_,I.laid (λ b ob q=>Y02 _ q) 176 ?_,rfl,q _ (I.hok.fresh 176)⟩;exact ⟨Y1n (Z9 xs lo hi) hz,_,(r.drop (HT.sIx xs.length 0 lo)).take (HT.sIx xs.length xs.length hi-HT.sIx xs.length 0 lo),IsTup.new _ _⟩
def z7m (K:Y00):R2:=λ x y H Q=>∃ a b xs ys,x=.ref a/\y=.ref b/\SqT K H a xs/\SqT K H b ys/\xs≠[]/\xs.length+ys.length<=sizeLine /\
 (ys=[]->Q (.ref a) H)/\(ys≠[]->∀ p,H p=none->Q (.ref p) (upd H p (.tup (xs++ys))))
theorem Vals.nil_iff {xs:211}{us:XU}(r:Vals xs us):us=[] ↔ xs=[]:=by
 cases r with
 | nil=>simp
 | cons _ _=>simp
theorem z1f:OpR X (binaryOp .Add) (z7m X.K):=by
 intro pins s σ H x y v u Q I rx ry h;obtain ⟨a,b,xs,ys,rfl,rfl,ha,hb,hx,hz,q1,q2⟩:=h;cases rx;cases ry;obtain ⟨its,r1,p1,_⟩:=I.tuple ha;obtain ⟨its2,r2,p2,_⟩:=I.tuple hb;refine HT.cat_tup p1 p2 (λ z=>hx (r1.nil_iff.mp z)) (λ z=>⟨.ref a,H,I,rfl,q1 (r2.nil_iff.mp z)⟩) (λ z=>?_) (by rw [<- r1.length,<- r2.length];exact hz);refine ⟨.ref s.heap.objs.size,_,I.laid (λ b ob q=>Y02 _ q) 176 ?_,rfl,q2 (λ w=>z (r2.nil_iff.mpr w)) _ (I.hok.fresh 176)⟩;exact ⟨by rw [Y01];exact hz,_,r1.append r2,IsTup.new _ _⟩
end
def ixN (n:Nat)(i:Int):Option Nat:=if 0<=i then (if i<n then some i.toNat else none) else if -(n:Int)<=i then some (i+n).toNat else none
def atI {α:Type}(xs:List α)(i:Int):Option α:=(ixN xs.length i).bind λ j=>xs[j]?
theorem z1g {n:Nat}{i:Int}{j:Nat}(h:ixN n i=some j):seqIndex? i n=some j/\j<n/\-(n:Int)<=i/\i<n:=by
 unfold ixN at h;by_cases h0:0<=i
 ·rw [if_pos h0] at h;by_cases h1:i<n
  ·rw [if_pos h1] at h;have e:=Option.some.inj h;exact ⟨by rw [seqIndex_of h0 h1,e],by omega,by omega,h1⟩
  ·rw [if_neg h1] at h;cases h
 ·rw [if_neg h0] at h;by_cases h1:-(n:Int)<=i
  ·rw [if_pos h1] at h;have e:=Option.some.inj h;exact ⟨by rw [seqIndex_neg 117 h1,e],by omega,h1,by omega⟩
  ·rw [if_neg h1] at h;cases h
theorem WI {α:Type}{xs:List α}{i:Int}{v:α}(h:atI xs i=some v):∃ j,seqIndex? i xs.length=some j/\xs[j]?=some v/\j<xs.length/\-(xs.length:Int)<=i/\i<xs.length:=by
 unfold atI at h;cases e:ixN xs.length i with
 | none=>rw [e] at h;cases h
 | some j =>
  rw [e] at h;obtain ⟨h1,h2,h3,h4⟩:=z1g e;exact ⟨j,h1,h,h2,h3,h4⟩
def Vl (b:Expr):Prop:=∀ o i,subscripted b false o i=operate [o,i] (getItem o i)
def IxR (X:Cx)(r:R2):Prop :=
 ∀ (value slice:Expr) (pins:132) (s:170) (σ:St) (H:Hp) (x y:V) (v u:Value) (Q:VK),Inv X pins σ H s->RelV x v->RelV y u->r x y H Q ->
  subscripted slice false v u=operate [v,u] (getItem v u)->wpAny 130 X.A (subscriptTail value slice v u) (EP X pins σ Q) X.xe s
def MtR (X:Cx)(id:String)(r:V->List V->Hp->VK->Prop):Prop :=
 ∀ (pins:132) (s:170) (σ:St) (H:Hp) (x:V) (xs:211) (v:Value) (us:XU) (Q:VK),Inv X pins σ H s->RelV x v->Vals xs us->r x xs H Q ->
  wpAny 130 X.A (call (.builtin id) (v::us)) (EP X pins σ Q) X.xe s
section
variable {X:Cx}{a b:Expr}{ta tb:TE}{pos:Pos}
theorem OU {r:R2}(hr:IxR X r)(ha:PE X a ta)(hb:PE X b tb)(hs:Vl b):PE X (.Subscript a b pos) (tOp r ta tb):=by
 intro pins s σ H Q I h;exact Subscript_ (z5b ha hb I h λ v u s2 x y H2 I2 rx ry q=>hr a b pins s2 σ H2 x y v u Q I2 rx ry q (hs _ _))
def z9v (K:Y00):R2:=λ x y H Q=>∃ p xs i v,x=.ref p/\y=.int i/\SqL K H p xs/\atI xs i=some v/\Q v H
def z9w (K:Y00):R2:=λ x y H Q=>∃ p xs i v,x=.ref p/\y=.int i/\SqT K H p xs/\atI xs i=some v/\Q v H
def z9x:R2:=λ x y H Q=>∃ z i c,x=.str z/\y=.int i/\z.length<=sizeLine/\atI z.cps.toList i=some c/\Q (.str ⟨#[c]⟩) H
theorem Vm:IxR X (z9v X.K):=by
 intro value slice pins s σ H x y v u Q I rx ry h hs;obtain ⟨p,xs,i,z,rfl,rfl,hq,he,q⟩:=h;cases rx;obtain ⟨t,rfl⟩:=ry;obtain ⟨its,r,pl,hz⟩:=I.list hq;obtain ⟨j,h1,h2,h3,h4,h5⟩:=WI he;obtain ⟨w,ew,rw'⟩:=r.get h2;have hl:=r.length;have hn:=yN;have fin:EP X pins σ Q w s:=⟨z,H,I,rw',q⟩;by_cases h0:0<=i
 ·have hj:i.toNat=j:=by
   rw [seqIndex_of h0 h5] at h1;exact Option.some.inj h1
  exact item_listR pl.isList h0 117 (by rw [hj];simpa using ew) fin hs
 ·have hj:(i+(its.toArray.size:Int)).toNat=j:=by
   rw [seqIndex_neg 117 h4] at h1;rw [Y0e,<- hl];exact Option.some.inj h1
  exact subscriptTail_builtinR (x:=w) pl.isList.typeIs slot_list_getitem.lookup
   (wpAny_getItem_list_neg (Q:=λ r s'=>r=w/\EP X pins σ Q r s') pl.isList 117 (by rw [Y0e]<;>omega) 117 (by rw [hj];simpa using ew) ⟨rfl,fin⟩) hs
theorem z5o:IxR X (z9w X.K):=by
 intro value slice pins s σ H x y v u Q I rx ry h hs;obtain ⟨p,xs,i,z,rfl,rfl,hq,he,q⟩:=h;cases rx;obtain ⟨t,rfl⟩:=ry;obtain ⟨its,r,pl,hz⟩:=I.tuple hq;obtain ⟨j,h1,h2,h3,h4,h5⟩:=WI he;obtain ⟨w,ew,rw'⟩:=r.get h2;have hl:=r.length;have hn:=yN;have fin:EP X pins σ Q w s:=⟨z,H,I,rw',q⟩;exact subscriptTail_builtinR (x:=w) pl.typeIs slot_tuple_getitem.lookup
  (getItem_tuple (j:=j) (Q:=λ r s'=>r=w/\EP X pins σ Q r s') pl 117 117 (by rw [Y0e,<- hl];exact h1) (by simpa using ew) ⟨rfl,fin⟩) hs
theorem z5p:IxR X z9x:=by
 intro value slice pins s σ H x y v u Q I rx ry h hs;obtain ⟨z,i,c,rfl,rfl,hz,he,q⟩:=h;obtain ⟨t,rfl⟩:=rx;obtain ⟨t',rfl⟩:=ry;obtain ⟨j,h1,h2,h3,h4,h5⟩:=WI he;have hl:z.cps.toList.length=z.length:=by simp [Str.length]
 rw [hl] at h1 h4 h5;have hn:=yN;exact tail_any (typeIs_str s z t) slot_str_getitem.lookup (getItem_str (c:=c) (by
  have e1:decide (i < -(2 ^ 63:Int))=false:=decide_eq_false 117;have e2:decide (i >= 2 ^ 63)=false:=decide_eq_false 117;rw [e1,e2,Bool.or_false]) (by rw [h1];simpa using h2) ⟨.str ⟨#[c]⟩,H,I.tok _,150,q⟩) hs
theorem WJ (lo hi:Option Int)(n:Nat):(sliceBounds lo hi none n).1=((HT.sIx n 0 lo:Nat):Int)/\(sliceBounds lo hi none n).2.1=((HT.sIx n n hi:Nat):Int)/\(sliceBounds lo hi none n).2.2=1:=by
 refine ⟨?_,?_,rfl⟩
 ·cases lo with
  | none=>simp [sliceBounds,HT.sIx]
  | some i =>
   simp only [sliceBounds,HT.sIx,Option.getD_none,show (1:Int) > 0 by decide,if_true];by_cases h:i<0
   ·simp only [h,if_true]<;>omega
   ·simp only [h,if_false]<;>omega
 ·cases hi with
  | none=>simp [sliceBounds,HT.sIx]
  | some i =>
   simp only [sliceBounds,HT.sIx,Option.getD_none,show (1:Int) > 0 by decide,if_true];by_cases h:i<0
   ·simp only [h,if_true]<;>omega
   ·simp only [h,if_false]<;>omega
theorem JA (its:XU)(lo hi:Option Int):slicePick its.toArray lo hi none=((its.drop (HT.sIx its.length 0 lo)).take (HT.sIx its.length its.length hi-HT.sIx its.length 0 lo)).toArray:=by
 obtain ⟨h1,h2,h3⟩:=WJ lo hi its.toArray.size;unfold slicePick;rw [h1,h2,h3];simp only [sliceRange_one,pick_run,Y0e]<;>rfl
def z9y (K:Y00):V->Option Int->Option Int->Hp->VK->Prop:=λ x lo hi H Q=>∃ a xs,x=.ref a/\SqL K H a xs/\∀ p,H p=none->Q (.ref p) (upd H p (.lst (Gs xs lo hi)))
theorem Vn:SlR X (z9y X.K):=by
 intro pins s σ H x v vl vu lo hi sl Q I rx hs pl pu h;obtain ⟨a,xs,rfl,hx,q⟩:=h;cases rx;obtain ⟨its,r,ht,hz⟩:=I.list hx;have vQ:=r.length;refine ⟨"list",_,slot_list_getitem.lookup,ht.isList.typeIs,?_⟩;refine wpAny_getItem_list_slice ht.isList hs pl pu .none 133 ?_ (by rw [Y0e]<;>omega);rw [JA,<- vQ];refine ⟨.ref s.heap.objs.size,_,I.laid (λ b ob q=>Y02 _ q) 176 ?_,rfl,q _ (I.hok.fresh 176)⟩;exact ⟨Y1n (Z9 xs lo hi) hz,_,0,(r.drop (HT.sIx xs.length 0 lo)).take (HT.sIx xs.length xs.length hi-HT.sIx xs.length 0 lo),Y0h _ rfl⟩
def jJ:V->Bool
 | .non=>true
 | .bl _=>true
 | .int _=>true
 | .str _=>true
 | _=>false
def eqV:V->V->Bool
 | .non,.non=>true
 | .bl a,.bl b=>a==b
 | .bl a,.int b=>(if a then 1 else 0)==b
 | .int a,.bl b=>a==(if b then 1 else 0)
 | .int a,.int b=>a==b
 | .str a,.str b=>a==b
 | _,_=>false
theorem OV {A:Around}{s:170}{y x:V}{u v:Value}(ry:RelV y u)(rx:RelV x v)(fy:jJ y=true)(fx:jJ x=true):SeqAt.EqAt A s u v (eqV y x):=by
 cases y with
 | non =>
  cases ry;cases x with
  | non=>cases rx;exact SeqAt.EqAt.same _
  | bl b=>cases rx;exact SeqAt.EqAt.none_bool b
  | int b=>obtain ⟨t,rfl⟩:=rx;exact SeqAt.EqAt.none_int b t
  | str b=>obtain ⟨t,rfl⟩:=rx;exact SeqAt.EqAt.none_str b t
  | _=>exact absurd (show false=true from fx) Y0y
 | bl a =>
  cases ry;cases x with
  | non=>cases rx;exact SeqAt.EqAt.bool_none a
  | bl b=>cases rx;exact SeqAt.EqAt.bool_bool a b
  | int b=>obtain ⟨t,rfl⟩:=rx;exact SeqAt.EqAt.bool_int a b t
  | str b=>obtain ⟨t,rfl⟩:=rx;exact SeqAt.EqAt.bool_str a b t
  | _=>exact absurd (show false=true from fx) Y0y
 | int a =>
  obtain ⟨t',rfl⟩:=ry;cases x with
  | non=>cases rx;exact SeqAt.EqAt.int_none a t'
  | bl b=>cases rx;exact SeqAt.EqAt.int_bool a t' b
  | int b=>obtain ⟨t,rfl⟩:=rx;exact SeqAt.EqAt.int_int a t' b t
  | str b=>obtain ⟨t,rfl⟩:=rx;exact SeqAt.EqAt.int_str a t' b t
  | _=>exact absurd (show false=true from fx) Y0y
 | str a =>
  obtain ⟨t',rfl⟩:=ry;cases x with
  | non=>cases rx;exact SeqAt.EqAt.str_none a t'
  | bl b=>cases rx;exact SeqAt.EqAt.str_bool a t' b
  | int b=>obtain ⟨t,rfl⟩:=rx;exact SeqAt.EqAt.str_int a t' b t
  | str b=>obtain ⟨t,rfl⟩:=rx;exact SeqAt.EqAt.str_str a t' b t
  | _=>exact absurd (show false=true from fx) Y0y
 | _=>exact absurd (show false=true from fy) Y0y
def eqU (x:V)(u:Value):Bool:=match u with
 | .none=>eqV .non x
 | .bool b=>eqV (.bl b) x
 | .int i _=>eqV 222 x
 | .str z _=>eqV (.str z) x
 | _=>false
theorem WK {x y:V}{u:Value}(r:RelV y u)(f:jJ y=true):eqU x u=eqV y x:=by
 cases y with
 | non=>cases r;rfl
 | bl b=>cases r;rfl
 | int i=>obtain ⟨t,rfl⟩:=r;rfl
 | str z=>obtain ⟨t,rfl⟩:=r;rfl
 | _=>exact absurd (show false=true from f) Y0y
theorem yn {x:V}:∀ {xs:211}{us:XU},Vals xs us->xs.all jJ=true->us.any (eqU x)=xs.any λ y=>eqV y x
 | _,_,.nil,_=>rfl
 | y::xs,u::us,.cons r t,f=>by
  rw [Y33,Y0t] at f;rw [Y1t,Y1t,WK r f.1,yn t f.2]
theorem qm {A:Around}{s:170}{x:V}{v:Value}(rx:RelV x v)(fx:jJ x=true):∀ {xs:211}{us:XU},Vals xs us->xs.all jJ=true->∀ u∈us,SeqAt.EqAt A s u v (eqU x u)
 | _,_,.nil,_=>λ u hu=>by cases hu
 | y::xs,u::us,.cons r t,f=>λ u' hu=>by
  rw [Y33,Y0t] at f;rcases Y0g.mp hu with rfl | hu
  ·rw [WK r f.1];exact OV r rx f.1 fx
  ·exact qm rx fx t f.2 u' hu
def inV (x:V)(xs:211):Bool:=xs.any λ y=>eqV y x
def rIn (K:Y00)(neg:Bool):R2:=λ x y H Q=>∃ p xs,y=.ref p/\(SqL K H p xs\/SqT K H p xs)/\jJ x=true/\xs.all jJ=true/\Q (.bl (if neg then !inV x xs else inV x xs)) H
theorem Gu:OpR X (compareOp .In) (rIn X.K false):=by
 intro pins s σ H x y v u Q I rx ry h;obtain ⟨p,xs,rfl,hq,fx,fs,q⟩:=h;cases ry;rcases hq with hq | hq
 ·obtain ⟨its,r,pl,hz⟩:=I.list hq;refine SeqAt.in_listAt (eqU x) pl.isList (λ w hw=>qm rx fx r fs w (by simpa using hw)) ⟨.bl _,H,I,rfl,?_⟩;rw [show its.toArray.any (eqU x)=its.any (eqU x) by simp,yn r fs];exact q
 ·obtain ⟨its,r,pl,hz⟩:=I.tuple hq;refine SeqAt.in_tupleAt (eqU x) pl (λ w hw=>qm rx fx r fs w (by simpa using hw)) ⟨.bl _,H,I,rfl,?_⟩;rw [show its.toArray.any (eqU x)=its.any (eqU x) by simp,yn r fs];exact q
theorem WL:OpR X (compareOp .NotIn) (rIn X.K true):=by
 intro pins s σ H x y v u Q I rx ry h;obtain ⟨p,xs,rfl,hq,fx,fs,q⟩:=h;cases ry;rcases hq with hq | hq
 ·obtain ⟨its,r,pl,hz⟩:=I.list hq;refine SeqAt.notIn_listAt (eqU x) pl.isList (λ w hw=>qm rx fx r fs w (by simpa using hw)) ⟨.bl _,H,I,rfl,?_⟩;rw [show its.toArray.any (eqU x)=its.any (eqU x) by simp,yn r fs];exact q
 ·obtain ⟨its,r,pl,hz⟩:=I.tuple hq;refine SeqAt.notIn_tupleAt (eqU x) pl (λ w hw=>qm rx fx r fs w (by simpa using hw)) ⟨.bl _,H,I,rfl,?_⟩;rw [show its.toArray.any (eqU x)=its.any (eqU x) by simp,yn r fs];exact q
theorem WM:OpR X (compareOp .NotIn) (λ x y H Q=>∃ i j,x=.str i/\y=.str j/\Q (.bl (!(!(Builtin.Str.occurrences j i 0 j.length 1).isEmpty))) H):=by
 intro pins s σ H x y v u Q I rx ry h;obtain ⟨i,j,rfl,rfl,q⟩:=h;obtain ⟨t,rfl⟩:=rx;obtain ⟨t',rfl⟩:=ry;exact notIn_str ⟨.bl _,H,I,rfl,q⟩
theorem WN:jd X (.type "list") (λ xs H Q=>∃ p ys,xs=[.ref p]/\(SqL X.K H p ys\/SqT X.K H p ys)/\∀ l,H l=none->Q (.ref l) (upd H l (.lst ys))):=by
 intro pins s σ H xs us Q I r h;obtain ⟨p,ys,rfl,hq,q⟩:=h;obtain ⟨u,rfl,rx⟩:=Z6 r;cases rx;have fin:∀ (its:XU),Vals ys its->ys.length<=sizeLine->∀ (h':Heap) (c':Nat),(∀ b o',s.heap.get? b=some o'->h'.get? b=some o') ->
   h'.get? s.heap.objs.size=some { cls:=.type "list",dict:=none,data:=.seq its.toArray c',slots:=#[] }->EP X pins σ Q 233 { s with heap:=h' }:=λ its r' hz h' c' kp e =>
  ⟨.ref s.heap.objs.size,_,I.laid kp 176 (show ObjOk X.prog X.w _ h' _ (.lst ys) from ⟨hz,its,c',r',e⟩),rfl,q _ (I.hok.fresh 176)⟩
 rcases hq with hq | hq
 ·obtain ⟨its,r',pl,hz⟩:=I.list hq;have vQ:=r'.length;obtain ⟨o,ho,hc,n,hd⟩:=pl.isList;exact call_list_seq p 206 ho hc hd (λ h' c' kp e=>fin its r' hz h' c' kp e) (by simp only [Y0e]<;>omega)
 ·obtain ⟨its,r',pl,hz⟩:=I.tuple hq;have vQ:=r'.length;obtain ⟨o,ho,hc,n,hd⟩:=pl;exact call_list_seq p (.inr rfl) ho hc hd (λ h' c' kp e=>fin its r' hz h' c' kp e) (by simp only [Y0e]<;>omega)
theorem JB:jd X (.type "tuple") (λ xs H Q=>∃ p ys,xs=[.ref p]/\((SqL X.K H p ys/\∀ l,H l=none->Q (.ref l) (upd H l (.tup ys)))\/(SqT X.K H p ys/\Q (.ref p) H))):=by
 intro pins s σ H xs us Q I r h;obtain ⟨p,ys,rfl,h⟩:=h;obtain ⟨u,rfl,rx⟩:=Z6 r;cases rx;rcases h with ⟨hq,q⟩ | ⟨hq,q⟩
 ·obtain ⟨its,r',pl,hz⟩:=I.list hq;have vQ:=r'.length;refine call_tuple_list pl.isList (λ h' kp=>?_) (by simp only [Y0e]<;>omega);have I1:Inv X pins σ H { s with heap:=h' }:=I.kept (t':=s.toks) kp;have I2:Inv X pins σ (upd H h'.objs.size (.tup ys)) { s with heap:=h'.push { cls:=.type "tuple",data:=.seq its.toArray } } :=
   I1.laid (t':=s.toks) (λ b o e=>Y02 _ e) 176 (show ObjOk X.prog X.w _ _ _ (.tup ys) from ⟨hz,its,r',IsTup.new _ _⟩)
  exact ⟨.ref h'.objs.size,_,I2,rfl,q _ (I1.hok.fresh 176)⟩
 ·obtain ⟨its,r',pl,hz⟩:=I.tuple hq;exact call_tuple_same pl ⟨.ref p,H,I,rfl,q⟩
def tyV (K:Y00)(T:String)(x:V)(H:Hp):Prop:=match x with
 | .str _=>T="str"
 | .int _=>T="int"
 | .ref p=>(T="list"/\∃ xs,SqL K H p xs)\/(T="tuple"/\∃ o,K.lookup p=some o/\o.cls=.type "tuple"/\o.dict=none) \/
   (T="dict"/\((∃ kvs,H p=some (.dK kvs))\/∃ kvs,H p=some (.dT kvs)))\/(T="set"/\∃ S n,H p=some (.set S n))
 | _=>False
theorem OW {pins:132}{σ:St}{H:Hp}{s:170}{T:String}{x:V}{v:Value}(I:127)(r:RelV x v)(ty:tyV X.K T x H) :
  s.TypeIs v T/\∀ a,v=.ref a->∃ ob,s.heap.get? a=some ob/\ob.dict=none:=by
 cases x with
 | str z =>
  obtain ⟨t,rfl⟩:=r;cases (show T="str" from ty);exact ⟨typeIs_str s z t,λ _ e=>nomatch e⟩
 | int i =>
  obtain ⟨t,rfl⟩:=r;cases (show T="int" from ty);exact ⟨typeIs_int s i t,λ _ e=>nomatch e⟩
 | ref p =>
  cases r;rcases ty with ⟨rfl,xs,hq⟩ | ⟨rfl,o,hk,hc,hd⟩ | ⟨rfl,hk⟩ | ⟨rfl,S,n,hk⟩
  ·obtain ⟨its,_,pl,_⟩:=I.list hq;refine ⟨pl.isList.typeIs,λ a e=>?_⟩;cases e;obtain ⟨o,n,e,c,hd,_⟩:=pl;exact ⟨o,e,hd⟩
  ·refine ⟨⟨o,I.kIn p o hk,hc⟩,λ a e=>?_⟩;cases e;exact ⟨o,I.kIn _ o hk,hd⟩
  ·have z:∃ o,s.heap.get? p=some o/\o.ExactDict:=by
    rcases hk with ⟨kvs,hk⟩ | ⟨kvs,hk⟩
    ·obtain ⟨_,_,_,_,o,_,_,e,ex,_⟩:=I.hok p _ hk;exact ⟨o,e,ex⟩
    ·obtain ⟨_,_,_,_,o,_,_,e,ex,_⟩:=I.hok p _ hk;exact ⟨o,e,ex⟩
   obtain ⟨o,e,ex⟩:=z;refine ⟨⟨o,e,ex.1⟩,λ a e2=>?_⟩;cases e2;exact ⟨o,e,ex.2.1⟩
  ·obtain ⟨o,_,_,_,e,ex,_⟩:=I.hok p _ hk;refine ⟨⟨o,e,ex.1⟩,λ a e2=>?_⟩;cases e2;exact ⟨o,e,ex.2.1⟩
 | _=>exact False.elim ty
def z9z (K:Y00)(T:String)(r:V->List V->Hp->VK->Prop)(to:TE):TE:=λ σ H Q=>to σ H λ x H1=>tyV K T x H1/\r x [] H1 Q
def tBM (K:Y00)(T:String)(r:V->List V->Hp->VK->Prop)(to:TE)(t:TA):TE:=λ σ H Q=>to σ H λ x H1=>tyV K T x H1/\t σ H1 λ xs H2=>r x xs H2 Q
variable {o e:Expr}{es:List Expr}{to:TE}{t:TA}{name:Str}{apos cpos:Pos}{T id:String}{r:V->List V->Hp->VK->Prop}
theorem z5q (pa:PlainAttrs T) (slot:Slot T name id) (hty:typeOf (.builtin id)=pure (.type "method_descriptor")) (hm:MtR X id r) (ho:PE X o to)
  (hbase:attributeBase o name X.env (eval o X.env)=eval o X.env:=by rfl) (hline:(apos.endLine==cpos.line)=true:=by rfl):PE X (.Call (.Attribute o name apos) [] [] cpos) (z9z X.K T r to):=by
 intro pins s σ H Q I h;refine wpAny_Call_method0_late hbase hline (thn (ho pins s σ H _ I h) λ v s1 ⟨x,H1,I1,r1,ty,q1⟩=>?_);obtain ⟨h1,h2⟩:=OW I1 r1 ty;exact ⟨T,id,pa,slot,hty,h1,h2,Calls.callWith_builtin rfl (PySem.evalArgs_none (hm pins s1 σ H1 x [] v [] Q I1 r1 .nil q1))⟩
theorem z3o (pa:PlainAttrs T) (slot:Slot T name id) (hty:typeOf (.builtin id)=pure (.type "method_descriptor")) (hm:MtR X id r) (ho:PE X o to) (ha:PA X (e::es) t)
  (hbase:attributeBase o name X.env (eval o X.env)=eval o X.env:=by rfl)
  (hfew:((backTo cpos (starEach (e::es) X.env)).all (λ x=>!x.1)&&(backToKw cpos (keywordEach [] X.env)).all (λ x=>x.1.isSome)
   && decide ((e::es).length+([]:List Keyword).length+(if ([]:List Keyword).isEmpty then 0 else 1)<30))=true:=by rfl)
  (hline:(apos.endLine==cpos.line)=true:=by rfl) (hs:starEach (e::es) X.env=(false,eval e X.env)::starEach es X.env:=by rfl) (hplain:(backTo cpos (starEach es X.env)).any (·.1)=false:=by rfl) :
  PE X (.Call (.Attribute o name apos) (e::es) [] cpos) (tBM X.K T r to t):=by
 intro pins s σ H Q I h;refine wpAny_Call_method_late hbase hfew hline rfl (thn (ho pins s σ H _ I h) λ v s1 ⟨x,H1,I1,r1,ty,q1⟩=>?_);obtain ⟨h1,h2⟩:=OW I1 r1 ty;refine ⟨T,id,pa,slot,hty,h1,h2,?_⟩;have hA:=ha cpos pins s1 σ H1 _ I1 q1;rw [hs] at hA ⊢;refine Calls.callWith_builtin (by show (false||(backTo cpos (starEach es X.env)).any (·.1))=false;rw [hplain]<;>rfl) (Calls.evalArgs_plain ?_);exact thn hA λ us s2 ⟨vs,H2,I2,r2,q2⟩=>hm pins s2 σ H2 x vs v us Q I2 r1 r2 q2
end
def MtM (X:Cx)(id:String)(r:V->List V->Hp->VK->Prop):Prop :=
 ∀ (pins:132) (s:170) (σ:St) (H:Hp) (x:V) (xs:211) (v:Value) (us:XU) (Q:VK),Inv X pins σ H s->RelV x v->Vals xs us->r x xs H Q ->
  wpAny 130 X.A (call (.builtin id) (v::us)) (EP X pins σ Q) X.xe s
theorem Vals.one:∀ {x:V}{us:XU},Vals [x] us->∃ u,us=[u]/\RelV x u
 | _,_,.cons r .nil=>⟨_,rfl,r⟩
theorem Vals.zero:∀ {us:XU},Vals [] us->us=[]
 | _,.nil=>rfl
theorem Vals.dropLast {xs:211}{us:XU}(h:Vals xs us):Vals xs.dropLast us.dropLast:=by
 induction h with
 | nil=>exact .nil
 | cons r t ih =>
  cases t with
  | nil=>exact .nil
  | cons q t'=>exact .cons r ih
theorem Ue {α:Type}(l:List α):l.eraseIdx (l.length-1)=l.dropLast:=by
 induction l with
 | nil=>rfl
 | cons a r ih =>
  cases r with
  | nil=>rfl
  | cons b r =>
   have e:(a::b::r).length-1=((b::r).length-1)+1:=by
    have h1:(a::b::r).length=r.length+2:=rfl;have h2:(b::r).length=r.length+1:=rfl;omega
   rw [e,List.eraseIdx_cons_succ,ih]
   all_goals rfl
section
variable {X:Cx}{pins:132}{σ:St}{H:Hp}{s:170}{l b:Addr}{xs ys zs:211}
theorem Inv.lset {its its':XU}{n:Nat}{f:Array Value->Array Value}{t':Nat}(I:127)(hH:H l=some 210)
  (e:s.heap.get? l=some { cls:=.type "list",data:=.seq its.toArray n }) (hf:f its.toArray=its'.toArray) (hv:Vals ys its') (hz:ys.length<=sizeLine) :
  Inv X pins σ (upd H l (.lst ys)) { s with heap:=s.heap.update l (Obj.mapSeq f),toks:=t' }:=by
 have q:=PySem.IsL.update e f;rw [hf] at q;refine I.write (by rw [hH];exact trivial) 206 (λ b' u hb hu=>(Heap.get?_update_other s.heap (Obj.mapSeq f) (Ne.symm hb)).trans hu) ⟨_,q⟩ ?_;exact ⟨hz,its',_,hv,q⟩
theorem Inv.lnew {its:XU}{t':Nat}(I:127)(hv:Vals ys its)(hz:ys.length<=sizeLine) :
  Inv X pins σ (upd H s.heap.objs.size (.lst ys)) { s with heap:=s.heap.push { cls:=.type "list",data:=.seq its.toArray },toks:=t' } :=
 I.laid (λ _ _ q=>Y02 _ q) 176 ⟨hz,its,0,hv,Y0h _ rfl⟩
theorem Inv.fresh (I:127):H s.heap.objs.size=none:=I.hok.fresh 176
theorem Inv.lstM (I:127)(hH:H l=some 210):xs.length<=sizeLine/\∃ (its:XU) (n:Nat),Vals xs its/\xs.length=its.length/\s.heap.get? l=some { cls:=.type "list",data:=.seq its.toArray n }:=by
 obtain ⟨z,its,n,r,e⟩:=I.hok l _ hH;exact ⟨z,its,n,r,r.length,e⟩
theorem QR {n:Nat}(h:n<=sizeLine):Builtin.List.listTooLong n=false:=by
 unfold Builtin.List.listTooLong;exact decide_eq_false 117
end
section
variable {X:Cx}
def z1h:V->List V->Hp->VK->Prop:=λ x vs H Q=>∃ l xs y,x=.ref l/\vs=[y]/\H l=some 210/\xs.length<sizeLine/\Q .non (upd H l (.lst (xs++[y])))
theorem Gv:MtM X "list.append" z1h:=by
 intro pins s σ H x vs v us Q I rx rv h;obtain ⟨l,xs,y,rfl,rfl,hH,hz,q⟩:=h;cases rx;obtain ⟨u,rfl,ru⟩:=rv.one;obtain ⟨z,its,n,r,hl,e⟩:=I.lstM hH;refine call_meets F.slot_list_append ⟨_,e,rfl⟩ F.entry_list_append (F.args_list_append_2 _ _) (PySem.list_append l its.toArray n u (by rw [Y0e];omega)) ⟨e,?_⟩;refine ⟨.non,_,I.lset hH e 133 (r.append (.cons ru .nil)) ?_,rfl,q⟩;rw [Y01,Y2n];omega
def z1i:V->List V->Hp->VK->Prop:=λ x vs H Q=>∃ l b xs zs,x=.ref l/\vs=[.ref b]/\H l=some 210/\H b=some (.lst zs)/\xs.length+zs.length<=sizeLine/\Q .non (upd H l (.lst (xs++zs)))
theorem Gw:MtM X "list.extend" z1i:=by
 intro pins s σ H x vs v us Q I rx rv h;obtain ⟨l,b,xs,zs,rfl,rfl,hH,hB,hz,q⟩:=h;cases rx;obtain ⟨u,rfl,ru⟩:=rv.one;cases ru;obtain ⟨z,its,n,r,hl,e⟩:=I.lstM hH;obtain ⟨z2,its2,n2,r2,hl2,e2⟩:=I.lstM hB;have hsz:its.toArray.size+its2.toArray.size<=sizeLine:=by rw [Y0e,Y0e];omega
 have hlong:¬ (!its.toArray.isEmpty&&Builtin.List.listTooLong (its.toArray.size+its2.toArray.size))=true:=by
  rw [QR hsz,Bool.and_false];exact Y0y
 refine call_meets F.slot_list_extend ⟨_,e,rfl⟩ F.entry_list_extend (F.args_list_extend_2 _ _)
  (AutoSeq1.list_extend_list_list_0 l its.toArray n b its2.toArray n2 hlong (by rw [Y0e];omega) 117) ⟨e,e2,?_⟩
 refine ⟨.non,_,I.lset hH e 133 (r.append r2) ?_,rfl,q⟩;rw [Y01];omega
def za0:V->List V->Hp->VK->Prop:=λ x vs H Q=>∃ l xs y,x=.ref l/\vs=[]/\H l=some 210/\xs[xs.length-1]?=some y/\Q y (upd H l (.lst xs.dropLast))
theorem z5r:MtM X "list.pop" za0:=by
 intro pins s σ H x vs v us Q I rx rv h;obtain ⟨l,xs,y,rfl,rfl,hH,hy,q⟩:=h;cases rx;have hus:=rv.zero;subst hus;obtain ⟨z,its,n,r,hl,e⟩:=I.lstM hH;obtain ⟨u,hu,ru⟩:=r.get hy;have hy':its.toArray[its.toArray.size-1]?=some u:=by
  show its.toArray[its.length-1]?=some u;rw [<- Y3b,<- hl];exact hu
 refine call_meets F.slot_list_pop ⟨_,e,rfl⟩ F.entry_list_pop (F.args_list_pop_1 _) (MeetsSeq.list_pop_last l its.toArray n u hy' (by rw [Y0e];omega)) ⟨e,?_⟩;refine ⟨y,_,I.lset hH e ?_ r.dropLast ?_,ru,q⟩
 ·show its.toArray.eraseIdxIfInBounds (its.toArray.size-1)=its.dropLast.toArray;rw [Y0e,List.eraseIdxIfInBounds_toArray,Ue]
 ·rw [List.length_dropLast];omega
def za1:R2:=λ x y H Q=>∃ l b xs zs,x=.ref l/\y=.ref b/\H l=some 210/\H b=some (.lst zs)/\xs.length+zs.length<=sizeLine/\∀ p,H p=none->Q (.ref p) (upd H p (.lst (xs++zs)))
theorem z5s:OpR X (binaryOp .Add) za1:=by
 intro pins s σ H x y v u Q I rx ry h;obtain ⟨l,b,xs,zs,rfl,rfl,hH,hB,hz,q⟩:=h;cases rx;cases ry;obtain ⟨z,its,n,r,hl,e⟩:=I.lstM hH;obtain ⟨z2,its2,n2,r2,hl2,e2⟩:=I.lstM hB;refine PySem.P.add_list e e2 ?_ (by rw [Y0e,Y0e];omega);have ea:its.toArray++its2.toArray=(its++its2).toArray:=by simp
 rw [ea];exact ⟨.ref _,_,I.lnew (r.append r2) (by rw [Y01];omega),rfl,q _ I.fresh⟩
end
end L2
namespace Att
open PySem PySem.W PySem.Calls PyProof.Rows
theorem Zu {P:Params}{h:Heap}:∀ (ns:List Int) (vs:XU),WellAll P h vs (ns.map WData.int)->IntsAre vs ns:=by
 intro ns
 induction ns with
 | nil =>
  intro vs w;rw [Y20] at w;cases w;exact .nil
 | cons n ns ih =>
  intro vs w;rw [Y0n] at w;cases w with
  | cons a b =>
   cases a;exact .cons _ _ (ih _ b)
theorem script_of {l:OpenLaw}{n:Nat}(hn:l.most=some n){P:Params}{h:Heap}{args:List WData}{vals:XU}
  (hpre:l.row.toRowW.claim.pre args=true) (hwl:WellAll P h vals args) :
  ∃ a vs ns,vals=[Value.ref a]/\args=[WData.list (ns.map WData.int)]/\h.get? a=some { cls:=.type "list",data:=.seq vs.toArray }/\IntsAre vs ns/\ns.length<=n:=by
 have hsh:WShape.hasAll [] args [.list .int]=true:=(pre_splitW hpre).1;have hc:l.pre.holds [] { args:=args }=true:=(pre_splitW hpre).2;obtain ⟨d,r,rfl,h1,h2⟩:=hasAllW_cons hsh;obtain rfl:=hasAllW_nil h2;obtain ⟨xs,rfl,h3⟩:=hasW_list h1;obtain ⟨ns,rfl⟩:=items_int h3;have vQ:ns.length<=n:=by
  unfold OpenLaw.pre at hc;have h4:(WTm.not (.lt (.lit (.int (n:Int))) (.len (.arg 0)))).holds [] { args:=[.list (ns.map .int)] }=true:=by
   have h4:=(holds_andW hc).1;rw [hn] at h4;exact h4
  have h5:=condW_of h4 (w_not (w_lt w_lit (w_len_list (w_arg rfl))));rw [Y08] at h5;refine Nat.le_of_not_lt λ q=>?_;have q':(n:Int)<((ns.length:Nat):Int):=by omega
  first
   | (rw [decide_eq_true q'] at h5;exact absurd h5 123)
   | (simp at h5;omega)
 cases hwl with
 | cons w1 w2 =>
  cases w2;cases w1 with
  | list ho hall=>exact ⟨_,_,ns,rfl,rfl,ho,Zu ns _ hall,vQ⟩
theorem post_true (l:OpenLaw)(args:List WData):l.row.toRowW.claim.post args (.bool true) args=true :=
 postW_of
  (show WShape.has [] (.bool true) .bool=true by first | rfl | decide | simp [WShape.has,WShape.arms,WShape.armsAll])
  (show (WTm.eq .res (.lit (.bool true))).value [] { args:=args,res:=some (.bool true),after:=args }=some (.bool (true==true)) from w_eq_bool (w_res rfl) w_lit) rfl
section
variable {prog:XZ}{w:World}{A:Around}{E:XQ}{s:170}{K:Frag}
def za2 (h:Heap)(L d:Addr):List (Addr×Obj):=(List.range h.objs.size).filterMap λ a=>if a=L\/a=d then none else (h.get? a).map λ o=>(a,o)
end
end Att
namespace L2
open PySem PySem.Spec PyProof.Rows
theorem W4:∀ {vs:XU}{ns:List Int},IntsAre vs ns->Vals (ns.map V.int) vs
 | _,_,.nil=>.nil
 | _,_,.cons n t h=>.cons ⟨t,rfl⟩ (W4 h)
def z5t (H:Hp):Prop:=∀ b,H b=none\/∃ o xs,H b=some (.frz o 210)
theorem OX {P:XZ}{w:World}{K:Y00}{mg mb:XW}{CX:CXT}{k:Nat}{fa a:Addr}{fd:FuncData}{x:Str}{sp:Sp}{s₁:170}{vs:XU}{ns:List Int}
  (KX:K.In s₁.heap) (hns:s₁.heap.Ns mainGlobals mg) (hb:s₁.heap.Ns builtinsNs mb) (hbb:∀ x:Str,x≠"__name__"->mb x=bootBuiltins x) (hlim:s₁.heap.NoLimit) (hg:s₁.gens=#[])
  (ha:s₁.heap.get? a=some { cls:=.type "list",data:=.seq vs.toArray }) (hi:IntsAre vs ns) (hl:ns.length<=sizeLine) (hr:Room k callerA)
  (F:∀ base:Heap,K.In base->base.Ns mainGlobals mg->FnOk P w K mg base CX k fa fd [x] sp) (hbind:∀ (s:170) (u:Value),BindsTo s fd ⟨[u],[]⟩ [(x,u)])
  (hsp:∀ H:Hp,z5t H->SqL K H a (ns.map V.int)->sp [.ref a] H (λ v _=>v=.bl true) λ _ _ _=>False)
  (hCX:∀ H e s',CX [] H s₁ (λ _ _ _=>False) e s'->False) :
  codeAny (model P w) callerA (.call (.ref fa) ⟨[.ref a],[]⟩) (λ r s'=>r=.ok (.ret (.bool true))/\OldK s₁.heap s'.heap/\s'.os=s₁.os/\AllBare s'.gens) s₁:=by
 have rv:=W4 hi;have lenV:=hi.length;have core:∀ H:Hp,z5t H->SqL K H a (ns.map V.int)->HOk P w H s₁.heap->(∀ b,H b≠none->b=a)->(H a≠none->K.lookup a=none) ->
   codeAny (model P w) callerA (.call (.ref fa) ⟨[.ref a],[]⟩) (λ r s'=>r=.ok (.ret (.bool true))/\OldK s₁.heap s'.heap/\s'.os=s₁.os/\AllBare s'.gens) s₁:=by
  intro H hO hS hok hA hK;have base_of:∀ {b:Addr}{o:Obj},s₁.heap.get? b=some o->H b=none->(WF s₁.heap H).get? b=some o:=λ e n=>Ov e n;have noA:∀ {b:Addr}{o:Obj}{es:Array DictEntry}{ep:Nat},s₁.heap.get? b=some o->o.data=.dict es ep->H b=none:=λ {b o es ep} e d=>by
   cases q:H b with
   | none=>rfl
   | some u =>
    have e':b=a:=hA b (by rw [q];simp);subst e';rw [ha] at e;cases e;have d':Data.seq vs.toArray _=Data.dict es ep:=d;cases d'
  have nsK:∀ {b:Addr}{m:XW},s₁.heap.Ns b m->(WF s₁.heap H).Ns b m:=λ {b m} ⟨o,es,ep,e,d,r⟩=>⟨o,es,ep,base_of e (noA e d),d,r⟩;have hKb:K.In (WF s₁.heap H):=λ b o e=>base_of (KX b o e) (by
   cases q:H b with
   | none=>rfl
   | some u =>
    have e':b=a:=hA b (by rw [q];simp);subst e';rw [hK (by rw [q];simp)] at e;cases e)
  have hM:Mod K mg (WF s₁.heap H):=⟨hKb,nsK hns,⟨mb,nsK hb,hbb⟩,let ⟨mc,h1,h2⟩:=hlim;⟨mc,nsK h1,h2⟩⟩;have e0:Env0 P w K mg (WF s₁.heap H) callerA [] s₁ H:=⟨rfl,hM,λ b o e=>z0x e,Nat.le_of_eq (Gk _ _),trivial,λ b hb=>absurd (show b∈([]:List Addr) from hb) 133,hok,.of_eq hg⟩;refine codeAny_mono ((F _ hKb (nsK hns)).run callerA [] s₁ H ⟨[.ref a],[]⟩ [.ref a] [.ref a] _ _ hr e0 (hbind s₁ (.ref a)) (.cons rfl .nil) (hsp H hO hS)) λ r s' h=>?_;cases r with
  | error e=>exact (hCX H e s' h).elim
  | ok fl =>
   cases fl with
   | next=>exact False.elim h
   | brk=>exact False.elim h
   | cont=>exact False.elim h
   | ret u =>
    obtain ⟨v,H',os,bare,un,hok',r',q⟩:=h;have q':v=.bl true:=q;subst q';obtain rfl:u=Value.bool true:=r';refine ⟨rfl,OldK.of_keep λ b o e=>?_,os,bare⟩;cases q:H b with
    | none=>exact un.keep b o e q (by intro z;exact absurd (show b∈([]:List Addr) from z) 133) 133
    | some u =>
     rcases hO b with z | ⟨ob,xs,z⟩
     ·rw [q] at z;cases z
     ·have z2:=un.frzs b ob _ z;obtain ⟨e1,_⟩:=hok b _ z;obtain ⟨e2,_⟩:=hok' b _ z2;rw [e] at e1;cases e1;exact e2
 cases hk:K.lookup a with
 | some o =>
  have e:=KX a o hk;rw [ha] at e;cases e;refine core (λ _=>none) (λ _=>.inl rfl) (.inr ⟨_,vs.toArray,_,hk,rfl,rfl,rfl,by rw [Y0e,lenV];exact hl,by simpa using rv⟩) (λ b u z=>by have z':(none:Option HO)=some u:=z;cases z') (λ b z=>absurd rfl z) λ z=>absurd rfl z
 | none =>
  refine core (λ b=>if b=a then some (.frz { cls:=.type "list",data:=.seq vs.toArray } (.lst (ns.map V.int))) else none) (λ b=>?_) (.inl (.inr ⟨{ cls:=.type "list",data:=.seq vs.toArray },if_pos rfl⟩)) (λ b u z=>?_) (λ b z=>?_) λ _=>hk
  ·by_cases hb:b=a
   ·exact .inr ⟨_,_,if_pos hb⟩
   ·exact .inl (if_neg hb)
  ·by_cases hb:b=a
   ·have z':=(if_pos hb).symm.trans z;cases z';subst hb;exact ⟨ha,by rw [Y08];exact hl,vs,_,rv,ha⟩
   ·have z':=(if_neg hb).symm.trans z;cases z'
  ·by_cases hb:b=a
   ·exact hb
   ·exact absurd (if_neg hb) z
abbrev KOf {K:Y00}{h:Heap}(_:K.In h):Y00:=K
def j8 (s:Stmt):Arguments:=match s with
 | .FunctionDef _ a _ _ _ _ _ _ _ _=>a
 | _=>{ posonlyargs:=[],args:=[],vararg:=none,kwonlyargs:=[],kw_defaults:=[],kwarg:=none,defaults:=[] }
def zV (s:Stmt):List Stmt:=match s with
 | .FunctionDef _ _ b _ _ _ _ _ _ _=>b
 | _=>[]
def zu (s:Stmt):Scope:=match s with
 | .FunctionDef _ _ _ _ _ _ sc _ _ _=>sc
 | _=>{ kind:=.function,names:=[],isGenerator:=false,isCoroutine:=false }
abbrev CX0:CXT:=λ _ _ _ _ _ _=>False
abbrev E0:XK:=λ _ _ _=>False
structure Fun (K:Y00)(x qual:Str)(st:Stmt)(f:Addr)(fd:FuncData):Prop where
 ex:∃ (oc:Value) (od:Option Addr) (kV doc pm:Value) (an:Option Addr) (vw ct:Value) (osl:213),
  fd=PySem.W.fnOf x qual (j8 st) (zV st) (zu st) .none kV doc pm an vw ct/\K.lookup f=some ⟨oc,od,.func fd,osl⟩/\PySem.W.codeIn K vw qual=true
 kp:PySem.W.keepIn K (.ref f)=true
section
variable {P:XZ}{w:World}{K:Y00}{mg:XW}{base:Heap}
theorem Fun.binds {x qual:Str}{st:Stmt}{f:Addr}{fd:FuncData}{ps:XY}(F:Fun K x qual st f fd)
  (h:∀ (kV doc pm:Value) (an:Option Addr) (vw ct:Value) (us:XU),us.length=ps.length->bindArgs (PySem.W.fnOf x qual (j8 st) (zV st) (zu st) .none kV doc pm an vw ct) ⟨us,[]⟩=pure (ps.zip us)):Binds K fd ps []:=by
 obtain ⟨oc,od,kV,doc,pm,an,vw,ct,osl,rfl,lk,hcd⟩:=F.ex;exact .all (h kV doc pm an vw ct)
theorem yP {x qual:Str}{st:Stmt}{f:Addr}{oc:Value}{od an:Option Addr}{osl:213}{kV doc pm vw ct:Value}(l:K.lookup f=some ⟨oc,od,.func (PySem.W.fnOf x qual (j8 st) (zV st) (zu st) .none kV doc pm an vw ct),osl⟩)
  (c:PySem.W.codeIn K vw qual=true) (k:PySem.W.keepIn K (.ref f)=true):Fun K x qual st f (PySem.W.fnOf x qual (j8 st) (zV st) (zu st) .none kV doc pm an vw ct):=⟨⟨oc,od,kV,doc,pm,an,vw,ct,osl,rfl,l,c⟩,k⟩
end
theorem OY {A:Around}{k:Nat}(hr:Room k A):A.units+1<cLine:=Y29 (Nat.add_le_add_left (by decide:1<=64) _) hr.units
theorem yQ {n:Nat}(h:n<=1000):n<sizeLine:=Y29 h 123
section
variable {X:Cx}
theorem pv (i:Nat) {x:Str}{pos:Pos} (hN:X.N[i]?=some x:=by rfl) (hv:Vis X.env.scope x:=by first | exact Or.inl rfl | exact Or.inr (Or.inl rfl) | exact Or.inr (Or.inr rfl)) (hd:175=false:=by decide)
  (hcd:(x==("__classdict__":Str))=false:=by decide):PE X (.Name x pos) (z73 i):=Ow hN hv hd hcd
end
theorem Zv {A B:Prop}(h:B):if false=true then A else B:=by
 rw [if_neg Y0y];exact h
theorem Zw {A B:Prop}(h:A):if true=true then A else B:=by
 rw [if_pos rfl];exact h
def zan (H H':Hp):Prop:=∀ b o,H b=some o->H' b=some o
section
variable {κ:Type}[DecidableEq κ]
def qo (kvs:List (κ×V))(k:κ):Option V:=(kvs.find? λ kv=>decide (kv.1=k)).map (·.2)
def jB (kvs:List (κ×V))(k:κ)(v:V):List (κ×V) :=
 if (kvs.any λ kv=>decide (kv.1=k))=true then kvs.map (λ kv=>if kv.1=k then (kv.1,v) else kv) else kvs++[(k,v)]
def zal (kvs:List (κ×V))(k:κ):List (κ×V):=kvs.filter λ kv=>decide (kv.1≠k)
theorem qp {k:κ}(e:p.1=k):qo (p::r) k=some p.2:=by simp [qo,Y2a,e]
theorem qr {k:κ}(e:¬ p.1=k):qo (p::r) k=qo r k:=by simp [qo,Y2a,e]
theorem QS (k:κ):∀ kvs:List (κ×V),(kvs.any λ kv=>decide (kv.1=k))=(qo kvs k).isSome
 | []=>rfl
 | p::r=>by
  rw [Y1t];by_cases e:p.1=k
  ·simp only [qp e,decide_eq_true e,Bool.true_or,Option.isSome_some]
  ·rw [qr e,decide_eq_false e,Bool.false_or];exact QS k r
theorem jX (kvs:List (κ×V))(k:κ)(v:V):(jB kvs k v).length<=kvs.length+1:=by
 unfold jB
 split
 ·rw [Y08];omega
 ·rw [Y01,Y03,Y1x];omega
theorem RelO.isSome_eq {u:Option Value}(r:RelO o u):o.isSome=u.isSome:=by
 cases o with
 | none=>cases u with
  | none=>rfl
  | some _=>exact (show False from r).elim
 | some _=>cases u with
  | none=>exact (show False from r).elim
  | some _=>rfl
theorem KV.val (r:KV kvs vs)(k:κ):RelO (qo kvs k) (valueAt vs k):=by
 unfold KV at r
 induction r with
 | nil=>exact True.intro
 | @cons p q ps qs h t ih =>
  obtain ⟨h1,h2⟩:=h;by_cases e:p.1=k
  ·have e':=h1.symm.trans e;have b:valueAt (q::qs) k=some q.2:=by simp [valueAt,Y2a,e']
   rw [qp e,b];exact h2
  ·have e':¬ q.1=k:=λ z=>e (h1.trans z);have b:valueAt (q::qs) k=valueAt qs k:=by simp [valueAt,Y2a,e']
   rw [qr e,b];exact ih
theorem KV.any {vs:List (κ×Value)}(r:KV kvs vs)(k:κ):(kvs.any λ kv=>decide (kv.1=k))=vs.any λ kv=>decide (kv.1=k):=by
 unfold KV at r
 induction r with
 | nil=>rfl
 | cons h t ih=>rw [Y1t,Y1t,ih,h.1]
theorem KV.repl (r:KV kvs vs)(k:κ){u:Value}(ry:RelV y u) :
  KV (kvs.map λ kv=>if kv.1=k then (kv.1,y) else kv) (vs.map λ kv=>if kv.1=k then (kv.1,u) else kv):=by
 unfold KV at r ⊢
 induction r with
 | nil=>exact .nil
 | @cons p q ps qs h t ih =>
  rw [Y0n,Y0n];refine .cons ?_ ih;obtain ⟨h1,h2⟩:=h;by_cases e:p.1=k
  ·rw [if_pos e,if_pos (h1.symm.trans e)];exact ⟨h1,ry⟩
  ·rw [if_neg e,if_neg (λ z=>e (h1.trans z))];exact ⟨h1,h2⟩
theorem KV.put (r:KV kvs vs)(k:κ){u:Value}(ry:RelV y u):KV (jB kvs k y) (stored vs k u):=by
 unfold jB stored;rw [r.any k];by_cases e:(vs.any λ kv=>decide (kv.1=k))=true
 ·rw [if_pos e,if_pos e];exact r.repl k ry
 ·rw [if_neg e,if_neg e];exact Paired.snoc r ⟨rfl,ry⟩
theorem KV.length {vs:List (κ×Value)}(r:KV kvs vs):kvs.length=vs.length:=Paired.length r
end
theorem yo {u:Value}(r:RelV (kV k) u):(zB P w).is k u=true:=by
 cases k with
 | inl i=>obtain ⟨t,e⟩:=(show ∃ t,u=Value.int i t from r);subst e;exact QL P w i t
 | inr x=>obtain ⟨t,e⟩:=(show ∃ t,u=Value.str x t from r);subst e;exact QM P w x t
theorem yR {w:World}:∀ {ks:List Key}{us:XU},Vals (ks.map kV) us->ItemsAre (zB P w) ks us
 | [],_,r=>by rw [Y20] at r;cases r;exact .nil
 | k::ks,_,r=>by
  rw [Y0n] at r;cases r with
  | cons h t=>exact .cons (yo h) (yR t)
abbrev KT (H:Hp):List (List Key×V)->List (List Key×Addr×Value)->Prop:=Paired λ p q=>p.1=q.1/\H q.2.1=some (.tup (p.1.map kV))/\RelV p.2 q.2.2
theorem KT.val (r:KT H kvs xs)(k:List Key):RelO (qo kvs k) ((atKey xs k).map (·.2)):=by
 induction r with
 | nil=>exact True.intro
 | @cons p q ps qs h t ih =>
  obtain ⟨h1,_,h2⟩:=h;by_cases e:p.1=k
  ·have e':=h1.symm.trans e;have b:atKey (q::qs) k=some q.2:=by simp [atKey,Y2a,e']
   rw [qp e,b];exact h2
  ·have e':¬ q.1=k:=λ z=>e (h1.trans z);have b:atKey (q::qs) k=atKey qs k:=by simp [atKey,Y2a,e']
   rw [qr e,b];exact ih
theorem KT.repl (r:KT H kvs xs)(k:List Key)(ry:RelV y u) :
  KT H (kvs.map λ kv=>if kv.1=k then (kv.1,y) else kv) (xs.map (putAt k u)):=by
 induction r with
 | nil=>exact .nil
 | @cons p q ps qs h t ih =>
  rw [Y0n,Y0n];refine .cons ?_ ih;obtain ⟨h1,h2,h3⟩:=h;unfold putAt;by_cases e:p.1=k
  ·rw [if_pos e,if_pos (h1.symm.trans e)];exact ⟨h1,h2,ry⟩
  ·rw [if_neg e,if_neg (λ z=>e (h1.trans z))];exact ⟨h1,h2,h3⟩
theorem KT.put (r:KT H kvs xs)(k:List Key)(hb:H b=some (.tup (k.map kV)))(ry:RelV y u) :
  KT H (jB kvs k y) (storedH xs k b u):=by
 have e:(kvs.any λ kv=>decide (kv.1=k))=(atKey xs k).isSome:=by
  rw [QS,(r.val k).isSome_eq,Y2k]
 unfold jB storedH;rw [e];by_cases q:(atKey xs k).isSome=true
 ·rw [if_pos q,if_pos q];exact r.repl k ry
 ·rw [if_neg q,if_neg q];exact Paired.snoc r ⟨rfl,hb,ry⟩
theorem KT.keeps {xs:List (List Key×Addr×Value)}(r:KT H kvs xs)(ht:∀ b ys,H b=some (.tup ys)->H' b=some (.tup ys)):KT H' kvs xs :=
 Paired.mapP r λ _ _ z=>⟨z.1,ht _ _ z.2.1,z.2.2⟩
section
variable {P:XZ}{w:World}{H:Hp}{h:Heap}{a:Addr}
theorem OZ {u:HO}(ok:HOk P w H h)(e:Rd H a u):ObjOk P w H h a u:=e.ok ok
theorem Vo {kvs:List (Key×V)}(ok:HOk P w H h)(e:Rd H a (.dK kvs)):kvs.length<=sizeLine/\(a==sysModules)=false/\∃ vs,KV kvs vs/\h.DictOf (zB P w) a vs :=
 show ObjOk P w H h a (.dK kvs) from OZ ok e
theorem B0 {kvs:List (Key×V)}(ok:HOk P w H h)(e:H a=some (.dK kvs)):kvs.length<=sizeLine/\(a==sysModules)=false/\∃ vs,KV kvs vs/\h.DictOf (zB P w) a vs:=Vo ok (.inl e)
theorem yS {ks:List Key}(ok:HOk P w H h)(e:H a=some (.tup (ks.map kV))):(tupleKind (zB P w)).is h ks a:=by
 obtain ⟨_,its,r,o,h1,h2,n,h3⟩:=(show ObjOk P w H h a (.tup (ks.map kV)) from ok a _ e);exact ⟨o,its.toArray,n,h1,h2,h3,by simpa using yR r⟩
theorem Vp {kvs:List (List Key×V)}(ok:HOk P w H h)(e:Rd H a (.dT kvs)):kvs.length<=sizeLine/\(a==sysModules)=false /\
  ∃ xs,KT H kvs xs/\h.DictOfH (tupleKind (zB P w)) a xs:=by
 obtain ⟨z,y,xs,r,o,es,ep,h1,h2,h3,h4,h5⟩:=(show ObjOk P w H h a (.dT kvs) from OZ ok e);refine ⟨z,y,xs,r,o,es,ep,h1,h2,h3,h4,λ x hx=>?_,h5⟩;have all:∀ {l:List (List Key×V)}{m:List (List Key×Addr×Value)},KT H l m->∀ x∈m,(tupleKind (zB P w)).is h x.1 x.2.1:=by
  intro l m q
  induction q with
  | nil=>intro x hx;exact nomatch hx
  | @cons p q ps qs hq t ih =>
   intro x hx;rcases Y0g.mp hx with e | hx
   ·subst e;exact yS ok (by rw [<- hq.1];exact hq.2.1)
   ·exact ih x hx
 exact all r x hx
theorem z3p {kvs:List (List Key×V)}(ok:HOk P w H h)(e:H a=some (.dT kvs)):kvs.length<=sizeLine/\(a==sysModules)=false /\
  ∃ xs,KT H kvs xs/\h.DictOfH (tupleKind (zB P w)) a xs:=Vp ok (.inl e)
end
def DGet (H:Hp)(a:Addr)(y:V)(r:Option V):Prop :=
 (∃ kvs k,Rd H a (.dK kvs)/\y=kV k/\r=qo kvs k)\/∃ kvs k b,Rd H a (.dT kvs)/\y=.ref b/\H b=some (.tup (k.map kV))/\r=qo kvs k
def DPut (H:Hp)(a:Addr)(y v:V)(H':Hp):Prop :=
 (∃ kvs k,H a=some (.dK kvs)/\y=kV k/\kvs.length<sizeLine/\H'=upd H a (.dK (jB kvs k v))) \/
 ∃ kvs k b,H a=some (.dT kvs)/\y=.ref b/\H b=some (.tup (k.map kV))/\kvs.length<sizeLine/\H'=upd H a (.dT (jB kvs k v))
theorem DGet.k {k:Key}(e:H a=some (.dK kvs)):DGet H a (kV k) (qo kvs k):=.inl ⟨kvs,k,.inl e,rfl,rfl⟩
theorem DPut.k {k:Key}(e:H a=some (.dK kvs))(hl:kvs.length<sizeLine):DPut H a (kV k) v (upd H a (.dK (jB kvs k v))):=.inl ⟨kvs,k,e,rfl,hl,rfl⟩
section
variable {X:Cx}{pins:132}{σ:St}{H:Hp}{s:170}{a:Addr}{y v:V}{u r:Value}{o:Option V}{A:Around}{E:XQ}
theorem Inv.big (I:127):sysModules<s.heap.objs.size:=by
 have h:=(I.mod.glob.keeps I.bk).lt;exact Y3n 123 h
theorem Gx (hu:A.units+1<cLine)(I:127)(g:DGet H a y (some v))(ry:RelV y u)(h:∀ w' s',Inv X pins σ H s'->RelV v w'->Q w' s') :
  wpAny 130 A (getItem (.ref a) u) Q E s:=by
 rcases g with ⟨kvs,k,e,ey,l⟩ | ⟨kvs,k,b,e,ey,eb,l⟩
 ·subst ey;obtain ⟨z,hd,vs,rel,dd⟩:=Vo I.hok e;obtain ⟨w',hw,rw'⟩:=RelO.some_of (by rw [l];exact rel.val k);exact wpAny_getItem_of (yo ry) dd.mapOf hw (h w' _ (I.tok _) rw')
 ·subst ey;cases (show u=Value.ref b from ry);obtain ⟨z,hd,xs,rel,dd⟩:=Vp I.hok e;obtain ⟨w',hw,rw'⟩:=RelO.some_of (by rw [l];exact rel.val k);obtain ⟨p,hp,hp2⟩:=Y37.mp hw;refine wpAny_getItem_heap (tupleKind_room_in1 hu) (yS I.hok eb) dd hp ?_;rw [hp2];exact h w' _ (I.tok _) rw'
theorem za3 {Q:XQ}(hu:A.units+1<cLine)(I:127)(g:DGet H a y o)(ry:RelV y u)(h:∀ s',Inv X pins σ H s'->Q (.bool o.isSome) s') :
  wpAny 130 A (compareOp .In u (.ref a)) Q E s:=by
 rcases g with ⟨kvs,k,e,ey,l⟩ | ⟨kvs,k,b,e,ey,eb,l⟩
 ·subst ey;obtain ⟨z,hd,vs,rel,dd⟩:=Vo I.hok e;refine wpAny_in_of (yo ry) hd dd.mapOf ?_;rw [<- (rel.val k).isSome_eq,<- l];exact h _ (I.tok _)
 ·subst ey;cases (show u=Value.ref b from ry);obtain ⟨z,hd,xs,rel,dd⟩:=Vp I.hok e;refine wpAny_in_heap (tupleKind_room_in1 hu) (yS I.hok eb) hd dd ?_;have q:=(rel.val k).isSome_eq;rw [Y2k] at q;rw [<- q,<- l];exact h _ (I.tok _)
theorem z1j {Q:XQ}(hu:A.units+1<cLine)(I:127)(g:DGet H a y o)(ry:RelV y u)(h:∀ s',Inv X pins σ H s'->Q (.bool (!o.isSome)) s') :
  wpAny 130 A (compareOp .NotIn u (.ref a)) Q E s:=by
 rcases g with ⟨kvs,k,e,ey,l⟩ | ⟨kvs,k,b,e,ey,eb,l⟩
 ·subst ey;obtain ⟨z,hd,vs,rel,dd⟩:=Vo I.hok e;refine wpAny_notIn_of (yo ry) hd dd.mapOf ?_;rw [<- (rel.val k).isSome_eq,<- l];exact h _ (I.tok _)
 ·subst ey;cases (show u=Value.ref b from ry);obtain ⟨z,hd,xs,rel,dd⟩:=Vp I.hok e;refine wpAny_notIn_heap (tupleKind_room_in1 hu) (yS I.hok eb) hd dd ?_;have q:=(rel.val k).isSome_eq;rw [Y2k] at q;rw [<- q,<- l];exact h _ (I.tok _)
theorem ZF (I:127)(mu:Mut (H a))(hs:Heap.SameBut a s.heap h')(he:∃ q,h'.get? a=some q)(new:ObjOk X.prog X.w (upd H a ob) h' a ob) :
  Inv X pins σ (upd H a ob) { s with heap:=h',toks:=t' } :=
 I.write mu 206 (λ b q hb z=>(hs.2 b hb).trans z) he new
theorem Uf (z:kvs.length<=sizeLine)(hd:(a==sysModules)=false)(rel:KV kvs vs)(dd:h'.DictOf (zB P w) a vs) :
  ObjOk P w H' h' a (.dK kvs):=⟨z,hd,vs,rel,dd⟩
theorem Gy {Q:Unit->Shared->Prop}(hu:A.units+1<cLine)(I:127)(g:DPut H a y v H')(ry:RelV y u)(rv:RelV v r)(h:∀ s',Inv X pins σ H' s'->Q () s') :
  wpAny 130 A (setItem (.ref a) u r) Q E s:=by
 rcases g with ⟨kvs,k,e,ey,l,eH⟩ | ⟨kvs,k,b,e,ey,eb,l,eH⟩
 ·subst ey eH;obtain ⟨z,hd,vs,rel,dd⟩:=B0 I.hok e;have hz:vs.length<=sizeLine:=by rw [<- rel.length];exact z
  have hl:(jB kvs k v).length<=sizeLine:=by have:=jX kvs k v;omega
  refine wpAny_setItem_pairs (yo ry) dd λ h' dd' hs=>h _ ?_;have he:∃ q,h'.get? a=some q:=let ⟨q,_,_,hq,_⟩:=dd';⟨q,hq⟩;exact ZF I (by rw [e];exact True.intro) hs he (Uf hl hd (rel.put k rv) dd')
 ·subst ey eH;cases (show u=Value.ref b from ry);obtain ⟨z,hd,xs,rel,dd⟩:=z3p I.hok e;have hz:xs.length<=sizeLine:=by rw [<- Paired.length rel];exact z
  have hl:(jB kvs k v).length<=sizeLine:=by have:=jX kvs k v;omega
  refine wpAny_setItem_heap (tupleKind_room_in1 hu) (yS I.hok eb) dd λ h' dd' hs=>h _ ?_;obtain ⟨q,es,ep,hq,h2,h3,h4,_,h5⟩:=dd';refine ZF I (by rw [e];exact True.intro) hs ⟨q,hq⟩ ⟨hl,hd,_,(rel.put k eb rv).keeps λ c ys ec=>?_,q,es,ep,hq,h2,h3,h4,h5⟩;rw [zp (z72 ec e (λ z=>nomatch z))];exact ec
end
theorem QT {H:Hp}(h:Heap)(hb:sysModules<h.objs.size):ObjOk P w H (h.push { cls:=.type "dict",data:=.dict #[] }) h.objs.size (.dK []) :=
 ⟨Y1w _,beq_eq_false_iff_ne.mpr (Ne.symm (Y0m hb)),[],.nil,Heap.DictOf.new h⟩
def z5u:TE:=λ _ H Q=>∀ p,H p=none->Q (.ref p) (upd H p (.dK []))
section
variable {X:Cx}{pos:Pos}
theorem B1:PE X (.Dict [] [] pos) z5u:=λ pins s σ H Q I h =>
 wpAny_Dict_empty ⟨.ref s.heap.objs.size,_,I.laid (λ _ _ q=>Y02 _ q) 176 (QT s.heap I.big),rfl,h _ (I.hok.fresh 176)⟩
end
def WO:List (TE×TE)->St->Hp->(List (V×V)->Hp->Prop)->Prop
 | [],_,H,Q=>Q [] H
 | (tk,tv)::r,σ,H,Q=>tk σ H λ x H1=>tv σ H1 λ y H2=>WO r σ H2 λ ps H3=>Q ((x,y)::ps) H3
abbrev VV:List (V×V)->List (Value×Value)->Prop:=Paired λ p q=>RelV p.1 q.1/\RelV p.2 q.2
def PPs (X:Cx)(pos:Pos)(keys:List (Option Expr))(values:List Expr)(trs:List (TE×TE)):Prop :=
 ∀ (pins:132) (s:170) (σ:St) (H:Hp) (Q:List (V×V)->Hp->Prop),Inv X pins σ H s->WO trs σ H Q ->
  wpAny 130 X.A (evalPairs (pairTrees keys values X.env pos)) (λ vs s'=>∃ ps H',Inv X pins σ H' s'/\VV ps vs/\Q ps H') X.xe s
theorem z1k {pos:Pos}:PPs X pos [] [] []:=λ pins s σ H Q I h=>pairTrees_nil_walk ⟨[],H,I,.nil,h⟩
theorem B2 (hk:PE X k tk)(hv:PE X v tv)(hr:PPs X pos ks vs trs) :
  PPs X pos (some k::ks) (v::vs) ((tk,tv)::trs):=λ pins s σ H Q I h =>
 pairTrees_cons_walk (thn (hk pins s σ H _ I h) λ u s1 ⟨x,H1,I1,rx,q1⟩=>thn (hv pins s1 σ H1 _ I1 q1) λ w2 s2 ⟨y,H2,I2,ry,q2⟩ =>
  thn (hr pins s2 σ H2 _ I2 q2) λ ws s3 ⟨ps,H3,I3,rel,q3⟩=>⟨(x,y)::ps,H3,I3,.cons ⟨rx,ry⟩ rel,q3⟩)
def wL (kvs more:List (Key×V)):List (Key×V):=more.foldl (λ acc kv=>jB acc kv.1 kv.2) kvs
theorem KV.merge:∀ {more:List (Key×V)}{rs:List (Key×Value)}{kvs:List (Key×V)}{vs:List (Key×Value)},KV more rs->KV kvs vs->KV (wL kvs more) (merged vs rs):=by
 intro more rs kvs vs r;unfold KV at r
 induction r generalizing kvs vs with
 | nil=>intro q;exact q
 | @cons p q ps qs h t ih =>
  intro r0;have e:KV (jB kvs p.1 p.2) (stored vs q.1 q.2):=by
   have:=r0.put p.1 h.2
   rw [<- h.1];exact this
  exact ih e
theorem wg:∀ (more kvs:List (Key×V)),(wL kvs more).length<=kvs.length+more.length
 | [],kvs=>by show kvs.length<=kvs.length+0;omega
 | p::r,kvs=>by
  have h1:=wg r (jB kvs p.1 p.2);have h2:=jX kvs p.1 p.2;show (wL (jB kvs p.1 p.2) r).length<=_;rw [Y03];omega
theorem ZO:∀ {kvs:List (Key×V)}{ws:List (Value×Value)},VV (kvs.map λ kv=>(kV kv.1,kv.2)) ws->∃ rs,Carries (zB P w) ws rs/\KV kvs rs
 | [],_,r=>by rw [Y20] at r;cases r;exact ⟨[],True.intro,.nil⟩
 | p::kvs,_,r=>by
  rw [Y0n] at r;cases r with
  | @cons a b as bs h t =>
   obtain ⟨rs,c,q⟩:=ZO t;obtain ⟨b1,b2⟩:=b;exact ⟨(p.1,b2)::rs,⟨yo h.1,rfl,c⟩,.cons ⟨rfl,h.2⟩ q⟩
def z7n (trs:List (TE×TE)):TE:=λ σ H Q=>∀ p,H p=none->WO trs σ (upd H p (.dK [])) λ ps H2=>H2 p=some (.dK [])/\∃ kvs:List (Key×V),ps=kvs.map (λ kv=>(kV kv.1,kv.2))/\kvs.length<=15/\Q (.ref p) (upd H2 p (.dK (wL [] kvs)))
theorem z1l (h:PPs X pos keys values trs)(hall:keys.all (·.isSome)=true)(hl:keys.length=values.length)(h0:keys≠[])
  (h15:keys.length<=15):PE X (.Dict keys values pos) (z7n trs):=by
 intro pins s σ H Q I q;have hn:=I.hok.fresh (Y04 s.heap.objs.size);have I1:=I.laid (t':=s.toks) (λ _ _ q=>Y02 _ q) 176 (QT s.heap I.big);refine wpAny_Dict_walk (knd:=zB X.prog X.w) hall hl h0 h15 (thn (h pins _ σ _ _ I1 (q _ hn)) λ ws s2 ⟨ps,H2,I2,rel,e,kvs,ep,lk,q2⟩=>?_);subst ep;obtain ⟨rs,c,rk⟩:=ZO rel;obtain ⟨z,hd,vs0,r0,dd⟩:=B0 I2.hok e;cases r0;refine ⟨rs,c,dd,λ h' dd' hs=>⟨.ref s.heap.objs.size,_,?_,rfl,q2⟩⟩;have hz:(wL [] kvs).length<=sizeLine:=by
  have h1:=wg kvs [];rw [Y1x] at h1;rw [sizeLine_eq];omega
 have he:∃ q,h'.get? s.heap.objs.size=some q:=let ⟨q,_,_,hq,_⟩:=dd';⟨q,hq⟩;exact ZF I2 (by rw [e];exact True.intro) hs he (Uf hz hd (rk.merge .nil) dd')
structure M1 (X:Cx)(o:Expr)(m:Str)(apos:Pos)(e:Expr)(cpos:Pos):Prop where
 base:attributeBase o m X.env (eval o X.env)=eval o X.env
 few:((backTo cpos (starEach [e] X.env)).all (λ x=>!x.1)&&(backToKw cpos (keywordEach [] X.env)).all (λ x=>x.1.isSome)
  && decide (([e]:List Expr).length+([]:List Keyword).length+(if ([]:List Keyword).isEmpty then 0 else 1)<30))=true
 line:(apos.endLine==cpos.line)=true
 trees:backTo cpos (starEach [e] X.env)=[(false,eval e X.env)]
structure M2 (X:Cx)(o:Expr)(m:Str)(apos:Pos)(e f:Expr)(cpos:Pos):Prop where
 base:attributeBase o m X.env (eval o X.env)=eval o X.env
 few:((backTo cpos (starEach [e,f] X.env)).all (λ x=>!x.1)&&(backToKw cpos (keywordEach [] X.env)).all (λ x=>x.1.isSome)
  && decide (([e,f]:List Expr).length+([]:List Keyword).length+(if ([]:List Keyword).isEmpty then 0 else 1)<30))=true
 line:(apos.endLine==cpos.line)=true
 trees:backTo cpos (starEach [e,f] X.env)=[(false,eval e X.env),(false,eval f X.env)]
end L2
namespace L2
open PySem PyProof.Rows
open Sem (wp)
end L2
namespace L2
open PySem PySem.Spec PyProof.Rows
abbrev ZK:=St->Value->Hp->Prop
def XE (X:Cx)(Z:ZK)(e:Value)(s':170):Prop:=False
def Thr (X:Cx)(Z:ZK):Prop:=True
theorem Thr.thr {X:Cx}{Z:ZK}(_:Thr X Z):∀ e s',XE X Z e s'->X.xe e s':=λ _ _ h=>False.elim h
theorem Thr.toXOk {X:Cx}{Z:ZK}(_:Thr X Z):True:=trivial
def CXs (P:XZ)(w:World):CXT:=λ _ _ _ _ _ _=>False
theorem z1m {X:Cx}{Z:ZK}:Thr X Z:=trivial
def B3 (sp:Sp)(dvs:211)(Z:ZK)(t:TA):TE:=λ σ H Q=>t σ H λ vs H1=>sp (vs++dvs) H1 Q (λ C _ H'=>Z σ C H')
section
variable {X:Cx}{k:Nat}{f C:Addr}{fd:FuncData}{ps:XY}{sp:Sp}{dvs:211}{ds:XU}{Z:ZK}{x m:Str}{p pos apos:Pos}{e o:Expr}{es:List Expr}{ta:TE}{t:TA}
theorem Vq (F:244)(hr:Room k X.A)(hb:Binds X.K fd ps ds)(hd:Vals dvs ds)(th:Thr X Z)
  (I:127) (r:Vals vs us) (h:sp (vs++dvs) H Q (λ C _ H'=>Z σ C H')):wpAny 130 X.A (call (.ref f) us) (EP X pins σ Q) X.xe s :=
 z5l F hr hb hd (E:=λ C _ H'=>Z σ C H') (λ _ _ _ _ _ _ _ h=>h.elim) I r h
theorem B4 (F:244)(hr:Room k X.A)(hg:Gl X x)(hm:X.mg x=some (.ref f))(hk:PySem.W.keepIn X.K (.ref f)=true)(hb:Binds X.K fd ps ds)(hd:Vals dvs ds)(th:Thr X Z)
  (ha:PA X (e::es) t) (hdb:175=false:=by decide) (he:starEach (e::es) X.env=(false,eval e X.env)::starEach es X.env:=by rfl) (hpl:(backTo pos (starEach es X.env)).any (·.1)=false:=by rfl) :
  PE X (.Call (.Name x p) (e::es) [] pos) (B3 sp dvs Z t):=by
 intro pins s σ H Q I h;refine wpAny_Call_Name_kw (WG I hg hm ?_ hdb);refine Y3h I.ok.mod.kin hk (thn (ha pos pins s σ H _ I h) λ us s1 ⟨vs,H1,I1,r,q⟩=>⟨I1.kIn,?_⟩) he hpl;exact Vq F hr hb hd th I1 r q
end
def JC (env:Env):List (Str×NameKind)->List (Str×Addr)->List (Str×Addr)
 | [],cs=>cs
 | (n,k)::r,cs=>JC env r (if k==.free then (n,(env.cells.lookup n).getD 0)::cs else cs)
def QU (scope:Scope)(env:Env):List (Str×Addr):=JC env scope.names []
theorem ZP (h:∀ y∈scope.names,y.2=.free->∃ c,env.cells.lookup y.1=some c):closureFor scope env=pure (QU scope env):=by
 unfold closureFor QU;have go:∀ (l:List (Str×NameKind)) (cs:List (Str×Addr)),(∀ y∈l,y.2=.free->∃ c,env.cells.lookup y.1=some c) ->
   (forIn l cs λ (x:Str×NameKind) (r:List (Str×Addr))=>(match x with
    | (name,kind)=>if (kind==NameKind.free)=true then (do let a <- cellOf env name;pure (ForInStep.yield ((name,a)::r))) else (pure (ForInStep.yield r)):Sem (ForInStep (List (Str×Addr)))))=(pure (JC env l cs):Sem (List (Str×Addr))):=by
  intro l
  induction l with
  | nil=>intro cs _;rfl
  | cons y r ih =>
   intro cs hl;obtain ⟨n,k⟩:=y;rw [Y2v];by_cases hk:(k==NameKind.free)=true
   ·obtain ⟨c,hc⟩:=hl (n,k) (Y0c ..) (by simpa using hk);have e:cellOf env n=pure c:=by unfold cellOf;rw [hc]
    simp only [hk,if_true,e,pure_bind,JC,hc,Option.getD_some];exact ih _ λ y hy=>hl y (Y06 _ hy)
   ·simp only [hk,if_false,pure_bind,JC,Y1q];exact ih _ λ y hy=>hl y (Y06 _ hy)
 have:=go scope.names [] h
 first
  | (rw [this];rfl)
  | (simp only [bind_pure_comp] at this ⊢;rw [this];rfl)
  | (simp only [bind_pure_comp] at this ⊢;rw [this];simp)
theorem QV:∀ {l:List (Str×NameKind)}{cs:List (Str×Addr)}{x:Str}{c:Addr},(∀ y∈l,y.2=.free->∃ c,env.cells.lookup y.1=some c)->(x,c)∈JC env l cs->(x,c)∈cs\/env.cells.lookup x=some c
 | [],_,_,_,_,h=>.inl h
 | (n,k)::r,cs,x,c,hl,h=>by
  rcases QV (λ y hy=>hl y (Y06 _ hy)) h with h | h
  ·by_cases hk:(k==NameKind.free)=true
   ·rw [if_pos hk] at h;rcases Y0g.mp h with e | h
    ·obtain ⟨c',hc⟩:=hl (n,k) (Y0c ..) (by simpa using hk);rw [hc] at e;cases e;exact .inr hc
    ·exact .inl h
   ·rw [if_neg hk] at h;exact .inl h
  ·exact .inr h
theorem W5:∀ {l:List (Str×NameKind)}{cs:List (Str×Addr)}{p:Str×Addr},p∈cs->p∈JC env l cs
 | [],_,_,h=>h
 | (n,k)::r,cs,p,h=>by
  unfold JC;refine W5 ?_
  split
  ·exact Y06 _ h
  ·exact h
theorem ZQ:∀ {l:List (Str×NameKind)}{cs:List (Str×Addr)}{x:Str},(x,NameKind.free)∈l->∃ c,(x,c)∈JC env l cs
 | (n,k)::r,cs,x,h=>by
  unfold JC;rcases Y0g.mp h with e | h
  ·cases e;exact ⟨(env.cells.lookup n).getD 0,W5 (by rw [if_pos 123];exact Y0c ..)⟩
  ·exact ZQ h
theorem jh [BEq α][LawfulBEq α]:∀ {l:List (α×β)}{x:α}{c:β},(x,c)∈l->∃ c',l.lookup x=some c'
 | (n,k)::r,x,c,h=>by
  rw [Y2f];cases e:x==n with
  | true=>exact ⟨k,rfl⟩
  | false =>
   rcases Y0g.mp h with q | q
   ·cases q;simp at e
   ·exact jh q
def jn (scope:Scope)(C:Addr)(env:Env):List (Str×Addr):=cellsFrom (C+1) scope.names (QU scope env)
theorem zT:∀ (l:List (Str×NameKind)) (n:Nat) (acc:List (Str×Addr)),cellsFrom n l acc=cellsFrom n l []++acc
 | [],_,_=>rfl
 | (x,k)::r,n,acc=>by
  unfold cellsFrom;by_cases hk:(k==NameKind.cell)=true
  ·rw [if_pos hk,if_pos hk,zT r (n+1) ((x,n)::acc),zT r (n+1) [(x,n)],Y05];rfl
  ·rw [if_neg hk,if_neg hk];exact zT r n acc
theorem wj:∀ {l:List (Str×NameKind)}{n:Nat}{x:Str}{c:Addr},(x,c)∈cellsFrom n l []->(x,NameKind.cell)∈l
 | (y,k)::r,n,x,c,h=>by
  unfold cellsFrom at h;by_cases hk:(k==NameKind.cell)=true
  ·rw [if_pos hk,zT] at h;rcases Y0r.mp h with h | h
   ·exact Y06 _ (wj h)
   ·have e:x=y:=by simpa using (Y07.mp h▸rfl:(x,c).1=(y,n).1)
    have e2:k=.cell:=by simpa using hk
    rw [e,e2];exact Y0c ..
  ·rw [if_neg hk] at h;exact Y06 _ (wj h)
theorem B5 (h:(jn scope C env).lookup x=some c):(cellsFrom (C+1) scope.names []).lookup x=some c\/((cellsFrom (C+1) scope.names []).lookup x=none/\(QU scope env).lookup x=some c):=by
 unfold jn at h;rw [zT,Y3j] at h;cases e:(cellsFrom (C+1) scope.names []).lookup x with
 | none=>rw [e] at h;exact .inr ⟨rfl,h⟩
 | some c'=>rw [e] at h;exact .inl h
theorem z5v (h:(cellsFrom (C+1) scope.names []).lookup x=some c):(jn scope C env).lookup x=some c:=by
 unfold jn;rw [zT,Y3j,h];rfl
theorem z5w (h:(QU scope env).lookup x=some c)(h0:(cellsFrom (C+1) scope.names []).lookup x=none):(jn scope C env).lookup x=some c:=by
 unfold jn;rw [zT,Y3j,h0];exact h
theorem ZR {code:Value}
  (hQ:Q (newEnv scope s.heap.objs.size globals (cellsFrom 179 scope.names closure) qual func code (some e) builtins) { s with heap:=pushCells (s.heap.push { cls:=.type "dict",data:=.dict #[] }) scope.names }) :
  wpAny M A (newFunctionEnv scope globals closure [] qual func code (some e) builtins) Q E s:=by
 simp only [newFunctionEnv,Option.isSome_some,if_true];refine wpAny_bind (wpAny_alloc ?_);refine wpAny_bind (wpAny_layCells _ (λ name kind cells=>by cases hkc:kind==NameKind.cell<;>simp [hkc]) _ _ _ _ ?_);rw [show ({ s with heap:=s.heap.push { cls:=.type "dict",data:=.dict #[] } }:Shared).heap.objs.size=s.heap.objs.size+1 from Y1u ..];refine wpAny_bind ?_;rw [Y2w];exact wpAny_pure (wpAny_pure hQ)
abbrev zv (X:Cx)(NC:XY)(scope:Scope)(C:Addr)(s:170)(H:Hp)(ex:XV)(pn:132)(xe:XQ):Cx :=
  { X with N:=NC,s₀:=s,H₀:=H,env:=compEnvC scope (jn scope C X.env) C X.env,outer:=X.stack,stack:=X.stack,ex:=ex,fn:=λ x=>scope.names.lookup x==some .cell,calm:=true,pn:=pn,xe:=xe }
def ji (osc scope:Scope)(N NC:XY)(cap:232):Bool :=
 scope.kind==.function&&scope.names.all (λ y=>y.2 != .cell||scope.names.lookup y.1==some .cell) &&
 scope.names.all (λ y=>y.2 != .local||scope.names.lookup y.1==some .local) &&
 scope.names.all (λ y=>y.2 != .free||osc.names.lookup y.1==some .cell)&&cap.length==NC.length &&
 (List.range NC.length).all λ j=>match cap[j]?,NC[j]? with
  | some (some i),some x=>N[i]?==some x&&scope.names.lookup x==some .free
  | some none,some x=>scope.names.lookup x==some .local||scope.names.lookup x==some .cell
  | _,_=>false
def qt (cap:232)(σ:St):St:=cap.map λ o=>o.bind λ i=>(σ[i]?).bind id
theorem wM {scope:Scope}{env:Env}(hk:env.scope.kind=.function):∀ {names:List (Str×NameKind)},(∀ y∈names,y.2=.free->env.kindOf y.1=some .cell) ->
  (names.map λ (n,k)=>if (k==NameKind.free&&env.scope.kind==.function&&env.kindOf n==some .cell) then (n,NameKind.cell) else (n,k)).lookup x=(names.lookup x).map λ k=>if k=.free then .cell else k
 | [],_=>rfl
 | (n,k)::r,h=>by
  have ih:=wM (scope:=scope) (x:=x) hk λ y hy=>h y (Y06 _ hy);show List.lookup x ((if (k==NameKind.free&&env.scope.kind==.function&&env.kindOf n==some .cell)=true then (n,NameKind.cell) else (n,k))::_)=_;by_cases hkf:k=.free
  ·subst hkf;rw [if_pos (by rw [hk,h (n,.free) (Y0c ..) rfl];decide)];rw [Y2f,Y2f];cases e:x==n with
   | true=>rfl
   | false=>exact ih
  ·rw [if_neg (by intro z;simp only [Y0t,beq_iff_eq] at z;exact hkf z.1.1)];rw [Y2f,Y2f];cases e:x==n with
   | true=>simp [hkf]
   | false=>exact ih
section
variable {X:Cx}{pins:132}{σ:St}{H H':Hp}{s s':170}
theorem Inv.repn (I:127)(h:∀ p∈pn++pins',p∈X.pn++pins):Inv { X with pn:=pn,xe:=xe } pins' σ H s :=
 ⟨⟨I.ok.mod,I.ok.kind,I.ok.glob,I.ok.blt,I.ok.above,I.ok.inj,I.ok.has,I.ok.cab,I.ok.hd,I.ok.frames,I.ok.stk,I.ok.exf,I.ok.bs,I.ok.bsz,I.ok.noex,I.ok.exfs,I.ok.funs,I.ok.frf⟩,
  I.os,I.bare,I.base,I.loc,I.cell,I.free,I.freeC,λ p hp=>I.pin p (h p hp),I.hok,I.len⟩
theorem Inv.track (I:127)(hD:H D=none)(h0:X.s₀.heap.get? D=none)(hL:D≠X.env.locals)(hC:∀ x c,X.env.cells.lookup x=some c->c≠D)(hp:∀ p∈X.pn++pins,p.1≠D)
  (new:ObjOk X.prog X.w (upd H D o) s.heap D o):Inv X pins σ (upd H D o) s:=by
 have up:∀ b u,H b=some u->upd H D o b=some u:=λ b u e=>by rw [zp (jy e hD)];exact e
 refine ⟨I.ok,I.os,I.bare,⟨I.base.keep,I.base.slot,λ b u e n hx=>?_,I.base.there,λ b xs e=>up _ _ (I.base.tups b xs e),λ b u xs e=>up _ _ (I.base.frzs b u xs e),λ b ps e=>?_⟩,I.loc,I.cell,?_,λ x c e=>?_,λ p hq=>?_,λ b u e=>?_,I.len⟩
 ·rw [zp (λ z=>by rw [z,h0] at e;cases e)];exact I.base.free b u e n hx
 ·obtain ⟨more,q⟩:=I.base.tbls b ps e;exact ⟨more,up _ _ q⟩
 ·rw [zp (Ne.symm hL)];exact I.free
 ·rw [zp (hC x c e)];exact I.freeC x c e
 ·obtain ⟨e,n,r⟩:=I.pin p hq;exact ⟨e,by rw [zp (hp p hq)];exact n,r⟩
 ·by_cases hb:b=D
  ·subst hb;rw [zA] at e;cases e;exact new
  ·rw [zp hb] at e;exact (I.hok b u e).stay (λ _ _ _ q=>q) (λ c q=>up _ _ q) λ c xs q=>up _ _ q
end
def PF (X:Cx)(ifs:List Expr)(t:TT):Prop :=
 ∀ (pins:132) (s:170) (σ:St) (H:Hp) (Q:Bool->Hp->Prop),Inv X pins σ H s->t σ H Q ->
  wpAny 130 X.A (forIn ifs true λ c r=>if r=true then do let ok <- isTrue c X.env (eval c X.env);pure (ForInStep.yield ok) else pure (ForInStep.yield r)) (TP X pins σ Q) X.xe s
def z1n:TT:=λ _ H Q=>Q true H
theorem z5x:PF X [] z1n:=λ pins s σ H Q I h=>wpAny_tests_nil ⟨H,I,h⟩
theorem B6 (h:PT X c t):PF X [c] t:=λ pins s σ H Q I q=>wpAny_tests_one (h pins s σ H Q I q)
theorem j9 (h:ji osc scope N NC cap=true) :
  scope.kind=.function/\(∀ y∈scope.names,y.2=.cell->scope.names.lookup y.1=some .cell)/\(∀ y∈scope.names,y.2=.local->scope.names.lookup y.1=some .local)/\(∀ y∈scope.names,y.2=.free->osc.names.lookup y.1=some .cell)/\cap.length=NC.length /\
  (∀ (j i:Nat),cap[j]?=some (some i)->∃ x,NC[j]?=some x/\N[i]?=some x/\scope.names.lookup x=some .free)/\∀ (j:Nat) (x:Str),cap[j]?=some none->NC[j]?=some x->scope.names.lookup x=some .local\/scope.names.lookup x=some .cell:=by
 unfold ji at h;simp only [Y0t,Y1l,bne_iff_ne,ne_eq,Bool.or_eq_true,beq_iff_eq,Y3e] at h;obtain ⟨⟨⟨⟨⟨h1,h2⟩,h3⟩,h4⟩,h5⟩,h6⟩:=h;refine ⟨h1,λ y hy e=>(h2 y hy).resolve_left λ z=>z e,λ y hy e=>(h3 y hy).resolve_left λ z=>z e,λ y hy e=>(h4 y hy).resolve_left λ z=>z e,h5,λ j i e=>?_,λ j x e ex=>?_⟩
 ·have hj:j<NC.length:=by rw [<- h5];exact (Y0f.mp e).1
  have q:=h6 j hj;rw [e] at q;cases ex:NC[j]? with
  | none=>rw [ex] at q;simp at q
  | some x =>
   rw [ex] at q;simp only [Y0t,beq_iff_eq] at q;exact ⟨x,rfl,q.1,q.2⟩
 ·have hj:=(Y0f.mp ex).1;have q:=h6 j hj;rw [e,ex] at q;simpa using q
section
variable {X:Cx}{pins:132}{σ:St}{H₂:Hp}{s₂:170}{scope:Scope}{NC:XY}{cap:232}{fp:XV}
theorem Ug (I:Inv X pins σ H₂ s₂)(hc:X.calm=true)(cok:201)(f2:∀ b∈fp,yM X pins H₂ b)(hfp:∀ b∈fp,∃ o,s₂.heap.get? b=some o)
  (hD:D=s₂.heap.objs.size) (hC:C=s₂.heap.objs.size+1) (old:∀ b o,s₂.heap.get? b=some o->h₁.get? b=some o) (hacc:h₁.get? D=some o) (ho:∀ v,o.data≠.cell v) (ns:h₁.Ns C m) (own:CellsOk h₁ (C+1) (cellsFrom (C+1) scope.names [])) :
  Inv (zv X NC scope C s₂ H₂ fp [] xe) [(D,o)] (qt cap σ) H₂ { s₂ with heap:=h₁,toks:=tk }:=by
 obtain ⟨c1,c2,c3,c4,c5,c6,c7⟩:=j9 cok;have hfree:∀ y∈scope.names,y.2=.free->∃ c,X.env.cells.lookup y.1=some c:=λ y hy e=>I.ok.has y.1 (.inl (c4 y hy e));have clx:∀ x c,(QU scope X.env).lookup x=some c->X.env.cells.lookup x=some c:=λ x c e=>by
  rcases QV hfree (Y0z e) with z | z
  ·simp at z
  ·exact z
 have ccx:∀ x c,(jn scope C X.env).lookup x=some c->(cellsFrom (C+1) scope.names []).lookup x=some c\/X.env.cells.lookup x=some c:=λ x c e=>(B5 e).imp id λ z=>clx x c z.2;have hrel:∀ x,(compEnvC scope (jn scope C X.env) C X.env).kindOf x=(scope.names.lookup x).map λ k=>if k=.free then .cell else k:=λ x=>wM (scope:=scope) I.ok.kind λ y hy e=>c4 y hy e;have fresh:∀ b,s₂.heap.objs.size<=b->s₂.heap.get? b=none:=λ b hb=>Y2c hb;have sz:s₂.heap.objs.size<=C:=by rw [hC];exact Y2u _
 have szD:s₂.heap.objs.size<=D:=by rw [hD];exact Y04 _
 have ownF:∀ x c,(cellsFrom (C+1) scope.names []).lookup x=some c->s₂.heap.get? c=none/\s₂.heap.objs.size<=c:=λ x c e=>by
  have q:=(own.empty x c (Y0z e)).2;have q2:s₂.heap.objs.size<=c:=by rw [hC] at q;omega
  exact ⟨fresh c q2,q2⟩
 have cloF:∀ x c,X.env.cells.lookup x=some c->c<s₂.heap.objs.size:=λ x c e=>by
  obtain ⟨v,q⟩:=I.cell x c e;exact q.lt
 have inj:∀ x y c,(jn scope C X.env).lookup x=some c->(jn scope C X.env).lookup y=some c->x=y:=λ x y c e1 e2=>by
  rcases ccx x c e1 with z1 | z1<;>rcases ccx y c e2 with z2 | z2
  ·exact name_of_addr own.apart (Y0z z1) (Y0z z2)
  ·exact absurd (cloF y c z2) (Nat.not_lt.mpr (ownF x c z1).2)
  ·exact absurd (cloF x c z1) (Nat.not_lt.mpr (ownF y c z2).2)
  ·exact I.ok.inj x y c z1 z2
 have exC:∀ b∈fp,b≠C:=λ b hb z=>by
  obtain ⟨o,e⟩:=hfp b hb;rw [z,fresh C sz] at e;cases e
 have exD:∀ b∈fp,b≠D:=λ b hb z=>by
  obtain ⟨o,e⟩:=hfp b hb;rw [z,fresh D szD] at e;cases e
 refine ⟨⟨I.ok.mod,c1,I.ok.glob,I.ok.blt,sz,inj,λ x hx=>?_,λ x c z e=>?_,λ _=>I.ok.hd hc,I.ok.frames,.inl rfl,λ b hb=>⟨exC b hb,λ x c e=>?_⟩,
  I.bs,Y1n I.ok.bsz I.sz,λ b o e z=>?_,λ b hb z=>?_,I.stack,I.stkFree⟩,rfl,I.bare,Un.kept old,⟨m,ns,λ j x v e1 e2 e3=>?_⟩,λ x c e=>?_,I.hok.fresh sz,λ x c e=>?_,λ p hp=>?_,I.hok.kept old,?_⟩
 ·rw [hrel] at hx;have hxf:scope.names.lookup x=some .free\/scope.names.lookup x=some .cell:=by
   cases e:scope.names.lookup x with
   | none=>rw [e] at hx;simp at hx
   | some k =>
    rw [e] at hx;by_cases hk:k=.free
    ·rw [hk];exact .inl rfl
    ·simp only [Y2t,if_neg hk,Option.some.injEq] at hx;rcases hx with z | z
     ·rw [z];exact .inr rfl
     ·exact absurd z hk
  rcases hxf with hxf | hxf
  ·obtain ⟨c,hm⟩:=ZQ (Y0z hxf);obtain ⟨c',hl⟩:=jh hm;exact Y2h.mp (Y28 _ _ _ (.inr (by rw [show (QU scope X.env).lookup x=some c' from hl];rfl)))
  ·exact Y2h.mp (Y28 _ _ _ (.inl hxf))
 ·have hx:scope.names.lookup x=some .cell:=by simpa using z
  obtain ⟨c',hl⟩:=Y2h.mp (Y28 scope.names (C+1) [] (.inl hx));have e':(jn scope C X.env).lookup x=some c:=e;rw [z5v hl] at e';cases e';exact (ownF x _ hl).2
 ·rcases ccx x c e with z | z
  ·intro q;obtain ⟨o,eb⟩:=hfp b hb;rw [<- q,(ownF x c z).1] at eb;cases eb
  ·exact (f2 b hb).2.2.2.2.1 x c z
 ·obtain ⟨e1,e2⟩:=I.bs b o e
  have:=(f2 b z).2.2.2.1
  rcases this with q | q
  ·exact I.ok.noex b o e q
  ·exact absurd (Y0p (Y0i (I.ok.bs b o e).1) q) (Y1f _)
 ·rcases Y0g.mp (I.stkSub b z) with q | q
  ·exact (f2 b hb).2.1 q
  ·exact (f2 b hb).2.2.1 q
 ·have ej:cap[j]?=some ((some ((cap[j]?.bind id).getD 0):Option Nat)):=by
   unfold qt at e2;rw [Y0u] at e2;cases q:cap[j]? with
   | none=>rw [q] at e2;simp at e2
   | some oo =>
    rw [q] at e2;cases oo with
    | none=>simp at e2
    | some i=>simp
  generalize ((cap[j]?.bind id).getD 0)=i at ej;obtain ⟨y,y1,y2,y3⟩:=c6 j i ej
  have:y=x:=Option.some.inj (y1.symm.trans e1)
  subst this;have ev:σ[i]?=some (some v):=by
   unfold qt at e2;rw [Y0u,ej] at e2;simp only [Y2t,Y2q,Option.some.injEq] at e2;cases q:σ[i]? with
   | none=>rw [q] at e2;simp at e2
   | some w=>rw [q] at e2;simp at e2;rw [e2]
  have kc:=c4 (y,.free) (Y0z y3) rfl;obtain ⟨m',hn',hl'⟩:=I.loc;obtain ⟨u,r,q⟩:=hl' i y v y2 ev (.inr (.inl kc));refine ⟨u,r,.inr ⟨.inl (by rw [hrel,y3];rfl),?_⟩⟩;rcases q with ⟨k,_⟩ | ⟨k,c,e,z⟩
  ·rw [show X.env.kindOf y=some .cell from kc] at k;cases k
  ·obtain ⟨c',hm⟩:=ZQ (Y0z y3);obtain ⟨c'',hl⟩:=jh hm
   have:=clx y c'' hl
   rw [e] at this;cases this;obtain ⟨oc,h1,h2⟩:=z;refine ⟨c,z5w hl ?_,oc,old c oc h1,h2⟩;cases eo:(cellsFrom (C+1) scope.names []).lookup y with
   | none=>rfl
   | some c2' =>
    have q1:=c2 (y,.cell) (wj (Y0z eo)) rfl;rw [y3] at q1;cases q1
 ·rcases ccx x c e with z | z
  ·exact ⟨none,(own.empty x c (Y0z z)).1⟩
  ·obtain ⟨v,oc,h1,h2⟩:=I.cell x c z;exact ⟨v,oc,old c oc h1,h2⟩
 ·rcases ccx x c e with z | z
  ·exact I.hok.fresh (ownF x c z).2
  ·exact I.freeC x c z
 ·have e:p=(D,o):=by simpa using hp
  subst e;refine ⟨hacc,I.hok.fresh szD,λ z=>by rw [hC,hD] at z;exact absurd z (Y0m (Y2e _)),λ z=>?_,ho⟩;obtain ⟨_,ob,e,_⟩:=I.stack.mem z;rw [fresh D szD] at e;cases e
 ·unfold qt;rw [Y08];exact c5
theorem Uh (I:Inv X pins σ H₂ s₂)(f2:∀ b∈fp,yM X pins H₂ b)(hC:C=s₂.heap.objs.size+1)
  (J:Inv (zv X NC scope C s₂ H₂ fp pn xe) pc σ' H' s') (sb:Heap.SameBut C s'.heap h'):Inv X pins σ H' { s' with heap:=h' }:=by
 have fC:s₂.heap.get? C=none:=Y2c (by rw [hC];exact Y2u _);have nC:∀ b o,s₂.heap.get? b=some o->b≠C:=λ b o e z=>by rw [z,fC] at e;cases e
 have u:Un (frs X.stack) fp H₂ H' s₂.heap h':=by
  have v:=J.base;refine ⟨λ b o e n hb hx=>(sb.2 b (nC b o e)).trans (v.keep b o e n hb hx),λ b o e n hb hx=>?_,v.free,λ b o e hx=>?_,v.tups,v.frzs,v.tbls⟩
  ·obtain ⟨sl,q⟩:=v.slot b o e n hb hx;exact ⟨sl,(sb.2 b (nC b o e)).trans q⟩
  ·obtain ⟨o',q⟩:=v.there b o e hx;exact ⟨o',(sb.2 b (nC b o e)).trans q⟩
 have hok:=λ b o e=>by
  refine (J.hok b o e).stay (λ c w hc q=>(sb.2 c λ z=>?_).trans q) (λ _ q=>q) λ _ _ q=>q;have fr:H' C=none:=J.free;subst z;rcases hc with rfl | hc
  ·rw [fr] at e;cases e
  ·rw [fr] at hc;cases hc
 exact I.call' J.os u hok J.bare λ b hb=>⟨(f2 b hb).2.2.2.1,(f2 b hb).2.1,(f2 b hb).2.2.2.2.1,(f2 b hb).2.2.2.2.2⟩
end
def z7o (σ σ':St):Prop:=σ'.length=σ.length/\∀ (i:Nat) v,σ[i]?=some (some v)->σ'[i]?=some (some v)
section
variable {prog:XZ}{w:World}{A:Around}{R:Result->Shared->Prop}{s:170}
theorem WP (I:Nat->Shared->Prop)
  (turn:∀ n s,I n s->wpAny 137 A (pyNext it) (λ r s₁=>match r with
   | none=>R (.ok .next) s₁
   | some v=>wpAny 137 A (letOwnedTupleGo target it v) (λ _ s₁'=>wpAny 137 A (assign target env v) (λ _ s₂ =>
     wpAny 137 A (forIn ifs true λ c r=>if r=true then do let ok <- isTrue c env (eval c env);pure (ForInStep.yield ok) else pure (ForInStep.yield r)) (λ ok s₃ =>
      if ok=true then wpAny 137 A (eval elt env) (λ x s₄ =>
       wpAny 137 A (call (.builtin "list.append") [acc,x]) (λ _ s₅=>∃ m,m<n/\I m s₅) 212 s₄) 212 s₃
      else ∃ m,m<n/\I m s₃) 212 s₂) 212 s₁') 212 s₁) 212 s)
  (n:Nat) (h:I n s):codeAny 137 A (.compLoop (.ListComp elt [⟨target,iter,ifs,0⟩] scope pos) 0 it acc env) R s:=by
 refine codeAny_loop rfl I (λ n s hI=>?_) n h;show wpAny _ A ((compTurn (.ListComp elt [⟨target,iter,ifs,0⟩] scope pos) 0 it acc env).onRaise (λ x=>do noteFrame x env;theTreesLotGoes x)) _ _ s;refine wpAny_noted ?_;rw [compTurn_list];refine wpAny_bind (wpAny_standAt (wpAny_bind (wpAny_mono (turn n s hI) (λ r s₁ h₁=>?_) λ _ _ h'=>h')));cases r with
 | none=>exact wpAny_pure h₁
 | some v =>
  refine wpAny_bind (wpAny_mono h₁ (λ _ s₁' h₁'=>?_) λ _ _ h'=>h');refine wpAny_bind (wpAny_mono h₁' (λ _ s₂ h₂=>wpAny_bind (wpAny_mono h₂ (λ ok s₃ h₃=>?_) λ _ _ h'=>h')) λ _ _ h'=>h');cases ok with
  | false=>exact wpAny_pure ⟨rfl,h₃⟩
  | true =>
   exact wpAny_bind (wpAny_bind (wpAny_mono h₃ (λ x s₄ h₄=>wpAny_bind (wpAny_mono h₄ (λ _ s₅ h₅=>wpAny_pure (wpAny_pure ⟨rfl,h₅⟩)) λ _ _ h'=>h')) λ _ _ h'=>h'))
end
section
variable {X:Cx}{σ:St}{H:Hp}{s:170}
theorem Inv.repin (I:Inv X [(D,o)] σ H s)(hpn:∀ p∈X.pn,p.1≠D)(h0:X.s₀.heap.objs.size<=D)(ho':∀ v,o'.data≠.cell v)(sb:Heap.SameBut D s.heap h')(e':h'.get? D=some o') :
  Inv X [(D,o')] σ H { s with heap:=h' }:=by
 obtain ⟨e,n,ne,nf,d⟩:=I.pin (D,o) (Y0q _ 133);have I0:Inv X [] σ H s:=I.pins_of λ p hp=>absurd hp 133;have I1:Inv X [] σ H { s with heap:=h' }:=I0.turned (λ b u hb q=>(sb.2 b hb).trans q) n ne (.inr h0) (λ x c ec z=>by
  obtain ⟨v,oc,h1,h2⟩:=I.cell x c ec;subst z;rw [e] at h1;cases h1;exact d v h2) λ p hp=>hpn p (by simpa using hp)
 refine I1.pins_of λ p hp=>?_;have q:p=(D,o'):=by simpa using hp
 subst q;exact ⟨e',n,ne,nf,ho'⟩
end
section
variable {X:Cx}{pins:132}{σ:St}{H₂:Hp}{s₂:170}{scope:Scope}{NC:XY}{cap:232}{fp:XV}{elt tg iter:Expr}{ifs:List Expr}{pos:Pos}{Z:ZK}{J:It}{it:Addr}{tn:Nat->Heap->Prop}
 {g:TG}{tf:TT}{te:TE}{use:Option (Value->Sem Unit)}{Qv:XQ}
theorem W6 (hc:X.calm=true)(th:Thr X Z)(I:Inv X pins σ H₂ s₂)(T:Turn X.prog X.w X.K tg J fp it tn)(st2:tn 0 s₂.heap)(f2:∀ b∈fp,yM X pins H₂ b)(cok:201)
  (hg:∀ C pn xe,PG (zv X NC scope C s₂ H₂ fp pn xe) tg g)
  (hf:∀ C pn xe,Thr (zv X NC scope C s₂ H₂ fp pn xe) (λ _ C' H'=>Z σ C' H')->PF (zv X NC scope C s₂ H₂ fp pn xe) ifs tf)
  (hb:∀ C pn xe,Thr (zv X NC scope C s₂ H₂ fp pn xe) (λ _ C' H'=>Z σ C' H')->PE (zv X NC scope C s₂ H₂ fp pn xe) elt te)
  (W:Nat->Nat->List V->Hp->Prop) (m0:Nat) (w0:W 0 m0 [] H₂) {Fn:List V->Hp->Prop}
  (turn:∀ i m ys H2,W i m ys H2->(J.stop i H2/\Fn ys H2)\/(J.go i H2/\ys.length<sizeLine/\∀ x H3,J.yld i H2 x H3->g x (qt cap σ) H3 λ σ4 H4=>z7o (qt cap σ) σ4/\tf σ4 H4 λ b H5 =>
   if b=true then te σ4 H5 λ y H6=>∃ m',m'<m/\W (i+1) m' (ys++[y]) H6 else ∃ m',m'<m/\W (i+1) m' ys H5))
  (fin:∀ (C D:Addr) (s':170) (H':Hp) (ys:211) (us:XU) (n:Nat),Fn ys H'->Vals ys us->s'.heap.get? D=some { cls:=.type "list",data:=.seq us.toArray n }->H' D=none->H' C=none->D=s₂.heap.objs.size->C=s₂.heap.objs.size+1 ->
   (∃ m,s'.heap.Ns C m)->(∀ h',Heap.SameBut C s'.heap h'->Inv X pins σ H' { s' with heap:=h' })->compPost 130 X.A X.xe use Qv (.ref D) C (.ok .next) s') :
  wpAny 130 X.A (newList []) (λ acc s₃=>wpAny 130 X.A (newFunctionEnv scope X.env.globals (QU scope X.env) [] X.env.qual none .none (some X.env)) (λ cenv s₄ =>
   codeAny 130 X.A (.compStart 205 0 (.ref it) acc { cenv with scope:=relabel scope X.env }) (compPost 130 X.A X.xe use Qv acc cenv.locals) s₄) X.xe s₃) X.xe s₂:=by
 obtain ⟨c1,c2,c3,c4,c5,c6,c7⟩:=j9 cok;refine wpAny_newObj_type (ZR ?_);dsimp only;generalize hH2:s₂.heap.push { cls:=.type "list",dict:=none,data:=.seq ([]:List Value).toArray }=H2;generalize hh1:pushCells (H2.push { cls:=.type "dict",data:=.dict #[] }) scope.names=h₁;have hns₁:=hh1▸(Heap.Ns.new H2 (.type "dict")).keeps (pushCells_keeps _ _);have own₁:CellsOk h₁ (H2.objs.size+1) (cellsFrom (H2.objs.size+1) scope.names []):=by
  have ok:=cellsFrom_ok scope.names (H2.push { cls:=.type "dict",data:=.dict #[] }) (H2.objs.size+1) [] ⟨λ _ _ hm=>(nomatch hm),List.Pairwise.nil⟩ (by rw [Y1u];exact Y04 _);rw [Y1u,hh1] at ok;exact ok
 have hC:H2.objs.size=s₂.heap.objs.size+1:=by rw [<- hH2,Y1u]
 have hDC:s₂.heap.objs.size≠H2.objs.size:=by rw [hC];exact Y0m (Y2e _)
 have below:∀ b,b<s₂.heap.objs.size->b≠H2.objs.size:=λ b hb=>by rw [hC];exact Y0m (Y2z hb)
 have old:∀ b o,s₂.heap.get? b=some o->h₁.get? b=some o:=λ b o e=>hh1▸pushCells_keeps _ _ _ _ (Y02 _ (hH2▸Y02 _ e));have hacc:=hh1▸pushCells_keeps _ _ _ _ (Y02 _ (hH2▸Y0h _ rfl));have hfp:∀ b∈fp,∃ o,s₂.heap.get? b=some o:=λ b hb=>let ⟨o,e,_⟩:=T.obj _ _ st2 b hb;⟨o,e⟩;have nodata:∀ (us:XU) (n:Nat) v,({ cls:=.type "list",data:=.seq us.toArray n }:Obj).data≠.cell v:=λ us n v z=>by cases z
 have fpD:∀ b∈fp,b≠s₂.heap.objs.size:=λ b hb z=>by
  obtain ⟨o,e⟩:=hfp b hb;exact absurd (Y0i e) (by rw [z];exact Y1f _)
 generalize hEn:(notedBy 130 X.A (compEnvC scope (jn scope H2.objs.size X.env) H2.objs.size X.env) λ e s'=>compPost 130 X.A X.xe use Qv (.ref s₂.heap.objs.size) H2.objs.size (.error e) s')=En;have loop:∀ s₃:Shared,s₃={ s₂ with heap:=h₁,toks:=s₂.toks } ->
   codeAny 130 X.A (.compLoop 205 0 (.ref it) (.ref s₂.heap.objs.size) (compEnvC scope (jn scope H2.objs.size X.env) H2.objs.size X.env))
    (compPost 130 X.A X.xe use Qv (.ref s₂.heap.objs.size) H2.objs.size) s₃:=by
  rintro s₃ rfl
  refine WP (λ k s'=>∃ i ys us n H',Vals ys us/\W i k ys H'/\tn i s'.heap/\(∀ b∈fp,H' b=none) /\
   Inv 239 [(s₂.heap.objs.size,{ cls:=.type "list",data:=.seq us.toArray n })] (qt cap σ) H' s') ?_ m0
   ⟨0,[],[],0,H₂,.nil,w0,T.keep _ _ _ st2 λ b _ o e=>old b o e,λ b hb=>(f2 b hb).1,Ug I hc cok f2 hfp rfl hC old hacc (nodata _ _) hns₁ own₁⟩
  rw [hEn]
  rintro k s' ⟨i,ys,us,n,H',rv,w,st,fr,Ic⟩
  have Fp:∀ {H':Hp}{us:XU}{n:Nat},(∀ b∈fp,H' b=none)->∀ b∈fp,yM 239 [(s₂.heap.objs.size,({ cls:=.type "list",data:=.seq us.toArray n }:Obj))] H' b:=λ {H' us n} hn b hb=>by
   have q:=Ic.ok.exf b hb;refine ⟨hn b hb,q.1,λ z=>Ic.ok.exfs b hb z,.inl hb,q.2,λ p hp=>?_⟩;have e:p=(s₂.heap.objs.size,({ cls:=.type "list",data:=.seq us.toArray n }:Obj)):=by simpa using hp
   subst e;exact (fpD b hb).symm
  rcases turn i k ys H' w with ⟨stop,q⟩ | ⟨go,vQ,step⟩
  ·refine wpAny_mono (T.done 239 rfl rfl rfl rfl i _ s' _ H' En Ic (Fp fr) st stop) (λ r s4 h4=>?_) λ _ _ x=>x;obtain ⟨hr,I4⟩:=h4;subst hr;obtain ⟨m,ns,_⟩:=id I4.loc;obtain ⟨p1,p2,_⟩:=I4.pin _ (Y0q _ (Y07.mpr rfl));exact fin _ _ s4 H' ys us n q rv p1 p2 I4.free rfl hC ⟨m,ns⟩ λ h' sb=>Uh I f2 hC I4 sb
  ·refine wpAny_mono (T.item 239 rfl rfl rfl rfl i _ s' _ H' En Ic (Fp fr) st go) (λ r s4 h4=>?_) λ _ _ x=>x;obtain ⟨u,hr,h4⟩:=h4;subst hr;refine wpAny_mono h4 (λ _ s5 h5=>?_) λ _ _ x=>x;obtain ⟨x,H5,I5,r5,y5,st5,fr5⟩:=h5;have I5':Inv (zv X NC scope H2.objs.size s₂ H₂ fp (yd fp s5.heap) En) [(s₂.heap.objs.size,{ cls:=.type "list",data:=.seq us.toArray n })] (qt cap σ) H5 s5 :=
    (I5.pinned (Fp fr5) (T.obj _ _ st5)).repn λ p hp=>by
     rcases Y0r.mp hp with z | z
     ·exact Y0q _ (Y0q _ z)
     ·exact Y0q _ (Y0v _ z)
   have thx:Thr (zv X NC scope H2.objs.size s₂ H₂ fp (yd fp s5.heap) En) (λ _ C' H'=>Z σ C' H'):=trivial;refine wpAny_mono (hg _ _ En _ s5 _ H5 x u _ I5' r5 (step x H5 y5)) (λ _ s6 h6=>?_) λ _ _ x=>x;obtain ⟨σ6,H6,I6,wk,q6⟩:=h6;refine wpAny_mono (hf _ _ En thx _ s6 σ6 H6 _ I6 q6) (λ b s7 h7=>?_) λ _ _ x=>x;obtain ⟨H7,I7,q7⟩:=h7;have back:∀ {s8:170}{H8:Hp}{ys':211}{us':XU}{n' m':Nat},Inv (zv X NC scope H2.objs.size s₂ H₂ fp (yd fp s5.heap) En) [(s₂.heap.objs.size,{ cls:=.type "list",data:=.seq us'.toArray n' })] σ6 H8 s8->Vals ys' us'->m'<k->W (i+1) m' ys' H8 ->
     ∃ m,m<k/\∃ i ys us n H',Vals ys us/\W i m ys H'/\tn i s8.heap/\(∀ b∈fp,H' b=none)/\Inv 239 [(s₂.heap.objs.size,{ cls:=.type "list",data:=.seq us.toArray n })] (qt cap σ) H' s8:=by
    intro s8 H8 ys' us' n' m' I8 rv8 hm w8;refine ⟨m',hm,i+1,ys',us',n',H8,rv8,w8,T.keep _ _ _ st5 λ b hb o e=>(I8.pin (b,o) (Y0v _ (wJ hb e))).1,λ b hb=>?_,?_⟩
    ·obtain ⟨o,e,d⟩:=T.obj _ _ st5 b hb;exact (I8.pin (b,o) (Y0v _ (wJ hb e))).2.1
    ·have I9:=I8.weak (σ':=qt cap σ) wk.1.symm wk.2;exact I9.repn λ p hp=>Y0q _ (by simpa using hp)
   cases b with
   | false =>
    obtain ⟨m',hm,w8⟩:=q7;exact back I7 rv hm w8
   | true =>
    refine wpAny_mono (hb _ _ En thx _ s7 σ6 H7 _ I7 q7) (λ y s8 h8=>?_) λ _ _ x=>x;obtain ⟨v,H8,I8,rv8,m',hm,w8⟩:=h8;obtain ⟨p1,p2,_⟩:=I8.pin _ (Y0q _ (Y07.mpr rfl));have hlu:=rv.length.symm;refine append_at p1 λ h9 sb9 e9=>?_;rw [List.push_toArray] at e9;have I9:=I8.repin (λ p hp=>by
     have q:=(JW hp).1;exact fpD _ q) 176 (nodata _ _) sb9 e9
    exact back I9 (rv.append (.cons rv8 .nil)) hm w8
 exact codeAny_compStart_list (loop _ rfl) (T.self _ 0 _ _ _ (T.keep _ _ _ st2 λ b _ o e=>old b o e) (loop _ rfl))
end
def z7p (J:It)(H1:Hp)(cap:232)(σ:St)(g:TG)(tf:TT)(te:TE)(Q:VK):Prop:=∃ W:Nat->Nat->List V->Hp->Prop,(∃ m,W 0 m [] H1)/\∀ i m ys H2,W i m ys H2 ->
 (J.stop i H2/\ys.length<=sizeLine/\∀ p,H2 p=none->Q (.ref p) (upd H2 p (.lst ys))) \/
 (J.go i H2/\ys.length<sizeLine/\∀ x H3,J.yld i H2 x H3->g x (qt cap σ) H3 λ σ4 H4=>z7o (qt cap σ) σ4/\tf σ4 H4 λ b H5 =>
  if b=true then te σ4 H5 λ y H6=>∃ m',m'<m/\W (i+1) m' (ys++[y]) H6 else ∃ m',m'<m/\W (i+1) m' ys H5)
def B7 (Z:ZK)(cap:232)(wi:TI)(g:TG)(tf:ZK->TT)(te:ZK->TE):TE:=λ σ H Q=>wi σ H λ J H1=>z7p J H1 cap σ g (tf (λ _ C H'=>Z σ C H')) (te (λ _ C H'=>Z σ C H')) Q
section
variable {X:Cx}{scope:Scope}{NC:XY}{cap:232}{elt tg iter:Expr}{ifs:List Expr}{pos:Pos}{Z:ZK}{wi:TI}{g:TG}{tf:ZK->TT}{te:ZK->TE}
theorem z1o (hc:X.calm=true)(th:Thr X Z)(hi:PI X tg iter wi)(cok:201)
  (hg:∀ C s H fp pn xe,PG 156 tg g)
  (hf:∀ C s H fp pn xe Zc,Thr 156 Zc->PF 156 ifs (tf Zc))
  (hb:∀ C s H fp pn xe Zc,Thr 156 Zc->PE 156 elt (te Zc))
  (hs:∀ x,foldedSetIterable iter X.env x=pure x:=by intro _;rfl):PE X 205 (B7 Z cap wi g tf te):=by
 intro pins s σ H Q I h;obtain ⟨c1,c2,c3,c4,c5,c6,c7⟩:=j9 cok;rw [eval_ListComp];refine wpAny_comprehension_free rfl hs (ZP λ y hy e=>I.ok.has y.1 (.inl (c4 y hy e))) c1 c3 (thn (hi pins s σ H _ I h) λ xv s₁ h₁=>thn h₁ λ itv s₂ h₂=>?_);obtain ⟨it,fp,tn,J,H2,rfl,I2,T,st2,f2,W,⟨m0,w0⟩,turn⟩:=h₂;refine W6 hc th I2 T st2 f2 cok (λ C pn xe=>hg C s₂ H2 fp pn xe) (λ C pn xe t=>hf C s₂ H2 fp pn xe _ t) (λ C pn xe t=>hb C s₂ H2 fp pn xe _ t) W m0 w0 turn ?_
 rintro C D s' H' ys us n ⟨vQ,q⟩ rv e hn _ rfl rfl ⟨m,ns⟩ lv
 refine ⟨m,ns,λ h' sb=>?_⟩;have I':=lv h' sb;have eD:=(sb.2 _ (Y0m (Y2e _))).trans e;refine ⟨.ref s₂.heap.objs.size,_,I'.track (o:=.lst ys) hn (Y2c I2.sz) (Y1y I2.lt) (λ x c ec z=>?_) (λ p hp z=>?_) ⟨vQ,us,n,rv,eD⟩,rfl,q _ hn⟩
 ·obtain ⟨v,q⟩:=I2.cell x c ec;exact absurd q.lt (by rw [z];exact Y1f _)
 ·exact absurd (Y0i (I2.pin p hp).1) (by rw [z];exact Y1f _)
end
def z3q (K:Y00)(c D:Addr):Prop:=(∃ bmB newId,PySem.W.excIn K c bmB newId=true)/\∃ oc dd cd sl,K.lookup c=some ⟨oc,dd,.cls cd,sl⟩/\cd.mro.contains (.ref D)=true
def Its (x:Str):It:=⟨λ i _=>i<x.length,λ i H v H'=>H'=H/\∃ c,x.cps.toList[i]?=some c/\v=.str ⟨#[c]⟩,λ i _=>x.length<=i⟩
theorem Ui {K:Y00}(it:Addr)(x:Str)(t:Tok):Turn P w K tg (Its x) [it] it (λ i h=>h.IsStrIter it "str_ascii_iterator" x t i) where
 mem:=by simp
 obj:=λ i h st b hb=>by
  have e:b=it:=by simpa using hb
  subst e;obtain ⟨o,e,c,d⟩:=st;exact ⟨o,e,λ v z=>by rw [d] at z;cases z⟩
 keep:=λ i h h' st k=>let ⟨o,e,r⟩:=st;⟨o,k it 133 o e,r⟩
 item:=by
  intro X hP hw hK hc i pins s σ H E I hf st hg;subst hP hw hK;obtain ⟨f0,f1,f2,f3,f4,f5⟩:=hf it 133;have hg':i<x.cps.size:=hg;refine wpAny_pyNext_ascii_item st (c:=x.cps[i]) (by simp [hg']) λ h' st' sb=>?_;have I1:Inv X pins σ H { s with heap:=h',toks:=s.toks+1 }:=I.turned (λ b o hb e=>(sb.2 b hb).trans e) f0 f1 f3 f4 f5;obtain ⟨o,e,c,d⟩:=id st';exact ⟨_,rfl,ZJ e c d 123 ⟨.str ⟨#[x.cps[i]]⟩,H,I1,150,⟨rfl,x.cps[i],by simp [hg'],rfl⟩,st',λ b hb=>(hf b hb).1⟩⟩
 done:=by
  intro X hP hw hK hc i pins s σ H E I hf st hg;subst hP hw hK;obtain ⟨f0,f1,f2,f3,f4,f5⟩:=hf it 133;have hg':x.cps.size<=i:=hg;exact wpAny_pyNext_ascii_end (I.ok.hd hc) st (by simp [hg']) λ h' eb=>162
 self:=λ _ _ _ _ _ st h=>wpAny_pyIter_striter_ascii st h
theorem Gz {K:Y00}(it:Addr)(x:Str)(t:Tok):Turn P w K tg (Its x) [it] it (λ i h=>h.IsStrIter it "str_iterator" x t i) where
 mem:=by simp
 obj:=λ i h st b hb=>by
  have e:b=it:=by simpa using hb
  subst e;obtain ⟨o,e,c,d⟩:=st;exact ⟨o,e,λ v z=>by rw [d] at z;cases z⟩
 keep:=λ i h h' st k=>let ⟨o,e,r⟩:=st;⟨o,k it 133 o e,r⟩
 item:=by
  intro X hP hw hK hc i pins s σ H E I hf st hg;subst hP hw hK;obtain ⟨f0,f1,f2,f3,f4,f5⟩:=hf it 133;have hg':i<x.cps.size:=hg;refine wpAny_pyNext_wide_item st (c:=x.cps[i]) (by simp [hg']) λ h' st' sb=>?_;have I1:Inv X pins σ H { s with heap:=h',toks:=s.toks+1 }:=I.turned (λ b o hb e=>(sb.2 b hb).trans e) f0 f1 f3 f4 f5;obtain ⟨o,e,c,d⟩:=id st';exact ⟨_,rfl,ZJ e c d 123 ⟨.str ⟨#[x.cps[i]]⟩,H,I1,150,⟨rfl,x.cps[i],by simp [hg'],rfl⟩,st',λ b hb=>(hf b hb).1⟩⟩
 done:=by
  intro X hP hw hK hc i pins s σ H E I hf st hg;subst hP hw hK;obtain ⟨f0,f1,f2,f3,f4,f5⟩:=hf it 133;have hg':x.cps.size<=i:=hg;exact wpAny_pyNext_wide_end (I.ok.hd hc) st (by simp [hg']) λ h' eb=>162
 self:=λ _ _ _ _ _ st h=>wpAny_pyIter_striter_wide st h
section
variable {X:Cx}{tg:Expr}
theorem QW:∀ {bs:List Bool}{us:XU},Vals (bs.map V.bl) us->PyProof.Rows.LSm.BoolsAre us bs
 | [],_,r=>by cases r;exact .nil
 | b::bs,_,r=>by
  cases r with
  | cons r1 r2=>cases (show _=Value.bool b from r1);exact .cons b (QW r2)
theorem GA:jd X (.type "int") (λ xs H Q=>∃ x n,xs=[.str x]/\PySem.intText? x=some n/\x.length<=640/\Q (.int n) H):=by
 intro pins s σ H xs us Q I r h;obtain ⟨x,n,rfl,hn,hl,q⟩:=h;obtain ⟨u,rfl,t,rfl⟩:=Z6 r;exact PySem.W.KIN.call_text hn hl ⟨.int n,H,I.tok _,150,q⟩
end
def zao (X:Cx)(st:List Stmt)(t:TS):Prop :=
 ∀ (pins:132) (s:170) (σ:St) (H:Hp) (D:Ends),Inv X pins σ H s->0<s.toks->t D σ H->wpAny 130 X.A (execs st X.env) (SP X pins D) X.xe s
structure Walk (J:It)(xs:211)(Pv:Hp->Prop):Prop where
 stop:∀ H,Pv H->J.stop xs.length H
 go:∀ i H,i<xs.length->Pv H->J.go i H
 yld:∀ i H x H',i<xs.length->Pv H->J.yld i H x H'->H'=H/\xs[i]?=some x
section
variable {P:XZ}{w:World}{K:Y00}{mg:XW}{base:Heap}
theorem Fun.okX {st:Stmt}(F:Fun K x qual st f fd)(S:FnScope N ps (zu st))(len:∀ vs H Q E,sp vs H Q E->vs.length=ps.length)
  (hbody:∀ (vw:Value) (A:Around) (outer:List Env) (s:170) (H:Hp) (vs:211) (Q:VK) (E:XK),Room k (A.deeper (envOfC qual (zu st) s.heap.objs.size f vw))->sp vs H Q E ->
   ∃ t,PSs (Ub (CXs P w) P w K mg base N qual (zu st) f vw A outer s H E) (zV st) t/\t { nx:=λ _ H'=>Q .non H',rt:=Q } (start N vs) H):FnOk P w K mg base (CXs P w) (k+1) f fd ps sp:=by
 obtain ⟨oc,od,kV,doc,pm,an,vw,ct,osl,rfl,lk,hcd⟩:=F.ex;exact z7k lk hcd S len λ A outer s H vs Q E hr hsp=>hbody vw A outer s H vs Q E hr hsp
end
abbrev TJ:=St->Hp->Str->(Str->Hp->Prop)->Prop
section
variable {X:Cx}{e v₁ v₂:Expr}{es:List Expr}{te:TE}{t:TJ}{c:Str}{k:Nat}{pos p:Pos}
def z1p (K:Y00)(neg:Bool):R2:=λ x y H Q=>∃ p q xs,x=.ref p/\y=.ref q/\SqL K H p xs/\SqL K H q []/\Q (.bl (if neg then !xs.isEmpty else xs.isEmpty)) H
theorem B8 (hu:X.A.units<cLine):OpR X (compareOp .Eq) (z1p X.K false):=by
 intro pins s σ H x y v u Q I rx ry h;obtain ⟨p,q,xs,rfl,rfl,h1,h2,hq⟩:=h;cases rx;cases ry;obtain ⟨its,r,pl,hz⟩:=I.list h1;obtain ⟨its2,r2,pl2,_⟩:=I.list h2;cases r2;cases xs with
 | nil =>
  cases r;exact SeqAt.eq_listAt (e:=λ _=>true) pl.isList pl2.isList rfl hu (λ j h1 _=>absurd h1 133) ⟨.bl true,H,I,rfl,hq⟩
 | cons a t =>
  cases r with
  | cons r1 r2=>exact SeqAt.eq_list_lengthsAt pl.isList pl2.isList 133 hu ⟨.bl false,H,I,rfl,hq⟩
theorem B9 (hu:X.A.units<cLine):OpR X (compareOp .NotEq) (z1p X.K true):=by
 intro pins s σ H x y v u Q I rx ry h;obtain ⟨p,q,xs,rfl,rfl,h1,h2,hq⟩:=h;cases rx;cases ry;obtain ⟨its,r,pl,hz⟩:=I.list h1;obtain ⟨its2,r2,pl2,_⟩:=I.list h2;cases r2;cases xs with
 | nil =>
  cases r;exact SeqAt.RcNeAt.lists (e:=λ _=>true) pl.isList pl2.isList rfl hu (λ j h1 _=>absurd h1 133) _ _ _ _ ⟨.bl false,H,I,rfl,hq⟩
 | cons a t =>
  cases r with
  | cons r1 r2=>exact SeqAt.RcNeAt.lists_lengths pl.isList pl2.isList 133 hu _ _ _ _ ⟨.bl true,H,I,rfl,hq⟩
end
def SIt (h:Heap)(i a:Addr)(k:Nat)(xs:XJ):Prop:=(h.IsListIter i a k/\h.IsList a xs)\/(h.IsTupleIter i a k/\h.IsTuple a xs)
theorem SIt.move (x:SIt h i a k xs)(hi:∀ o,h.get? i=some o->h'.get? i=some o)(ha:∀ o,h.get? a=some o->h'.get? a=some o):SIt h' i a k xs:=by
 rcases x with ⟨x,y⟩ | ⟨x,y⟩
 ·exact .inl ⟨x.at hi,y.at ha⟩
 ·exact .inr ⟨x.at hi,y.at ha⟩
section
variable {prog:XZ}{w:World}{A:Around}{E:XQ}{s:170}
theorem yp (hit:s.heap.IsTupleIter it t i)(ht:s.heap.IsTuple t items)(hx:items[i]?=some x)
  (hQ:∀ h',h'.IsTupleIter it t (i+1)->Heap.SameBut it s.heap h'->Q x { s with heap:=h' }):wpAny 137 A (Builtin.SmallTypes.nextOf (.ref it)) Q E s:=by
 obtain ⟨o,ho,hc,hd⟩:=id hit;obtain ⟨ol,hol,_,nl,hdl⟩:=ht;unfold Builtin.SmallTypes.nextOf;refine wpAny_bind (wpAny_callSpecial?_slot hit.typeIs Y21
  (wpAny_call_entry Y21 hit.typeIs Y3i ?_ (Y3g _)))
 show wpAny _ _ (field (.ref it) 0 >>= _) _ _ s;refine wpAny_bind (wpAny_field ho hd rfl ?_);show wpAny _ _ (if (Value.ref t==Value.none)=true then _ else _) _ _ s;rw [if_neg (show ¬ ((Value.ref t==Value.none)=true) from Y0y)];show wpAny _ _ (field (.ref it) 1 >>= _) _ _ s;refine wpAny_bind (wpAny_field ho hd rfl ?_);show wpAny _ _ (seqItems? (.ref t) >>= _) _ _ s;refine wpAny_bind (wpAny_seqItems hol hdl ?_);simp only [Y2b,hx];refine wpAny_bind (wpAny_setField ho hd 133 (wpAny_pure ⟨x,rfl,wpAny_pure (hQ _ ?_ (Heap.SameBut.update ..))⟩));exact ⟨_,Y2p _ ho (Obj.isFreed_of_fields (Obj.data_mapFields hd _)),(Obj.cls_mapFields ..).trans hc,by
  rw [Obj.data_mapFields hd];simp [rawInt]⟩
theorem yT (hh:A.handled=none)(hit:s.heap.IsTupleIter it t i)(ht:s.heap.IsTuple t items)(hx:items[i]?=none)
  (hE:∀ h' e,Heap.ExtBut it s.heap h'->(∃ o,h'.get? e=some o/\o.cls=.type "StopIteration")->E (.ref e) { s with heap:=h' }):wpAny 137 A (Builtin.SmallTypes.nextOf (.ref it)) Q E s:=by
 obtain ⟨o,ho,hc,hd⟩:=id hit;obtain ⟨ol,hol,_,nl,hdl⟩:=ht;unfold Builtin.SmallTypes.nextOf;refine wpAny_bind (wpAny_callSpecial?_slot hit.typeIs Y21
  (wpAny_call_entry Y21 hit.typeIs Y3i ?_ (Y3g _)))
 show wpAny _ _ (field (.ref it) 0 >>= _) _ _ s;refine wpAny_bind (wpAny_field ho hd rfl ?_);show wpAny _ _ (if (Value.ref t==Value.none)=true then _ else _) _ _ s;rw [if_neg (show ¬ ((Value.ref t==Value.none)=true) from Y0y)];show wpAny _ _ (field (.ref it) 1 >>= _) _ _ s;refine wpAny_bind (wpAny_field ho hd rfl ?_);show wpAny _ _ (seqItems? (.ref t) >>= _) _ _ s;refine wpAny_bind (wpAny_seqItems hol hdl ?_);simp only [Y2b,hx];refine wpAny_bind (wpAny_rule (wpAny_bind (wpAny_setField ho hd 133 ?_)));show wpAny _ _ (newExc (.type "StopIteration") [] >>= _) _ _ _;refine wpAny_bind ?_;simp only [newExc,newTuple];refine wpAny_bind (wpAny_newObj_type ?_ (by size_fits));refine wpAny_bind (wpAny_of_eq (by first | rfl | (simp only [firstArgMember];rfl)) ?_);refine wpAny_newObj_type ?_ (by size_fits);simp only [raiseNew];refine wpAny_bind (wpAny_handled ?_)
 first | rw [show A.in1.handled=none from hh] | rw [hh]
 refine wpAny_bind (wpAny_pure (wpAny_throw ?_));exact hE _ _ (((Heap.SameBut.update ..).extBut.push _).push _) ⟨_,Y0h _ rfl,rfl⟩
theorem jk (hne:a≠i)(h:SIt s.heap i a k xs)(hx:xs[k]?=some x)
  (hQ:∀ h',SIt h' i a (k+1) xs->Heap.SameBut i s.heap h'->Q x { s with heap:=h' }):wpAny 137 A (Builtin.SmallTypes.nextOf (.ref i)) Q E s:=by
 rcases h with ⟨h1,h2⟩ | ⟨h1,h2⟩
 ·exact wpAny_nextOf_list_item h1 h2 hx λ h' h3 sb=>hQ h' (.inl ⟨h3,h2.extBut sb.extBut hne⟩) sb
 ·exact yp h1 h2 hx λ h' h3 sb=>hQ h' (.inr ⟨h3,h2.extBut sb.extBut hne⟩) sb
theorem wN (hh:A.handled=none)(h:SIt s.heap i a k xs)(hx:xs[k]?=none)
  (hE:∀ h' e,Heap.ExtBut i s.heap h'->(∃ o,h'.get? e=some o/\o.cls=.type "StopIteration")->E (.ref e) { s with heap:=h' }):wpAny 137 A (Builtin.SmallTypes.nextOf (.ref i)) Q E s:=by
 rcases h with ⟨h1,h2⟩ | ⟨h1,h2⟩
 ·exact wpAny_nextOf_list_end hh h1 h2 hx hE
 ·exact yT hh h1 h2 hx hE
theorem SIt.ext (x:SIt h i a k xs)(hs:Heap.ExtBut b h h')(h1:i≠b)(h2:a≠b):SIt h' i a k xs:=x.move (λ o e=>hs i o h1 e) (λ o e=>hs a o h2 e)
end
def ItR (h:Heap)(i a:Addr)(k:Nat)(b:Bool):Prop:=if b=true then h.IsListIter i a k else h.IsTupleIter i a k
def SqB (K:Y00)(H:Hp)(a:Addr)(b:Bool)(xs:211):Prop:=if b=true then SqL K H a xs else SqT K H a xs
theorem ItR.at (x:ItR h i a k b)(hi:∀ o,h.get? i=some o->h'.get? i=some o):ItR h' i a k b:=by
 cases b with
 | true=>exact Heap.IsListIter.at (show h.IsListIter i a k from x) hi
 | false=>exact Heap.IsTupleIter.at (show h.IsTupleIter i a k from x) hi
theorem ItR.rec (x:ItR h i a k b):∃ o vs,h.get? i=some o/\o.data=.fields vs:=by
 cases b with
 | true=>obtain ⟨o,e,_,d⟩:=(show h.IsListIter i a k from x);exact ⟨o,_,e,d⟩
 | false=>obtain ⟨o,e,_,d⟩:=(show h.IsTupleIter i a k from x);exact ⟨o,_,e,d⟩
section
variable {X:Cx}{pins:132}{σ:St}{H:Hp}{s:170}
theorem Inv.seqB (I:127)(h:SqB X.K H a b xs):∃ its:List Value,Vals xs its/\(∀ (i:Addr) (k:Nat) (h':Heap),ItR h' i a k b->(∀ o,s.heap.get? a=some o->h'.get? a=some o)->SIt h' i a k its.toArray)/\∃ o n,s.heap.get? a=some o/\o.data=.seq its.toArray n:=by
 cases b with
 | true =>
  obtain ⟨its,r,pl,_⟩:=I.list (show SqL X.K H a xs from h);have hl:=pl.isList;obtain ⟨o,e,c,n,d⟩:=id hl;exact ⟨its,r,λ i k h' x ka=>.inl ⟨x,hl.at ka⟩,o,n,e,d⟩
 | false =>
  obtain ⟨its,r,pl,_⟩:=I.tuple (show SqT X.K H a xs from h);have hl:s.heap.IsTuple a its.toArray:=pl;obtain ⟨o,e,c,n,d⟩:=id hl;exact ⟨its,r,λ i k h' x ka=>.inr ⟨x,hl.at ka⟩,o,n,e,d⟩
theorem Inv.seqB_inj (I:127)(h:SqB X.K H a b xs)(h':SqB X.K H a b ys):xs=ys:=by
 cases b with
 | true=>exact I.list_inj (show SqL X.K H a xs from h) h'
 | false=>exact I.tuple_inj (show SqT X.K H a xs from h) h'
end
section
variable {X:Cx}{pins:132}{σ:St}{H:Hp}{s:170}{h':Heap}
theorem Inv.turnedL {t':Nat}{l:XV}(I:127)(k:∀ b o,b∉l->s.heap.get? b=some o->h'.get? b=some o)(hf:∀ b∈l,yM X pins H b):Inv X pins σ H { s with heap:=h',toks:=t' }:=by
 have nit:∀ b u,H b=some u->b∉l:=λ b u e z=>by rw [(hf b z).1] at e;cases e
 have hL:X.env.locals∉l:=λ z=>(hf _ z).2.1 rfl;refine I.step (g':=s.gens) (d':=s.drawn) (ch:=l) (λ b hb=>?_) (λ b o _ _ hc e _=>k b o hc e) (λ b o _ _ hc e _=>⟨o.slots,k b o hc e⟩) (λ _ _ _ _ n=>n)
  (λ b o hc e=>⟨o,k b o hc e⟩) (λ _ _ e=>e) (λ _ _ _ e=>e) (λ b ps e=>⟨#[],by rw [e];simp⟩) (λ m hm=>?_) (λ b u e=>?_) I.bare
 ·obtain ⟨_,f1,_,f3,f4,f5⟩:=hf b hb;exact ⟨f3,f1,f4,f5⟩
 ·obtain ⟨o,es,ep,ho,r⟩:=hm;exact ⟨o,es,ep,k _ o hL ho,r⟩
 ·refine (I.hok b u e).stay (λ c v hc q=>k c v ?_ q) (λ _ q=>q) λ _ _ q=>q;rcases hc with z | z
  ·rw [z];exact nit b u e
  ·exact nit c _ z
end
theorem ItR.ofS {h:Heap}{i a:Addr}{k m:Nat}{xs ys:XJ}{b:Bool}{h0:Heap}(x:SIt h i a k xs)(q:ItR h0 i a m b)(y:SIt h0 i a m ys)(hc:∀ o,h0.get? a=some o->h.get? a=some o):ItR h i a k b:=by
 cases b with
 | true =>
  rcases x with ⟨x,_⟩ | ⟨_,⟨o,e,c,n,d⟩⟩
  ·exact x
  ·rcases y with ⟨_,⟨o',e',c',_⟩⟩ | ⟨⟨o',e',c',_⟩,_⟩
   ·have:=hc _ e';rw [e] at this;cases this;rw [c] at c';exact absurd c' 123
   ·obtain ⟨o2,e2,c2,_⟩:=(show h0.IsListIter i a m from q);rw [e2] at e';cases e';rw [c2] at c';exact absurd c' 123
 | false =>
  rcases x with ⟨_,⟨o,e,c,n,d⟩⟩ | ⟨x,_⟩
  ·rcases y with ⟨⟨o',e',c',_⟩,_⟩ | ⟨_,⟨o',e',c',_⟩⟩
   ·obtain ⟨o2,e2,c2,_⟩:=(show h0.IsTupleIter i a m from q);rw [e2] at e';cases e';rw [c2] at c';exact absurd c' 123
   ·have:=hc _ e';rw [e] at this;cases this;rw [c] at c';exact absurd c' 123
  ·exact x
def Itz (K:Y00)(l1 l2:Addr)(b1 b2:Bool)(n m:Nat):It :=
  ⟨λ i H=>i<n/\i<m/\∃ xs ys,SqB K H l1 b1 xs/\SqB K H l2 b2 ys/\xs.length=n/\ys.length=m,
   λ i H v H'=>∃ T,v=.ref T/\H T=none/\∀ xs ys,SqB K H l1 b1 xs->SqB K H l2 b2 ys->∃ x y,xs[i]?=some x/\ys[i]?=some y/\H'=upd H T (.tup [x,y]),
   λ i H=>(i=n\/i=m)/\∃ xs ys,SqB K H l1 b1 xs/\SqB K H l2 b2 ys/\xs.length=n/\ys.length=m⟩
def ZTn (z TI TO i1 i2 l1 l2:Addr)(b1 b2:Bool)(i:Nat)(h:Heap):Prop :=
 IsZip h z TI TO .none/\IsPair h TI (.ref i1) (.ref i2)/\(∃ a b,IsPair h TO a b)/\ItR h i1 l1 i b1/\ItR h i2 l2 i b2
end L2
set_option maxHeartbeats 4000000
namespace L2
open PySem PySem.Spec PyProof.Rows
def itN (b:Bool):String:=if b=true then "list_iterator" else "tuple_iterator"
def SqH (h:Heap)(a:Addr)(b:Bool)(xs:XJ):Prop:=if b=true then h.IsList a xs else h.IsTuple a xs
abbrev z1q (b1:Bool)(h:Heap)(l1:Addr):Heap:=h.push { cls:=.type (itN b1),data:=.fields #[.ref l1,.int 0 0] }
abbrev z1r (b1 b2:Bool)(h:Heap)(l1 l2:Addr):Heap:=(z1q b1 h l1).push { cls:=.type (itN b2),data:=.fields #[.ref l2,.int 0 0] }
abbrev z1s (b1 b2:Bool)(h:Heap)(l1 l2:Addr):Heap:=(z1r b1 b2 h l1 l2).push { cls:=.type "tuple",data:=.seq #[.ref h.objs.size,.ref (z1q b1 h l1).objs.size] }
abbrev z1t (b1 b2:Bool)(h:Heap)(l1 l2:Addr):Heap:=(z1s b1 b2 h l1 l2).push { cls:=.type "tuple",data:=.seq #[.none,.none] }
abbrev GB (b1 b2:Bool)(h:Heap)(l1 l2:Addr):Heap:=(z1t b1 b2 h l1 l2).push { cls:=.type "zip",data:=.fields #[.none,.bool false,.bool false,.ref (z1r b1 b2 h l1 l2).objs.size,.ref (z1s b1 b2 h l1 l2).objs.size] }
theorem Uj (b1 b2:Bool)(l1 l2:Addr)(xs ys:XJ) :
  Meets (Builtin.«zip.__new__» ⟨[.type "zip",.ref l1,.ref l2],[]⟩) (λ _ R s=>SqH s.heap l1 b1 xs/\SqH s.heap l2 b2 ys /\
   R (.ok (.ret (.ref (z1t b1 b2 s.heap l1 l2).objs.size))) { s with heap:=GB b1 b2 s.heap l1 l2 }) :=
 .of_wp λ prog w A R s h=>by
  obtain ⟨hp,g,d,tk,os⟩:=s;obtain ⟨hl1,hl2,h⟩:=h;have hsub:=PySem.sub_zip;cases b1<;>cases b2
  ·have hL1:Heap.IsTuple (Shared.heap ⟨hp,g,d,tk,os⟩) l1 xs:=hl1;have hL2:Heap.IsTuple (Shared.heap ⟨hp.push { cls:=.type "tuple_iterator",data:=.fields #[.ref l1,.int 0 0] },g,d,tk,os⟩) l2 ys:=Heap.IsTuple.at (show hp.IsTuple l2 ys from hl2) λ o e=>Y02 _ e
   wp_walk using wpAny_pyIter_tuple hL1,wpAny_pyIter_tuple hL2
   exact ⟨_,rfl,h⟩
  ·have hL1:Heap.IsTuple (Shared.heap ⟨hp,g,d,tk,os⟩) l1 xs:=hl1;have hL2:Heap.IsList (Shared.heap ⟨hp.push { cls:=.type "tuple_iterator",data:=.fields #[.ref l1,.int 0 0] },g,d,tk,os⟩) l2 ys:=Heap.IsList.push (show hp.IsList l2 ys from hl2) _
   wp_walk using wpAny_pyIter_tuple hL1,wpAny_pyIter_list hL2
   exact ⟨_,rfl,h⟩
  ·have hL1:Heap.IsList (Shared.heap ⟨hp,g,d,tk,os⟩) l1 xs:=hl1;have hL2:Heap.IsTuple (Shared.heap ⟨hp.push { cls:=.type "list_iterator",data:=.fields #[.ref l1,.int 0 0] },g,d,tk,os⟩) l2 ys:=Heap.IsTuple.at (show hp.IsTuple l2 ys from hl2) λ o e=>Y02 _ e
   wp_walk using wpAny_pyIter_list hL1,wpAny_pyIter_tuple hL2
   exact ⟨_,rfl,h⟩
  ·have hL1:Heap.IsList (Shared.heap ⟨hp,g,d,tk,os⟩) l1 xs:=hl1;have hL2:Heap.IsList (Shared.heap ⟨hp.push { cls:=.type "list_iterator",data:=.fields #[.ref l1,.int 0 0] },g,d,tk,os⟩) l2 ys:=Heap.IsList.push (show hp.IsList l2 ys from hl2) _
   wp_walk using wpAny_pyIter_list hL1,wpAny_pyIter_list hL2
   exact ⟨_,rfl,h⟩
theorem Vr (b:Bool)(e:h.get? i=some { cls:=.type (itN b),data:=.fields #[.ref a,.int 0 0] }):ItR h i a 0 b:=by
 cases b with
 | true=>exact (show h.IsListIter i a 0 from ⟨_,e,rfl,rfl⟩)
 | false=>exact (show h.IsTupleIter i a 0 from ⟨_,e,rfl,rfl⟩)
section
variable {prog:XZ}{w:World}{A:Around}{E:XQ}{s:170}
theorem GD {l1 l2:Addr}{xs ys:XJ}{Q:XQ}(b1 b2:Bool)(hl1:SqH s.heap l1 b1 xs)(hl2:SqH s.heap l2 b2 ys)
  (h:∀ h',ZTn (s.heap.objs.size+4) (s.heap.objs.size+2) (s.heap.objs.size+3) s.heap.objs.size 179 l1 l2 b1 b2 0 h'->(∀ c o,s.heap.get? c=some o->h'.get? c=some o)->Q (.ref (s.heap.objs.size+4)) { s with heap:=h' }) :
  wpAny 137 A (call (.type "zip") [.ref l1,.ref l2]) Q E s:=by
 refine callType_new PySem.F.called_zip 123 (PySem.F.typeCall_zip_2 _ _) (PySem.F.newCall_zip_2 _ _) (λ obj=>PySem.F.args_object_init_3 obj _ _) PySem.F.entry_zip_new
  (Uj b1 b2 l1 l2 xs ys) ⟨hl1,hl2,?_⟩
 have z1:(z1q b1 s.heap l1).objs.size=s.heap.objs.size+1:=Y1u ..
 have z2:(z1r b1 b2 s.heap l1 l2).objs.size=s.heap.objs.size+2:=by rw [Y1u,z1]
 have z3:(z1s b1 b2 s.heap l1 l2).objs.size=s.heap.objs.size+3:=by rw [Y1u,z2]
 have z4:(z1t b1 b2 s.heap l1 l2).objs.size=s.heap.objs.size+4:=by rw [Y1u,z3]
 have g5:(GB b1 b2 s.heap l1 l2).get? (z1t b1 b2 s.heap l1 l2).objs.size=some _:=Y0h _ rfl;have g4:(GB b1 b2 s.heap l1 l2).get? (z1s b1 b2 s.heap l1 l2).objs.size=some _:=Y02 _ (Y0h _ rfl);have g3:(GB b1 b2 s.heap l1 l2).get? (z1r b1 b2 s.heap l1 l2).objs.size=some _:=Y02 _ (Y02 _ (Y0h _ rfl));have g2:(GB b1 b2 s.heap l1 l2).get? (z1q b1 s.heap l1).objs.size=some _:=Y02 _ (Y02 _ (Y02 _ (Y0h _ rfl)));have g1:(GB b1 b2 s.heap l1 l2).get? s.heap.objs.size=some _:=Y02 _ (Y02 _ (Y02 _ (Y02 _ (Y0h _ rfl))));show _/\_;rw [z2,z3,z4] at g5;rw [z1,z2] at g3;rw [z3] at g4;rw [z1] at g2;rw [z4];exact ⟨⟨_,g5,rfl⟩,h _ ⟨g5,g3,⟨_,_,g4⟩,Vr b1 g1,Vr b2 g2⟩ λ c o x =>
  Y02 _ (Y02 _ (Y02 _ (Y02 _ (Y02 _ x))))⟩
end
section
variable {X:Cx}
theorem Ba:bootBuiltins "zip"=some (.type "zip"):=by decide +kernel
def za4 (K:Y00)(ta:TA):TI:=λ σ H R=>ta σ H λ vs H1=>∃ l1 l2 b1 b2 xs ys,vs=[.ref l1,.ref l2]/\SqB K H1 l1 b1 xs/\SqB K H1 l2 b2 ys/\R (Itz K l1 l2 b1 b2 xs.length ys.length) H1
theorem Inv.seqH (I:127)(h:SqB X.K H a b xs):∃ its:Array Value,SqH s.heap a b its/\a<s.heap.objs.size:=by
 cases b with
 | true =>
  obtain ⟨its,r,pl,_⟩:=I.list (show SqL X.K H a xs from h);obtain ⟨o,e,_⟩:=id pl.isList;exact ⟨_,pl.isList,Y0i e⟩
 | false =>
  obtain ⟨its,r,pl,_⟩:=I.tuple (show SqT X.K H a xs from h);obtain ⟨o,e,_⟩:=id pl;exact ⟨_,pl,Y0i e⟩
end
section
variable {X:Cx}{Z:ZK}{tg iter:Expr}{body:List Stmt}{wi:TI}{g:TG}{tb:TS}{pos:Pos}
theorem W7 {X:Cx}{Z:ZK}(_:True):PassesOwn 130 X.A X.env (XE X Z):=λ _ _ h=>False.elim h
theorem Thr.wished {X:Cx}{Z:ZK}(_:Thr X Z):Thr (X.wish (XE X Z)) Z:=trivial
theorem z1u (th:Thr X Z)(hc:X.calm=true)(hi:PI (X.wish (XE X Z)) tg iter wi)(hg:PG (X.wish (XE X Z)) tg g)(hb:PSs (X.wish (XE X Z)) body tb)
  (hs:∀ x,foldedSetIterable iter X.env x=pure x:=by intro _;rfl):PS X (.For tg iter body [] pos) (z59 wi g tb):=by
 intro pins s σ H D I h;refine wpAny_mono (z5a (X:=X.wish (XE X Z)) (W7 (X:=X) (Z:=Z) th.toXOk) hc hi hg hb hs pins s σ H D (I.wish _) h) (λ f s' q=>q.unwish) λ e s' x=>th.thr e s' x
end
section
variable {X:Cx}{scope:Scope}{NC:XY}{cap:232}{elt tg iter:Expr}{ifs:List Expr}{pos pos' spos:Pos}{Z:ZK}{wi:TI}{g:TG}{tf:ZK->TT}{te:ZK->TE}{i:Nat}{x:Str}
theorem z1v (hc:X.calm=true)(th:Thr X Z)(hi:PI X tg iter wi)(cok:201)
  (hg:∀ C s H fp pn xe,PG 156 tg g)
  (hf:∀ C s H fp pn xe Zc,Thr 156 Zc->PF 156 ifs (tf Zc))
  (hb:∀ C s H fp pn xe Zc,Thr 156 Zc->PE 156 elt (te Zc))
  (hs:∀ x,foldedSetIterable iter X.env x=pure x) (hN:X.N.Nodup) (hx:X.N[i]?=some x) (hlo:X.env.scope.names.lookup x=some .local)
  (hsw:swapsWith 205 (some (.Name x pos')) spos.line X.env=pure true) :
  PS X (.Assign [.Name x pos'] 205 spos) (z57 (B7 Z cap wi g tf te) (Vg i)):=by
 intro pins s σ H D I h;obtain ⟨c1,c2,c3,c4,c5,c6,c7⟩:=j9 cok;rw [exec_Assign_Name_used _ _ _ _ hsw];refine wpAny_bind (wpAny_standAt (wpAny_bind ?_));show wpAny _ X.A (do let _ <- comprehension 205 scope X.env _ (newList []) false (eval iter X.env) (some (assign (.Name x pos') X.env))) _ _ s;refine wpAny_bind (wpAny_mono (wpAny_comprehension_free rfl hs (ZP λ y hy e=>I.ok.has y.1 (.inl (c4 y hy e))) c1 c3
  (thn (hi pins s σ H _ I h) λ xv s₁ h₁=>thn h₁ λ itv s₂ h₂=>?_)) (λ _ s' hq=>wpAny_pure (wpAny_pure hq)) λ _ _ e=>e)
 obtain ⟨it,fp,tn,J,H2,rfl,I2,T,st2,f2,W,⟨m0,w0⟩,turn⟩:=h₂;refine W6 hc th I2 T st2 f2 cok (λ C pn xe=>hg C s₂ H2 fp pn xe) (λ C pn xe t=>hf C s₂ H2 fp pn xe _ t) (λ C pn xe t=>hb C s₂ H2 fp pn xe _ t) W m0 w0 turn ?_
 rintro C D' s' H' ys us n ⟨vQ,q⟩ rv e hn hnC rfl rfl ⟨m,ns⟩ lv
 have I':=lv s'.heap (Heap.SameBut.refl _ _);have I3:Inv X pins σ (upd H' s₂.heap.objs.size (.lst ys)) s':=I'.track hn (Y2c I2.sz) (Y1y I2.lt) (λ y c ec z=>by
  obtain ⟨v,q⟩:=I2.cell y c ec;exact absurd q.lt (by rw [z];exact Y1f _)) (λ p hp z=>absurd (Y0i (I2.pin p hp).1) (by rw [z];exact Y1f _)) ⟨vQ,us,n,rv,e⟩
 have fC:yM X pins (upd H' s₂.heap.objs.size (.lst ys)) (s₂.heap.objs.size+1):=I2.fpOk (Y2u _) (by rw [zp (Nat.succ_ne_self _)];exact hnC);show wpAny _ X.A (assign (.Name x pos') X.env (.ref s₂.heap.objs.size)) _ _ _;refine wpAny_assign_Name (JU I3 hN hx (.inl hlo) (v:=.ref s₂.heap.objs.size) rfl (λ s'' I4 ⟨a,sb,ha⟩=>?_) (.inr hlo));have nC:s₂.heap.objs.size+1≠a:=by
  rcases ha with rfl | ha
  ·exact fC.2.1
  ·exact λ z=>fC.2.2.2.2.1 x a ha z.symm
 refine ⟨m,ns.sameBut sb nC,λ h' sb'=>⟨_,_,I4.turned (λ b o hb e=>(sb'.2 b hb).trans e) fC.1 fC.2.1 fC.2.2.2.1 fC.2.2.2.2.1 fC.2.2.2.2.2,q _ hn⟩⟩
end
def Itv (K:Y00)(a:Addr)(n:Nat):It :=
 ⟨λ i H=>i<n/\∃ xs,SqL K H a xs/\xs.length=n,λ i H x H'=>H'=H/\∀ xs,SqL K H a xs->xs[n-1-i]?=some x,λ i _=>i=n⟩
theorem Bb {K:Y00}(a it:Addr)(n:Nat):Turn P w K tg (Itv K a n) [it] it (λ i h=>h.IsRevIter it a ((n:Int)-1-(i:Int))) where
 mem:=by simp
 obj:=λ i h st b hb=>by
  have e:b=it:=by simpa using hb
  subst e;obtain ⟨o,e,c,d⟩:=st;exact ⟨o,e,λ v z=>by rw [d] at z;cases z⟩
 keep:=λ i h h' st k=>st.at λ o e=>k it 133 o e
 item:=by
  intro X hP hw hK hc i pins s σ H E I hf st hg;subst hP hw hK;obtain ⟨hi,xs,hq,hn⟩:=hg;obtain ⟨its,rv,p,hz⟩:=I.list hq;have hx:xs[n-1-i]?=some (xs[n-1-i]' 117):=Y0j _;obtain ⟨u,hu,ru⟩:=rv.get hx;obtain ⟨f0,f1,f2,f3,f4,f5⟩:=hf it 133;have e1:((n:Int)-1-(i:Int))=((n-1-i:Nat):Int):=by omega
  rw [e1] at st;refine wpAny_pyNext_rev_item st p.isList (by simpa using hu) λ h' st' sb=>?_;have I1:Inv X pins σ H { s with heap:=h' }:=I.turned (λ b o hb e=>(sb.2 b hb).trans e) f0 f1 f3 f4 f5;have e2:((n-1-i:Nat):Int)-1=(n:Int)-1-((i+1:Nat):Int):=by omega
  rw [e2] at st';obtain ⟨o,e,c,d⟩:=id st';exact ⟨u,rfl,ZJ e c d 123 ⟨_,H,I1,ru,⟨rfl,λ ys hy=>by rw [I.list_inj hy hq];exact hx⟩,st',λ b hb=>(hf b hb).1⟩⟩
 done:=by
  intro X hP hw hK hc i pins s σ H E I hf st hg;subst hP hw hK;have hg':=hg;subst hg';obtain ⟨f0,f1,f2,f3,f4,f5⟩:=hf it 133;have e1:((i:Int)-1-(i:Int))=-1:=by omega
  rw [e1] at st;exact wpAny_pyNext_rev_end (I.ok.hd hc) st λ h' eb=>162
 self:=λ _ _ _ _ _ st h=>wpAny_pyIter_revIter st h
theorem GE:typeLookup (.type "list_reverseiterator") "__len__"=pure none:=by rw [typeLookup_type,builtinLookup_eq_fast];kernel_rfl
theorem Bc:typeLookup (.type "list_reverseiterator") "__length_hint__"=pure (some (.builtin "list_reverseiterator.__length_hint__")):=by rw [typeLookup_type,builtinLookup_eq_fast];kernel_rfl
section
variable {prog:XZ}{w:World}{A:Around}{s:170}{R:Result->Shared->Prop}
variable {I:Addr}{fp wr:XV}{G:Array GenState->Array GenState->Prop}{n:Nat}{P:Nat->Value->Prop}{St:Nat->Shared->Prop}
theorem z1w (W:WalksS prog w A.in1 I fp wr G n P St) (hT:∀ i s,St i s->s.TypeIs (.ref I) "list_reverseiterator") (S:Addr) (res:Value) (c₀:Nat) (hst:St 0 s) (hSf:S∉fp) (hI:I∈fp)
  (hS:s.heap.get? S=some { cls:=.type "list",data:=.seq #[] c₀ }) (hn:n<=sizeLine)
  (hR:∀ s' acc' c',Moved (S::wr) G s s'->s'.heap.get? S=some { cls:=.type "list",dict:=none,data:=.seq acc' c',slots:=#[] }->ItemsOf P acc' n->R (.ok (.ret res)) s') :
  wpAny 137 A.in1 (Builtin.List.listExtendWith (.ref S) (.ref I) res)
   (λ fin s'=>match fin with | .done f=>R (.ok f) s' | .again c'=>c'.quiet=true/\codeAny 137 A c' R s') (λ e s'=>R (.error e) s') s:=by
 have hSI:S≠I:=λ e=>hSf (e▸hI);have h1:Builtin.List.listSameRef (.ref S) (.ref I)=false:=by simp [Builtin.List.listSameRef,hSI]
 unfold Builtin.List.listExtendWith;refine wpAny_bind (wpAny_typeOf (hT 0 _ hst) ?_);rw [if_neg (by rw [h1];decide)];refine wpAny_bind (W.self 0 _ _ _ hst ?_);refine wpAny_bind (wpAny_holding ?_);unfold Builtin.List.listLengthHint;refine wpAny_bind (wpAny_specialOf (hT 0 _ hst) GE ?_);show wpAny _ A.in1 (specialOf (Value.ref I) (Str.ofString "__length_hint__") >>= _) _ _ _;refine wpAny_bind (wpAny_specialOf (hT 0 _ hst) Bc ?_);generalize hid:("list_reverseiterator.__length_hint__":String)=id0
 wp_delta
 rw [show splitId id0=some ("list_reverseiterator","__length_hint__") from by subst hid;decide +kernel];subst hid;refine wpAny_bind (wpAny_isInstance (b:=true) (hT 0 _ hst) (by rw [isSubtype_type];kernel_rfl) ?_);refine wpAny_pure ?_;rw [if_neg 123];exact wpAny_pure ⟨plainId_quiet F.plain_extend_loop _,codeAny_extend_loopS W hn _ hSf _ n 0 _ _ _ rfl (Y1w _) hst hS (ItemsOf.nil P) λ s' acc' c' hm hS' hacc=>hR s' acc' c' hm hS' hacc⟩
theorem Bd (W:WalksS prog w A.in1 I fp wr G n P St) (hT:∀ i s,St i s->s.TypeIs (.ref I) "list_reverseiterator") (S:Addr) (hst:St 0 s) (hSf:S∉fp) (hI:I∈fp)
  (hS:s.heap.get? S=some { cls:=.type "list",data:=.seq #[] }) (hn:n<=sizeLine)
  (hR:∀ s' acc' c',Moved (S::wr) G s s'->s'.heap.get? S=some { cls:=.type "list",dict:=none,data:=.seq acc' c',slots:=#[] }->ItemsOf P acc' n->R (.ok (.ret .none)) s') :
  wpAny 137 A.in1 (Builtin.«list.__init__» ⟨[.ref S,.ref I],[]⟩)
   (λ fin s'=>match fin with | .done f=>R (.ok f) s' | .again c'=>c'.quiet=true/\codeAny 137 A c' R s') (λ e s'=>R (.error e) s') s:=by
 show wpAny _ A.in1 (do let old <- Builtin.List.listItems (.ref S);Builtin.List.listUpdate (.ref S) (λ _=>#[]);letGo old.toList.reverse;Builtin.List.listExtendWith (.ref S) (.ref I) .none) _ _ s;refine wpAny_bind ?_;unfold Builtin.List.listItems;refine wpAny_bind (wpAny_seqItems hS rfl (wpAny_pure ?_));show wpAny _ A.in1 (updateSeq S (λ _=>#[]) >>= λ _=>letGo (#[]:Array Value).toList.reverse >>= λ _=>Builtin.List.listExtendWith (.ref S) (.ref I) .none) _ _ s;refine wpAny_bind (wpAny_updateSeq hS rfl ?_);have hS2:=Y2p (Obj.mapSeq (λ _=>(#[]:Array Value))) hS rfl;have oth:∀ b o,b≠S->s.heap.get? b=some o->(s.heap.update S (Obj.mapSeq (λ _=>(#[]:Array Value)))).get? b=some o:=λ b o hb e=>(Heap.get?_update_other _ _ (Ne.symm hb)).trans e;refine wpAny_bind (wpAny_letGo ?_);refine z1w W hT S .none _ (W.frame 0 s _ s.toks hst 176 λ b hb o e=>oth b o (λ h=>hSf (h▸hb)) e) hSf hI hS2 hn λ s' acc' c' hm hS' hacc=>?_;exact hR s' acc' c' (Moved.trans W.gtrans ((Moved.refl W.grefl).then_heap 176 λ b o hb e=>oth b o (λ h=>hb (h▸Y0c)) e) hm) hS' hacc
end
section
variable {prog:XZ}{w:World}{A:Around}{E:XQ}{s:170}
theorem Be (hh:A.handled=none)(hne:l≠I)(hI:I<s.heap.objs.size)(hit:s.heap.IsRevIter I l ((items.size:Int)-1))(hl:s.heap.IsList l items)(hn:items.size<=sizeLine)
  (hQ:∀ s' acc c,(∀ b o,b≠I->s.heap.get? b=some o->s'.heap.get? b=some o)->s'.gens=s.gens->s'.drawn=s.drawn->s'.os=s.os->s.toks<=s'.toks ->
   s'.heap.get? s.heap.objs.size=some { cls:=.type "list",data:=.seq acc c }->acc.toList=items.toList.reverse->Q 233 s') :
  wpAny 137 A (call (.type "list") [.ref I]) Q E s:=by
 have hll:l<s.heap.objs.size:=by obtain ⟨_,e,_⟩:=hl;exact Y0i e
 have W:=(Walks.listRev (prog:=prog) (w:=w) (A:=A.in1.in1) hh I l hne items).toS;have hfp:∀ b∈[I,l],b<s.heap.objs.size:=λ b hb=>by simp at hb;rcases hb with rfl | rfl<;>assumption
 have hSf:=λ hm=>Y1f _ (hfp _ hm);refine callType_codes (Q₁:=λ obj s₁=>obj=.ref s.heap.objs.size/\s₁={ s with heap:=s.heap.push { cls:=.type "list",data:=.seq #[] } }) F.called_list (F.typeCall_list_1 _) F.entry_list_init (code_list_new _ ⟨rfl,rfl⟩) λ obj s₁ h₁=>?_;obtain ⟨rfl,rfl⟩:=h₁;have hS:(s.heap.push { cls:=.type "list",data:=.seq #[] }).get? s.heap.objs.size=some { cls:=.type "list",data:=.seq #[] }:=Y0h _ rfl;have st0:0<=items.size/\s.heap.IsRevIter I l ((items.size:Int)-1-((0:Nat):Int))/\s.heap.IsList l items:=⟨Y1w _,by simpa using hit,hl⟩;refine ⟨⟨_,hS,rfl⟩,F.args_list_init_2 _ _,Bd W (λ i s x=>x.2.1.typeIs) _ (W.frame 0 s _ s.toks st0 176 λ b _ o e=>Y02 _ e) hSf 133 hS hn λ s' acc' c' hm hS' hacc=>?_⟩;refine ⟨rfl,hQ s' acc' c' (λ b o hb e=>hm.heap b o ?_ (Y02 _ e)) hm.gens hm.drawn hm.os hm.toks hS' ?_⟩
 ·have:=Y0i e
  simp;exact ⟨Y0m this,hb⟩
 ·obtain ⟨a1,a2⟩:=hacc;apply List.ext_getElem?;intro i;rw [Y3b];by_cases hi:i<acc'.size
  ·have e:=a2 i _ (Array.getElem?_eq_getElem hi);rw [Array.getElem?_eq_getElem hi,Y3a (by rw [Y26];omega),Y26,Y3b,e]
  ·rw [Array.getElem?_eq_none 117,List.getElem?_eq_none (by rw [Y0l,Y26];omega)]
variable {X:Cx}
def rLR (K:Y00):List V->Hp->VK->Prop:=λ xs H Q=>∃ p ys,xs=[.ref p]/\SqL K H p ys/\∀ l,H l=none->Q (.ref l) (upd H l (.lst ys.reverse))
theorem Vals.rev:∀ {xs:211}{us:XU},Vals xs us->Vals xs.reverse us.reverse
 | _,_,.nil=>.nil
 | _,_,.cons r t=>by rw [Y1d,Y1d];exact (Vals.rev t).append (.cons r .nil)
theorem Uk (hc:X.calm=true) (hg:Gl X "reversed") (hm:X.mg "reversed"=none) (hg2:Gl X "list") (hm2:X.mg "list"=none) (ha:PA X [a] ta) (hs:starEach [a] X.env=[(false,eval a X.env)]) :
  PE X (.Call (.Name "list" p) [.Call (.Name "reversed" p') [a] [] pos'] [] pos) (λ σ H Q=>ta σ H λ vs H1=>rLR X.K vs H1 Q):=by
 intro pins s σ H Q I h;refine wpAny_Call_Name_kw (wI I hg2 hm2 boot_list ?_ 123 123);refine Y1b ?_ rfl rfl;show wpAny _ _ (spliced ((false,eval (.Call (.Name "reversed" p') [a] [] pos') X.env)::[])) _ _ s;refine Calls.spliced_cons (Call_ (wI I hg hm boot_reversed (Y1b (thn (ha pos' pins s σ H _ I h) λ us s1 ⟨vs,H1,I1,r1,q1⟩=>?_) hs rfl) 123 123));obtain ⟨b,xs,e,hq,q⟩:=q1;subst e;cases r1 with
 | cons r rr =>
  cases rr;cases r;obtain ⟨its,rv,pl,hz⟩:=I1.list hq;have hl:=rv.length;have hb:b<s1.heap.objs.size:=by obtain ⟨_,e,_⟩:=pl.isList;exact Y0i e
  refine call_reversed_list pl.isList ?_;refine wpAny_pure ?_;refine Be (I1.ok.hd hc) (Y0m hb) 133 240 (pl.isList.push _) (by simp only [Y0e];omega) λ s' acc c k1 k2 k3 k4 k5 k6 k7=>?_;obtain ⟨hp',g',d',tk',os'⟩:=s';simp only at k2 k3 k4;subst k2 k3 k4;have kp:=λ b' o e=>k1 b' o (Y0m (Y0i e)) (Y02 _ e);have sz:s1.heap.objs.size<=(s1.heap.push (revObj b ((its.toArray.size:Int)-1))).objs.size:=by simp
  refine ⟨.ref _,_,I1.laid kp sz (show ObjOk X.prog X.w _ hp' _ (.lst xs.reverse) from ⟨by rw [Y0l];exact hz,its.reverse,c,rv.rev,?_⟩),rfl,q _ (I1.hok.fresh sz)⟩;have ea:acc=its.reverse.toArray:=by
   have:=congrArg List.toArray k7
   simpa using this
  rw [<- ea];exact k6
end
theorem W8:Manifest.owners.lookup (String.ofList ['d','e','s','r','e','v','e','r'].reverse)=some Manifest.sig_reversed:=by kernel_rfl
theorem rvt_next:Slot "reversed" "__next__" "reversed.__next__":=.of (owner:="reversed") (n:="__next__") (by rw [typeLookup_type,builtinLookup_eq_fast];kernel_rfl) 165 165 165 (by first | exact .inl 165 | exact .inr 165) (by rw [isSubtype_type];kernel_rfl)
theorem ZS:entryFor table "reversed.__next__"=some Builtin.«reversed.__next__»:=entryFor_of_tree (by kernel_rfl)
theorem ZT (a:Value):argsOk "reversed.__next__" ⟨[a],[]⟩:=by unfold argsOk;rw [signature?_of (n:=['_','_','t','x','e','n','_','_']) (by kernel_rfl) W8];kernel_rfl
theorem QX:Slot "reversed" "__iter__" "reversed.__iter__":=.of (owner:="reversed") (n:="__iter__") (by rw [typeLookup_type,builtinLookup_eq_fast];kernel_rfl) 165 165 165 (by first | exact .inl 165 | exact .inr 165) (by rw [isSubtype_type];kernel_rfl)
theorem Ul (a:Value):argsOk "reversed.__iter__" ⟨[a],[]⟩:=by unfold argsOk;rw [signature?_of (n:=['_','_','r','e','t','i','_','_']) (by kernel_rfl) W8];kernel_rfl
theorem Um:entryFor table "reversed.__iter__"=some Builtin.«dict_keyiterator.__iter__»:=entryFor_alias (id':="dict_keyiterator.__iter__") (by kernel_rfl) (by first | rfl | decide +kernel | (unfold String.splitOn;simp +decide [String.splitOnAux])) 165 (by kernel_rfl)
theorem Bf:Slot "reversed" "__init__" "object.__init__":=.of (owner:="object") (n:="__init__") (by rw [typeLookup_type,builtinLookup_eq_fast];kernel_rfl) 165 165 165 (by first | exact .inl 165 | exact .inr 165) (by rw [isSubtype_type];kernel_rfl)
theorem Uo:TypeCalled "reversed" "reversed.__new__" "object.__init__":=⟨by decide +kernel,by decide +kernel,⟨_,_,PySem.F.mro_reversed⟩,PySem.F.made_reversed,by decide +kernel,by rw [isSubtype_type];kernel_rfl,Bf⟩
theorem Up (a b:Value):argsOk "object.__init__" ⟨[a,b],[]⟩:=by unfold argsOk;rw [signature?_of (n:=['_','_','t','i','n','i','_','_']) (by kernel_rfl) PySem.F.owner_object];kernel_rfl
theorem GF:typeLookup (.type "tuple") "__reversed__"=pure none:=by rw [typeLookup_type,builtinLookup_eq_fast];kernel_rfl
theorem Uq:isSubtype (.type "tuple") (.type "dict")=pure false:=by rw [isSubtype_type];kernel_rfl
def WQ (l:Addr)(i:Int):Obj:={ cls:=.type "reversed",data:=.fields #[.ref l,rawInt i] }
def IsRvt (h:Heap)(a l:Addr)(i:Int):Prop:=∃ o,h.get? a=some o/\o.cls=.type "reversed"/\o.data=.fields #[.ref l,rawInt i]
theorem IsRvt.typeIs {s:170}(x:IsRvt s.heap a l i):s.TypeIs (.ref a) "reversed":=let ⟨o,ho,hc,_⟩:=x;⟨o,ho,hc⟩
theorem IsRvt.at (x:IsRvt h a l i)(e:∀ o,h.get? a=some o->h'.get? a=some o):IsRvt h' a l i:=let ⟨o,ho,r⟩:=x;⟨o,e _ ho,r⟩
theorem GG (t:Addr)(its:XJ)(hz:(its.size:Int)<2 ^ 63):Meets (Builtin.«reversed.__new__» ⟨[.type "reversed",.ref t],[]⟩) (λ _ R s=>IsTup s.heap t its/\∀ tk,R (.ok (.ret 233)) { s with heap:=s.heap.push (WQ t ((its.size:Int)-1)),toks:=tk }) :=
 .of_wp λ prog w A R s h=>by
  obtain ⟨ht,h⟩:=h;unfold Builtin.«reversed.__new__»;refine wpAny_bind (wpAny_of_eq (newClass_reversed _) ?_)
  try dsimp only
  refine wpAny_bind (wpAny_of_eq (by first | rfl | kernel_rfl) ?_);refine wpAny_bind (wpAny_of_eq (by first | rfl | kernel_rfl) ?_)
  try dsimp only
  refine wpAny_bind (wpAny_specialOf ht.typeIs GF ?_)
  try dsimp only
  refine wpAny_bind (wpAny_mono (Q:=λ b s'=>b=true/\s'=s) ?_ ?_ (λ _ _ e=>e))
  ·show wpAny _ _ (isInstance (.ref t) (.type "dict") >>= _) _ _ s;refine wpAny_bind (wpAny_isInstance ht.typeIs Uq ?_);simp only [Y1q,if_false,pure_bind];refine wpAny_bind (wpAny_specialOf ht.typeIs slot_tuple_getitem.lookup ?_);simp only [];rw [if_pos 123];exact wpAny_pure ⟨rfl,rfl⟩
  ·rintro b s' ⟨rfl,rfl⟩
   simp only [Bool.not_true,Y1q,if_false];refine wpAny_bind (len_tuple ht hz ?_);refine wpAny_bind (wpAny_of_eq rfl ?_);simp only [];refine wpAny_bind ?_;show wpAny _ _ (newObj (.type "reversed") (.fields #[Value.ref t,rawInt ((its.size:Int)-1)])) _ _ _;refine wpAny_newObj_type ?_ (by size_fits);exact wpAny_pure ⟨_,rfl,h _⟩
section
variable {prog:XZ}{w:World}{A:Around}{E:XQ}{s:170}
theorem Bg (ht:IsTup s.heap t its)(hz:(its.size:Int)<2 ^ 63)
  (h:∀ tk,Q 233 { s with heap:=s.heap.push (WQ t ((its.size:Int)-1)),toks:=tk }):wpAny 137 A (call (.type "reversed") [.ref t]) Q E s:=by
 refine callType_new Uo 123 (PySem.F.typeCall_reversed_1 _) (PySem.F.newCall_reversed_1 _) (λ obj=>Up obj _) PySem.F.entry_reversed_new (GG t its hz) ⟨ht,λ tk=>?_⟩;exact ⟨⟨_,Y0h _ rfl,rfl⟩,h tk⟩
theorem Bh {i:Nat}(hit:IsRvt s.heap it t (i:Int))(ht:IsTup s.heap t its)(hx:its[i]?=some x)(hz:(its.size:Int)<2 ^ 63)
  (hQ:∀ h' tk,IsRvt h' it t ((i:Int)-1)->Heap.SameBut it s.heap h'->Q (some x) { s with heap:=h',toks:=tk }):wpAny 137 A (pyNext (.ref it)) Q E s:=by
 obtain ⟨o,ho,hc,hd⟩:=id hit;have hi:i<its.size:=by
  by_cases h:i<its.size
  ·exact h
  ·rw [Array.getElem?_eq_none 117] at hx;cases hx
 unfold pyNext;refine wpAny_bind (wpAny_attempt (wpAny_callSpecial?_slot hit.typeIs rvt_next (wpAny_call_entry rvt_next hit.typeIs ZS ?_ (ZT _))));unfold Builtin.«reversed.__next__»;refine wpAny_bind (wpAny_of_eq rfl ?_)
 try dsimp only
 refine wpAny_bind (wpAny_field ho hd rfl ?_);refine wpAny_bind (wpAny_field ho hd rfl ?_);show wpAny _ _ (if (i:Int)<0 then _ else _) _ _ s;rw [if_neg 117];show wpAny _ _ (specialOf (.ref t) "__getitem__" >>= _) _ _ s;refine wpAny_bind (wpAny_specialOf ht.typeIs slot_tuple_getitem.lookup ?_);simp only [Option.isNone,Y1q,if_false];refine wpAny_bind (wpAny_mkInt ?_);refine wpAny_bind (wpAny_attempt (getItem_tuple ht 117 117 (by unfold seqIndex?;simp only [];split<;>simp_all<;>omega) hx ?_));simp only [];refine wpAny_bind (wpAny_field ho hd rfl ?_);show wpAny _ _ (setField (.ref it) 1 (rawInt ((i:Int)-1)) >>= _) _ _ _;refine wpAny_bind (wpAny_setField ho hd 133 ?_);refine wpAny_pure ⟨x,rfl,wpAny_pure (hQ _ _ ?_ (Heap.SameBut.update ..))⟩;exact ⟨_,Y2p _ ho (Obj.isFreed_of_fields (Obj.data_mapFields hd _)),(Obj.cls_mapFields ..).trans hc,by rw [Obj.data_mapFields hd];simp⟩
theorem z1x (hh:A.handled=none)(hit:IsRvt s.heap it t (-1))
  (hQ:∀ h',Heap.ExtBut it s.heap h'->Q none { s with heap:=h' }):wpAny 137 A (pyNext (.ref it)) Q E s:=by
 obtain ⟨o,ho,hc,hd⟩:=id hit;unfold pyNext;refine wpAny_bind (wpAny_attempt (wpAny_callSpecial?_slot hit.typeIs rvt_next (wpAny_call_entry rvt_next hit.typeIs ZS ?_ (ZT _))));unfold Builtin.«reversed.__next__»;refine wpAny_bind (wpAny_of_eq rfl ?_)
 try dsimp only
 refine wpAny_bind (wpAny_field ho hd rfl ?_);refine wpAny_bind (wpAny_field ho hd rfl ?_);show wpAny _ _ (if (-1:Int)<0 then _ else _) _ _ s;rw [if_pos 123];refine wpAny_bind (wpAny_rule ?_);refine wpAny_bind (wpAny_mono (Q:=λ _ s'=>∃ h',s'={ s with heap:=h' }/\Heap.SameBut it s.heap h') ?_ ?_ (λ _ _ e=>e))
 ·show wpAny _ _ (setField (.ref it) 1 (rawInt (-1)) >>= λ _=>setField (.ref it) 0 .none) _ _ s;refine wpAny_bind (wpAny_setField ho hd 133 ?_);refine wpAny_setField (Y2p _ ho (Obj.isFreed_of_fields (Obj.data_mapFields hd _))) (Obj.data_mapFields hd _) 133 ?_;exact ⟨_,rfl,(Heap.SameBut.update ..).trans (Heap.SameBut.update ..)⟩
 ·rintro _ s' ⟨h1,rfl,sb⟩
  refine wpAny_bind ?_;unfold Builtin.SmallTypes.stopIteration;refine wpAny_bind ?_;simp only [newExc,newTuple];refine wpAny_bind (wpAny_newObj_type ?_ (by size_fits));refine wpAny_bind (wpAny_of_eq (by first | rfl | (simp only [firstArgMember];rfl)) ?_);refine wpAny_newObj_type ?_ (by size_fits);simp only [raiseNew];refine wpAny_bind (wpAny_handled ?_)
  first | rw [show A.in1.handled=none from hh] | rw [hh]
  refine wpAny_bind (wpAny_pure (wpAny_throw ?_));refine wpAny_bind (wpAny_isInstance ⟨_,Y0h _ rfl,rfl⟩ isSubtype_stop ?_);exact wpAny_pure (hQ _ ((sb.extBut.push _).push _))
theorem QY {it t:Addr}(hit:IsRvt s.heap it t i)(h:Q (.ref it) s):wpAny 137 A (pyIter (.ref it)) Q E s:=by
 refine wpAny_pyIter_slot hit.typeIs QX (wpAny_call_entry QX hit.typeIs Um ?_ (Ul _));show wpAny _ _ (ret (.ref it)) _ _ s;exact wpAny_pure ⟨_,rfl,"reversed",_,hit.typeIs,rvt_next.lookup,h⟩
end
def Itw (K:Y00)(a:Addr)(n:Nat):It :=
 ⟨λ i H=>i<n/\∃ xs,SqT K H a xs/\xs.length=n,λ i H x H'=>H'=H/\∀ xs,SqT K H a xs->xs[n-1-i]?=some x,λ i _=>i=n⟩
theorem Bi {K:Y00}(a it:Addr)(n:Nat):Turn P w K tg (Itw K a n) [it] it (λ i h=>IsRvt h it a ((n:Int)-1-(i:Int))) where
 mem:=by simp
 obj:=λ i h st b hb=>by
  have eb:b=it:=by simpa using hb
  subst eb;obtain ⟨o,e1,e2,e3⟩:=st;exact ⟨o,e1,λ v z=>by rw [e3] at z;cases z⟩
 keep:=λ i h h' st k=>st.at λ o e=>k it 133 o e
 item:=by
  intro X hP hw hK hc i pins s σ H E I hf st hg;subst hP hw hK;obtain ⟨hi,xs,hq,hn⟩:=hg;obtain ⟨its,rv,p,hz⟩:=I.tuple hq;have hl:=rv.length;have ln:=yN;have hx:xs[n-1-i]?=some (xs[n-1-i]' 117):=Y0j _;obtain ⟨u,hu,ru⟩:=rv.get hx;obtain ⟨f0,f1,f2,f3,f4,f5⟩:=hf it 133;have e1:((n:Int)-1-(i:Int))=((n-1-i:Nat):Int):=by omega
  rw [e1] at st;refine Bh st p (by simpa using hu) (by rw [Y0e];omega) λ h' tk st' sb=>?_;have I1:Inv X pins σ H { s with heap:=h',toks:=tk }:=I.turned (λ b o hb e=>(sb.2 b hb).trans e) f0 f1 f3 f4 f5;have e2:((n-1-i:Nat):Int)-1=(n:Int)-1-((i+1:Nat):Int):=by omega
  rw [e2] at st';obtain ⟨o,g1,g2,g3⟩:=id st';exact ⟨u,rfl,ZJ g1 g2 g3 123 ⟨_,H,I1,ru,⟨rfl,λ ys hy=>by rw [I.tuple_inj hy hq];exact hx⟩,st',λ b hb=>(hf b hb).1⟩⟩
 done:=by
  intro X hP hw hK hc i pins s σ H E I hf st hg;subst hP hw hK;have hg':=hg;subst hg';obtain ⟨f0,f1,f2,f3,f4,f5⟩:=hf it 133;have e1:((i:Int)-1-(i:Int))=-1:=by omega
  rw [e1] at st;exact z1x (I.ok.hd hc) st λ h' eb=>162
 self:=λ _ _ _ _ _ st h=>QY st h
section
variable {X:Cx}{tg:Expr}
def z7q (K:Y00)(ta:TA):TI:=λ σ H R=>ta σ H λ vs H1=>∃ a xs,vs=[.ref a]/\((SqL K H1 a xs/\R (Itv K a xs.length) H1)\/(SqT K H1 a xs/\R (Itw K a xs.length) H1))
theorem z1y (hg:Gl X "reversed") (hm:X.mg "reversed"=none) (ha:PA X [a] ta) (hs:starEach [a] X.env=[(false,eval a X.env)]):PI X tg (.Call (.Name "reversed" p) [a] [] pos) (z7q X.K ta):=by
 intro pins s σ H R I h;refine Call_ (wI I hg hm boot_reversed (Y1b (thn (ha pos pins s σ H _ I h) λ us s1 ⟨vs,H1,I1,r1,q1⟩=>?_) hs rfl));obtain ⟨b,xs,e,hq⟩:=q1;subst e;cases r1 with
 | cons r rr =>
  cases rr;cases r;rcases hq with ⟨hq,q⟩ | ⟨hq,q⟩
  ·obtain ⟨its,rv,pl,hz⟩:=I1.list hq;refine call_reversed_list pl.isList ?_;have hl:(its.toArray.size:Int)=(xs.length:Int):=by rw [Y0e,rv.length]
   have it0:(s1.heap.push (revObj b ((its.toArray.size:Int)-1))).IsRevIter s1.heap.objs.size b ((xs.length:Int)-1-((0:Nat):Int)):=⟨_,Y0h _ rfl,rfl,by rw [hl];simp [revObj]⟩;refine wpAny_pyIter_revIter it0 ?_;refine ⟨s1.heap.objs.size,[s1.heap.objs.size],_,_,H1,rfl,I1.kept λ b' o e=>Y02 _ e,Bb b _ xs.length,it0,λ b' hb=>?_,q⟩;have e:b'=s1.heap.objs.size:=by simpa using hb
   subst e;exact I1.fpOk 176 (I1.hok.fresh 176)
  ·obtain ⟨its,rv,pl,hz⟩:=I1.tuple hq;have ln:=yN;have hl:(its.toArray.size:Int)=(xs.length:Int):=by rw [Y0e,rv.length]
   refine Bg pl (by have:=rv.length;rw [Y0e];omega) λ tk=>?_;have it0:IsRvt (s1.heap.push (WQ b ((its.toArray.size:Int)-1))) s1.heap.objs.size b ((xs.length:Int)-1-((0:Nat):Int)):=⟨_,Y0h _ rfl,rfl,by rw [hl];simp [WQ]⟩;refine QY it0 ?_;refine ⟨s1.heap.objs.size,[s1.heap.objs.size],_,_,H1,rfl,I1.kept λ b' o e=>Y02 _ e,Bi b _ xs.length,it0,λ b' hb=>?_,q⟩;have e:b'=s1.heap.objs.size:=by simpa using hb
   subst e;exact I1.fpOk 176 (I1.hok.fresh 176)
end
open HT in
theorem z1z {lo hi:Option Int}(ht:IsTup s.heap t items)(hs:s.heap.IsSliceOf sl vl vu .none)(pl:IsPart vl lo)(pu:IsPart vu hi)
  (h1:sIx items.size 0 lo=0) (h2:sIx items.size items.size hi=items.size) (h:Q (.ref t) s):wpAny 137 A (getItem (.ref t) (.ref sl)) Q E s:=by
 obtain ⟨os,hos,hcs,hds⟩:=id hs;have hTs:s.TypeIs (.ref sl) "slice":=⟨os,hos,hcs⟩;unfold getItem
 try with_reducible refine wpAny_holding ?_
 first | refine wpAny_bind (wpAny_pure ?_) | skip
 refine wpAny_bind (wpAny_sequenceKey ht.typeIs 123 ?_);refine wpAny_bind (wpAny_callSpecial?_slot ht.typeIs Y23 (wpAny_call_entry Y23 ht.typeIs entry_tuple_getitem ?_ (args_tuple_getitem _ _)));show wpAny _ _ (Builtin.Tuple.tupleItemsOf (.ref t) >>= _) _ _ s;refine wpAny_bind (tupleItemsOf_ ht ?_);refine wpAny_bind (wpAny_typeOf hTs ?_);rw [if_pos 123];refine wpAny_bind (wE hs pl pu ?_);have hy:168=true:=by rw [h1,h2];simp
 show wpAny _ _ (if 168=true then _ else _) _ _ s;rw [if_pos hy];refine wpAny_bind ?_;unfold Builtin.Tuple.tupleIsExact;refine wpAny_bind (wpAny_typeOf ht.typeIs (wpAny_pure ?_));rw [if_pos 123];refine wpAny_bind (wpAny_rule ?_);exact wpAny_pure ⟨_,rfl,wpAny_pure h⟩
def za5 (K:Y00):V->Option Int->Option Int->Hp->VK->Prop:=λ x lo hi H Q=>∃ a xs,x=.ref a/\SqT K H a xs/\HT.sIx xs.length 0 lo=0/\HT.sIx xs.length xs.length hi=xs.length/\Q (.ref a) H
theorem z20:SlR X (za5 X.K):=by
 intro pins s σ H x v vl vu lo hi sl Q I rx hs pl pu h;obtain ⟨a,xs,rfl,hx,w1,w2,q⟩:=h;cases rx;obtain ⟨its,r,ht,hz⟩:=I.tuple hx;have vQ:its.toArray.size=xs.length:=by rw [Y0e];exact r.length.symm
 exact ⟨"tuple",_,PyProof.Rows.slot_tuple_getitem.lookup,ht.typeIs,z1z ht hs pl pu (by rw [vQ];exact w1) (by rw [vQ];exact w2) ⟨.ref a,H,I,rfl,q⟩⟩
theorem jo:entryFor table "dict.update.loop"=some Builtin.«dict.update.loop»:=entryFor_of_tree (by kernel_rfl)
theorem zN:plainId "dict.update.loop"=true:=by decide +kernel
theorem QZ:typeLookup (.type "list") "keys"=pure none:=by rw [typeLookup_type,builtinLookup_eq_fast];kernel_rfl
section
variable {prog:XZ}{w:World}{A:Around}{E:XQ}{s:170}
theorem JD (hx:s.heap.get? a=some { cls:=.type "list",dict:=none,data:=.seq xs k,slots:=sl }) (hA:A.handled=none)
  (h:∀ h' tk,(∀ b ob,s.heap.get? b=some ob->h'.get? b=some ob)->Q none { s with heap:=h',toks:=tk }) :
  wpAny 137 A (getAttr? (.ref a) "keys") Q E s:=by
 obtain ⟨hp,g,d,tk,os⟩:=s;have hT:∀ tk',(⟨hp,g,d,tk',os⟩:Shared).TypeIs (.ref a) "list":=λ _=>⟨_,hx,rfl⟩;have f1:=sub_AttributeError;have f3:=F.slot_list_getattribute.lookup;have f4:=F.slot_list_getattribute.bind (.ref a);have f5:=am_list_getattr_none;have hname:(["__module__","__name__","__qualname__","__doc__","__annotations__"]:List Str).contains "keys"=false:=by decide +kernel
 have hsz:(Str.ofString "keys").length+100<=sizeLine:=by decide +kernel
 unfold getAttr? getAttrBy? getAttrBy
 repeat (any_goals (first | assumption | exact hT _ | ((with_reducible show wpAny _ _ (call (Value.builtin "list.__getattribute__") _ _) _ _ _);refine call_meets F.slot_list_getattribute (hT _) am_entry_list_getattribute (F.args_list_getattribute_2 _ _) (meets_getattribute_miss_list a xs k sl "keys" _ QZ hname hsz) ⟨hx,hA,λ h' tk' e hx'=>?_⟩) | wp_step))
 obtain ⟨t',u',he⟩:=hx'.there;show wpAny _ _ (getattributeRaised _ _ _ _ _ _ _) _ _ _;unfold getattributeRaised
 repeat (any_goals (first | assumption | wp_step))
 exact h _ _ hx'.keeps
end
section
variable {prog:XZ}{w:World}{A:Around}{R:Result->Shared->Prop}{I:Addr}{fp wr:XV}{G:Array GenState->Array GenState->Prop}{n:Nat}{P:Nat->Value->Prop}{St:Nat->Shared->Prop}{K:Type}[DecidableEq K]{knd:KeyKind prog w K}
def Two (h:Heap)(a:Addr)(x y:Value):Prop:=∃ o n,h.get? a=some o/\o.cls=.type "tuple"/\o.data=.seq #[x,y] n
theorem Ur (kvs:List (K×Value)):∀ (more:List (K×Value)),(merged kvs more).length<=kvs.length+more.length:=by
 intro more
 induction more generalizing kvs with
 | nil=>exact Y04 _
 | cons p r ih =>
  have h1:=ih (stored kvs p.1 p.2);have h2:(stored kvs p.1 p.2).length<=kvs.length+1:=by
   unfold stored
   split
   ·rw [Y08];exact Y2u _
   ·rw [Y01];exact Y04 _
  show (merged (stored kvs p.1 p.2) r).length<=_;rw [Y03];omega
theorem GH (W:WalksS prog w A.in1 I fp wr G n P St)(D:Addr)(hDf:D∉fp)(more:List (K×Value))(hn:n<=1000000)(hml:more.length=n)(s₀:170)
  (hval:∀ (i:Nat) (v:Value),P i v->∃ a kv vv k,v=.ref a/\a∉D::wr/\Two s₀.heap a kv vv/\more[i]?=some (k,vv)/\knd.is k kv=true) :
  ∀ (k i:Nat) (s:170) (ti:Tok),n-i=k->i<=n->St i s->Moved (D::wr) G s₀ s->s.heap.DictOf knd D (merged [] (more.take i)) ->
   (∀ s',Moved (D::wr) G s₀ s'->s'.heap.DictOf knd D (merged [] more)->R (.ok (.ret .none)) s') ->
   codeAny 137 A (.builtin "dict.update.loop" ⟨[.ref D,.ref I,.int (i:Nat) ti,.none],[]⟩) R s:=by
 have hDw:=λ h=>hDf (W.sub _ h);have hsub:∀ b∈wr,b∈D::wr:=λ b hb=>Y06 _ hb;intro k
 induction k with
 | zero =>
  intro i s ti hk hi hst mv hS hR;have hin:i=n:=by omega
  subst hin;refine codeAny_builtin jo ?_;rw [Around.under_plainId zN _];show wpAny _ A.in1 (pyNext (.ref I) >>= _) _ _ s;refine wpAny_bind (W.done s _ _ hst λ s' hm=>?_);show wpAny _ A.in1 (Builtin.Dict.addKeywords D [] >>= λ _=>ret Value.none) _ _ s';refine wpAny_bind (wpAny_pure (wpAny_pure (hR s' (mv.trans W.gtrans (hm.mono hsub)) ?_)));rw [<- hml,List.take_length] at hS;obtain ⟨o,es,ep,ho,r⟩:=hS;exact ⟨o,es,ep,hm.heap D _ hDw ho,r⟩
 | succ k ih =>
  intro i s ti hk hi hst mv hS hR;have hlt:i<n:=by omega
  refine codeAny_builtin jo ?_;rw [Around.under_plainId zN _];show wpAny _ A.in1 (pyNext (.ref I) >>= _) _ _ s;refine wpAny_bind (W.item i s _ _ hlt hst λ v s' hP hst' hm=>?_);obtain ⟨a,kv,vv,kk,rfl,ha,⟨o,n',ho,hoc,hod⟩,hmi,hkk⟩:=hval i v hP;have mv':=mv.trans W.gtrans (hm.mono hsub);have ho':=mv'.heap a o ha ho;have hS':s'.heap.DictOf knd D (merged [] (more.take i)):=by
   obtain ⟨o,es,ep,ho,r⟩:=hS;exact ⟨o,es,ep,hm.heap D _ hDw ho,r⟩
  have hT:s'.TypeIs (.ref a) "tuple":=⟨_,ho',hoc⟩;refine wpAny_bind (wpAny_holding ?_);have pr:∀ {Q:List Value->Shared->Prop}{E:XQ},Q [kv,vv] s'->wpAny 137 A.in1 (Builtin.Dict.pairItems (.ref a)) Q E s':=λ {Q E} q=>by
   unfold Builtin.Dict.pairItems;refine wpAny_bind (wpAny_typeOf hT ?_);rw [if_pos 123];exact wpAny_bind (wpAny_seqItems ho' hod (wpAny_pure q))
  refine wpAny_bind (wpAny_tryCatch (pr ?_));show wpAny _ A.in1 (holding [kv,vv] (dictSet D kv vv)) _ _ s';refine wpAny_holding (wpAny_dictSet_pairs hkk hS' (λ h' hd' hsb=>?_) ?_)
  ·refine wpAny_pure ⟨plainId_quiet zN _,?_⟩;have e:((i:Int)+1)=((i+1:Nat):Int):=rfl;show codeAny _ A (.builtin "dict.update.loop" ⟨[.ref D,.ref I,.int ((i:Int)+1) 0,.none],[]⟩) R _;rw [e];refine ih (i+1) _ 0 117 hlt (W.frame _ s' _ _ hst' (Y2u _) λ b hb o e=>?_) (mv'.then_heap (Y2u _) λ b o hb e=>?_) ?_ hR
   ·exact (hsb.2 b (λ h:b=D=>hDf (h▸hb))).trans e
   ·exact (hsb.2 b (λ h:b=D=>hb (h▸Y0c))).trans e
   ·rw [merged_take_succ _ _ _ _ hmi];exact hd'
  ·have h1:=Ur ([]:List (K×Value)) (more.take i);rw [Y1x,Y2r] at h1;rw [sizeLine_eq];omega
end
section
variable {prog:XZ}{w:World}{A:Around}{E:XQ}{s:170}{K:Type}[DecidableEq K]{knd:KeyKind prog w K}
theorem Zx {l:Addr}{items:XJ}{c:Nat}{sl:213}{more:List (K×Value)}{Q:XQ} (hh:A.handled=none) (hl:s.heap.get? l=some { cls:=.type "list",dict:=none,data:=.seq items c,slots:=sl }) (hn:items.size<=1000000) (hml:more.length=items.size)
  (hval:∀ (i:Nat) (v:Value),items[i]?=some v->∃ a kv vv k,v=.ref a/\Two s.heap a kv vv/\more[i]?=some (k,vv)/\knd.is k kv=true)
  (h:∀ h' tk,h'.DictOf knd s.heap.objs.size (merged [] more)->(∀ b o,s.heap.get? b=some o->h'.get? b=some o)->Q 233 { s with heap:=h',toks:=tk }) :
  wpAny 137 A (call (.type "dict") [.ref l]) Q E s:=by
 refine callType_codes (Q₁:=λ obj s₁=>obj=.ref s.heap.objs.size/\s₁={ s with heap:=s.heap.push { cls:=.type "dict",data:=.dict #[] } }) F.kt_called_dict (F.kt_typeCall_dict_1 _) F.entry_dict_init (kt_code_dict_new _ ⟨rfl,rfl⟩) ?_
 rintro obj s₁ ⟨rfl,rfl⟩
 have hnew:(s.heap.push { cls:=.type "dict",data:=.dict #[] }).DictOf knd s.heap.objs.size []:=Heap.DictOf.new s.heap;have hl1:(s.heap.push { cls:=.type "dict",data:=.dict #[] }).get? l=some { cls:=.type "list",dict:=none,data:=.seq items c,slots:=sl }:=Y02 _ hl;have hT:Shared.TypeIs { s with heap:=s.heap.push { cls:=.type "dict",data:=.dict #[] } } (.ref l) "list":=⟨_,hl1,rfl⟩;refine ⟨hnew.typeIs,F.args_dict_init_2 _ _,?_⟩;unfold Builtin.«dict.__init__»;refine wpAny_bind ?_;unfold Builtin.Dict.selfAndRest;refine wpAny_bind (wpAny_notOrdered_dict hnew.typeIs ?_);show wpAny _ _ (pure (s.heap.objs.size,[Value.ref l])) _ _ _;refine wpAny_pure ?_;show wpAny _ _ (Builtin.Dict.updateFrom "dict.__init__" s.heap.objs.size (.ref l) [] .none) _ _ _;unfold Builtin.Dict.updateFrom;refine wpAny_bind (wpAny_typeOf hT ?_);rw [if_pos 123];refine wpAny_bind (JD hl1 hh λ h1 t1 k1=>?_);rw [if_pos 123];refine wpAny_bind (wpAny_rule ?_);have hl2:h1.IsList l items:=⟨_,k1 _ _ hl1,rfl,c,rfl⟩;refine wpAny_bind (wpAny_pyIter_list hl2 ?_);have hlt:l<s.heap.objs.size:=Y0i hl;have sz1:s.heap.objs.size<h1.objs.size:=by
  obtain ⟨o,_,_,e,_⟩:=hnew;exact Y0i (k1 _ _ e)
 have hne:l≠h1.objs.size:=Y0m (Y3n hlt sz1);have old:∀ b o,s.heap.get? b=some o->h1.get? b=some o:=λ b o e=>k1 b o (Y02 _ e);refine wpAny_pure ⟨plainId_quiet zN _,?_⟩;have hDf:s.heap.objs.size∉[h1.objs.size,l]:=by
  simp only [Y0g,Y07,Y0w,or_false,not_or];exact ⟨Y0m sz1,Y1y hlt⟩
 refine GH (knd:=knd) ((Walks.list (A:=A.in1.in1) hh h1.objs.size l hne items).toS) s.heap.objs.size hDf more hn hml _ (λ i v hv=>?_) items.size 0 _ 0 117 (Y1w _) ⟨240,hl2.push _⟩ (Moved.refl λ _=>rfl) ?_ λ s' mv hd=>?_
 ·obtain ⟨a,kv,vv,k,e,⟨o,n',e1,e2,e3⟩,e4,e5⟩:=hval i v hv;have hla:=Y0i e1;refine ⟨a,kv,vv,k,e,?_,⟨o,n',Y02 _ (old a o e1),e2,e3⟩,e4,e5⟩;simp only [Y0g,Y07,Y0w,or_false,not_or];exact ⟨Y0m hla,Y0m (Y3n hla sz1)⟩
 ·obtain ⟨o,es,ep,ho,r⟩:=hnew;exact ⟨o,es,ep,Y02 _ (k1 _ _ ho),r⟩
 ·obtain ⟨h',g',d',tk',os'⟩:=s';have eg:g'=s.gens:=mv.gens;have ed:d'=s.drawn:=mv.drawn;have eo:os'=s.os:=mv.os;subst eg;subst ed;subst eo;refine ⟨rfl,h h' tk' hd λ b o e=>mv.heap b o ?_ (Y02 _ (old b o e))⟩;have hb:=Y0i e;simp only [Y0g,Y07,Y0w,or_false,not_or];exact ⟨Y0m hb,Y0m (Y3n hb sz1)⟩
end
section
variable {X:Cx}
theorem Y0 (I:127):∀ {ys:211}{kvs:List (Key×V)}{its:XU},Paired (λ (x:V) (kv:Key×V)=>∃ a,x=.ref a/\SqT X.K H a [kV kv.1,kv.2]) ys kvs->Vals ys its ->
  ∃ more:List (Key×Value),KV kvs more/\more.length=its.length/\∀ (i:Nat) (v:Value),its[i]?=some v->∃ a kv vv k,v=.ref a/\Two s.heap a kv vv/\more[i]?=some (k,vv)/\(zB X.prog X.w).is k kv=true
 | _,_,_,.nil,.nil=>⟨[],.nil,rfl,λ i v h=>by simp at h⟩
 | _,_,_,@Paired.cons _ _ _ x kv ys kvs h t,.cons (b:=u) r rr=>by
  obtain ⟨more,m1,m2,m3⟩:=Y0 I t rr;obtain ⟨a,rfl,q⟩:=h;have ru:=r;subst ru;obtain ⟨its2,r2,⟨o,e1,e2,n,e3⟩,_⟩:=I.tuple q;cases r2 with
  | @cons _ kvv _ _ ra rt =>
   cases rt with
   | @cons _ vv _ _ rb rn =>
    cases rn;refine ⟨(kv.1,vv)::more,.cons ⟨rfl,rb⟩ m1,by rw [Y03,Y03,m2],λ i v hv=>?_⟩;cases i with
    | zero =>
     have:v=.ref a:=by simpa using hv.symm
     subst this;exact ⟨a,kvv,vv,kv.1,rfl,⟨o,n,e1,e2,e3⟩,rfl,yo ra⟩
    | succ i=>exact m3 i v (by simpa using hv)
def rDP (K:Y00):List V->Hp->VK->Prop:=λ xs H Q=>∃ p ys kvs,xs=[.ref p]/\SqL K H p ys/\ys.length<=1000000/\Paired (λ (x:V) (kv:Key×V)=>∃ a,x=.ref a/\SqT K H a [kV kv.1,kv.2]) ys kvs/\∀ l,H l=none->Q (.ref l) (upd H l (.dK (wL [] kvs)))
theorem Us (hc:X.calm=true):jd X (.type "dict") (rDP X.K):=by
 rintro pins s σ H xs us Q I r ⟨p,ys,kvs,rfl,hl,hn,hp,q⟩
 cases r with
 | cons r rr =>
  cases rr;cases r;obtain ⟨its,rv,⟨o,n,e1,e2,e3,e4⟩,hz⟩:=I.list hl;obtain ⟨c,dct,dat,sl⟩:=o;simp only at e2 e3 e4;subst e2 e3 e4;obtain ⟨more,m1,m2,m3⟩:=Y0 I hp rv;have hle:=rv.length;have hkl:=hp.length.symm;refine Zx (I.ok.hd hc) e1 (by simp only [Y0e];omega) (by simp only [Y0e];exact m2) (λ i v hv=>m3 i v (by simpa using hv)) λ h' tk dd old=>?_;have hz:(wL [] kvs).length<=sizeLine:=by
   have h1:=wg kvs [];rw [Y1x] at h1;rw [sizeLine_eq];omega
  exact ⟨.ref _,_,I.laid old 176 (Uf hz (beq_eq_false_iff_ne.mpr (Ne.symm (Y0m I.big))) (m1.merge .nil) dd),rfl,q _ (I.hok.fresh 176)⟩
end
section
variable {prog:XZ}{w:World}{A:Around}{E:XQ}{s:170}
theorem W9 (hne:t≠it):∀ (n i:Nat) (s:170) (Q:List Value->Shared->Prop),s.heap.IsListIter it t i->s.heap.IsList t items->i+n<=items.size ->
  (∀ h',h'.IsListIter it t (i+n)->Heap.SameBut it s.heap h'->Q ((items.toList.drop i).take n) { s with heap:=h' })->wpAny 137 A (draw (.ref it) n) Q E s
 | 0,i,s,Q,hit,_,_,hQ=>by
  show wpAny _ _ (pure []) Q E s;exact wpAny_pure (by simpa using hQ s.heap hit (Heap.SameBut.refl ..))
 | n+1,i,s,Q,hit,ht,hle,hQ=>by
  have hlt:i<items.size:=by omega
  show wpAny _ _ (pyNext (.ref it) >>= _) Q E s;refine wpAny_bind (wpAny_pyNext_list_item hit ht (x:=items[i]) (by simp [hlt]) λ h₁ hit₁ hs₁=>?_);refine wpAny_bind (wpAny_holding (W9 hne n (i+1) _ _ hit₁ (ht.extBut hs₁.extBut hne) 117 λ h₂ hit₂ hs₂=>wpAny_pure ?_));have hd:items.toList.drop i=items[i]::items.toList.drop (i+1):=by simp [Y2d,hlt]
  have:=hQ h₂ (by rw [show i+(n+1)=i+1+n by omega];exact hit₂) (hs₁.trans hs₂)
  rw [hd,List.take_succ_cons] at this;exact this
theorem yU (hh:A.handled=none)(ht:s.heap.IsList t items)
  (hQ:∀ h',Heap.ExtBut s.heap.objs.size s.heap h'->Q items.toList { s with heap:=h' }):wpAny 137 A (unpackItems (.ref t) items.size none) Q E s:=by
 have hlt:t≠s.heap.objs.size:=by obtain ⟨o,ho,_⟩:=ht;exact Y0m (Y0i ho)
 unfold unpackItems;refine wpAny_bind ?_;unfold notIterableAtAll;refine wpAny_bind (wpAny_specialOf ht.typeIs slot_list_iter.lookup ?_);refine wpAny_pure ?_;simp only [Y1q,if_false];refine wpAny_bind (wpAny_holding (wpAny_pyIter_list ht ?_));refine wpAny_bind (wpAny_holding (W9 hlt items.size 0 _ _ 240 (ht.push _) 117 λ h₁ hit₁ hs₁=>?_));have hall:List.take items.size (List.drop 0 items.toList)=items.toList:=by
  rw [List.drop_zero];exact Y2j 133
 rw [hall];rw [if_neg 133];have ht₁:=(ht.push _).extBut hs₁.extBut hlt;refine wpAny_bind (wpAny_holding (wpAny_pyNext_list_end hh hit₁ ht₁ 133 λ h₂ he₂=>?_));simp only [Option.isSome_none,Y1q,if_false];exact wpAny_pure (hQ h₂ λ b o hb e=>he₂ b o hb (hs₁.extBut b o hb (Y02 _ e)))
theorem yq {x1}(hh:A.handled=none)(ht:s.heap.IsList t items)
  (hn:(assignEach elts env).length=items.size) (hstar:(assignEach elts env).findIdx? (·.1)=none)
  (h:∀ h',Heap.ExtBut s.heap.objs.size s.heap h'->wpAny 137 A (assignInOrder ((assignEach elts env).map (·.2)) items.toList) Q E { s with heap:=h' }) :
  wpAny 137 A (assign (.Tuple elts x1 pos) env (.ref t)) Q E s:=by
 rw [arm_assign_Tuple];refine wpAny_bind (wpAny_standAt ?_);unfold unpack;rw [hn,hstar];exact wpAny_bind (wpAny_holding (yU hh ht h))
end
section
variable {X:Cx}{pos:Pos}
def gTL (K:Y00)(n:Nat)(t:TGs):TG:=λ v σ H Q=>∃ a xs,v=.ref a/\(SqT K H a xs\/SqL K H a xs)/\xs.length=n/\t xs σ H Q
theorem z21 (hc:X.calm=true)(h:PGs X es t)
  (hn:(assignEach es X.env).length=n:=by rfl) (hst:(assignEach es X.env).findIdx? (·.1)=none:=by rfl):PG X (.Tuple es k pos) (gTL X.K n t):=by
 intro pins s σ H v u Q I r hw;obtain ⟨a,xs,e1,hq,hl,hw⟩:=hw;subst e1;rcases hq with hq | hq
 ·exact OG hc h hn hst pins s σ H _ u Q I r ⟨a,xs,rfl,hq,hl,hw⟩
 cases r;obtain ⟨its,rv,⟨o,c,e1,e2,e3,e4⟩,hz⟩:=I.list hq;refine yq (I.ok.hd hc) ⟨o,e1,e2,c,e4⟩ (by simp [hn,<- hl,rv.length]) hst λ h' hx=>?_;have I1:Inv X pins σ H { s with heap:=h' }:=I.kept λ b o e=>hx b o (Y0m (Y0i e)) e
 exact h pins _ σ H xs _ Q I1 (by simpa using rv) hw
end
def ZU:V->Bool
 | .non=>true
 | _=>false
def z5y (K:Y00):R2:=λ x y H Q=>∃ p xs,x=.non/\y=.ref p/\(SqL K H p xs\/SqT K H p xs)/\(∀ v∈xs,jJ v=true\/∃ a ts,v=.ref a/\SqT K H a ts)/\Q (.bl (xs.any ZU)) H
section
variable {X:Cx}
theorem z5z {K:Y00}(r:RelV v u)(f:jJ v=true\/∃ a ts,v=.ref a/\SqT K H a ts):eqU .non u=ZU v:=by
 rcases f with f | ⟨a,ts,rfl,_⟩
 ·rw [WK r f];cases v<;>first | rfl | exact absurd (show false=true from f) Y0y
 ·cases r;rfl
theorem WR {K:Y00}:∀ {xs:211}{us:XU},Vals xs us->(∀ v∈xs,jJ v=true\/∃ a ts,v=.ref a/\SqT K H a ts)->us.any (eqU .non)=xs.any ZU
 | _,_,.nil,_=>rfl
 | y::xs,u::us,.cons r t,f=>by
  rw [Y1t,Y1t,z5z r (f y (Y0c ..)),WR t λ v hv=>f v (Y06 _ hv)]
theorem WS (I:127)(hu:A.units<cLine):∀ {xs:211}{us:XU},Vals xs us->(∀ v∈xs,jJ v=true\/∃ a ts,v=.ref a/\SqT X.K H a ts)->∀ u∈us,SeqAt.EqAt A s u .none (eqU .non u)
 | _,_,.nil,_=>λ u hu=>by cases hu
 | y::xs,u::us,.cons r t,f=>λ u' hu'=>by
  rcases Y0g.mp hu' with rfl | hu'
  ·rcases f y (Y0c ..) with fy | ⟨a,ts,rfl,sq⟩
   ·rw [WK r fy];exact OV r (show RelV .non .none from rfl) fy rfl
   ·cases r;obtain ⟨its,_,pl,_⟩:=I.tuple sq;exact SeqAt.EqAt.tuple_none pl hu
  ·exact WS I hu t (λ v hv=>f v (Y06 _ hv)) u' hu'
theorem Ut (hu:X.A.in1.units<cLine):OpR X (compareOp .In) (z5y X.K):=by
 intro pins s σ H x y v u Q I rx ry h;obtain ⟨p,xs,rfl,rfl,hq,fs,q⟩:=h;cases rx;cases ry;rcases hq with hq | hq
 ·obtain ⟨its,r,pl,hz⟩:=I.list hq;refine SeqAt.in_listAt (eqU .non) pl.isList (λ w hw=>WS I hu r fs w (by simpa using hw)) ⟨.bl _,H,I,rfl,?_⟩;rw [show its.toArray.any (eqU .non)=its.any (eqU .non) by simp,WR r fs];exact q
 ·obtain ⟨its,r,pl,hz⟩:=I.tuple hq;refine SeqAt.in_tupleAt (eqU .non) pl (λ w hw=>WS I hu r fs w (by simpa using hw)) ⟨.bl _,H,I,rfl,?_⟩;rw [show its.toArray.any (eqU .non)=its.any (eqU .non) by simp,WR r fs];exact q
end
end L2
namespace L2
open PySem PySem.W PySem.Spec PyProof.Rows PySem.Calls PySem.Builtin PySem.Builtin.ObjectAttr PySem.Builtin.Getset_descriptor
structure ExC (K:Y00)(C:Addr):Prop where
 ga:findIn K (.ref C) "__getattribute__"=some (some (.builtin "BaseException.__getattribute__"))
 ng:findIn K (.ref C) "__getattr__"=some none
 cl:findIn K (.ref C) "__class__"=some (some 180)
 bx:mroIn K C (.type "BaseException")=some true
 ob:mroIn K C (.type "object")=some true
 is:(clsIn K C).isSome=true
end L2
namespace L2
open PySem PySem.Spec PyProof.Rows
def Bj (C:Addr)(sp:Sp)(Z:ZK)(t:TA):TE:=λ σ H Q=>t σ H λ vs H1=>∀ x dx,H1 x=none->H1 dx=none->dx≠x ->
 sp (.ref x::vs) (upd (upd H1 dx (.own x)) x (.ins C dx [])) (λ v H2=>v=.non/\Q (.ref x) H2) (λ C _ H'=>Z σ C H')
section
variable {X:Cx}{k:Nat}{f C:Addr}{fd:FuncData}{ps:XY}{sp:Sp}{Z:ZK}{x:Str}{p pos:Pos}{e:Expr}{es:List Expr}{t:TA}
theorem GI (M:Mk X.K C f)(F:244)(hr:Room (k+1) X.A)(hb:Binds X.K fd ps [])
  (th:Thr X Z) (I:127) (r:Vals vs us)
  (h:∀ x dx,H x=none->H dx=none->dx≠x->sp (.ref x::vs) (upd (upd H dx (.own x)) x (.ins C dx [])) (λ v H2=>v=.non/\Q (.ref x) H2) (λ C _ H'=>Z σ C H')) :
  wpAny 130 X.A (call (.ref C) us) (EP X pins σ Q) X.xe s:=by
 have hq:=h 179 s.heap.objs.size (I.hok.fresh (Y2u _)) (I.hok.fresh 176) (Y0m (Y2e _));have I2:=Inv.made (C:=C) I;have r2:Vals (V.ref 179::vs) (Value.ref 179::us):=.cons rfl r;have hl:((Value.ref 179::us)++[]).length=ps.length:=by
  have e:=r2.length;rw [F.len _ _ _ _ hq] at e;rw [Y0a];exact e.symm
 have hb2:=hb _ (Value.ref 179::us) I2.kIn hl;rw [Y0a] at hb2;refine wpAny_call (OP I.kIn M.makes M.init (beq_iff_eq.mp M.fn) (codeAny_mono (F.run _ X.stack _ _ ⟨Value.ref 179::us,[]⟩ (Value.ref 179::us) _ _ _ (hr.make C us [])
  (I2.env0.make C us []) hb2 r2 hq) λ r s' hq'=>?_))
 cases r with
 | error e=>exact False.elim hq'
 | ok fl =>
  cases fl with
  | ret u =>
   obtain ⟨v,H',I3,rv,ev,q3⟩:=I2.after hq';subst ev;exact ⟨rv,⟨V.ref 179,H',I3,rfl,q3⟩⟩
  | next=>exact False.elim hq'
  | brk=>exact False.elim hq'
  | cont=>exact False.elim hq'
theorem Bl (M:Mk X.K C f)(F:244)(hr:Room (k+1) X.A)(hg:Gl X x)(hm:X.mg x=some (.ref C))(hb:Binds X.K fd ps [])(th:Thr X Z)
  (ha:PA X (e::es) t) (hdb:175=false:=by decide) (he:starEach (e::es) X.env=(false,eval e X.env)::starEach es X.env:=by rfl) (hpl:(backTo pos (starEach es X.env)).any (·.1)=false:=by rfl) :
  PE X (.Call (.Name x p) (e::es) [] pos) (Bj C sp Z t):=by
 intro pins s σ H Q I h;refine wpAny_Call_Name_kw (WG I hg hm ?_ hdb);refine Y3h I.ok.mod.kin M.kp (thn (ha pos pins s σ H _ I h) λ us s1 ⟨vs,H1,I1,r,q⟩=>⟨I1.kIn,?_⟩) he hpl;exact GI M F hr hb th I1 r q
end
def z60 (X:Cx)(Z:ZK)(tf:TE)(t:TA):TE:=λ σ H Q=>tf σ H λ v H1=>∃ f k fd ps sp,v=.ref f/\FnOk X.prog X.w X.K X.mg X.base (CXs X.prog X.w) k f fd ps sp/\Room k X.A/\PySem.W.keepIn X.K (.ref f)=true/\Binds X.K fd ps [] /\
 t σ H1 λ vs H2=>sp vs H2 Q (λ C _ H'=>Z σ C H')
section
variable {X:Cx}{Z:ZK}{o i e:Expr}{p pos:Pos}{es:List Expr}{tf:TE}{t:TA}
theorem Bm (hf:PE X (.Subscript o i p) tf)(th:Thr X Z)(ha:PA X (e::es) t)(he:starEach (e::es) X.env=(false,eval e X.env)::starEach es X.env:=by rfl)(hpl:(backTo pos (starEach es X.env)).any (·.1)=false:=by rfl) :
  PE X (.Call (.Subscript o i p) (e::es) [] pos) (z60 X Z tf t):=by
 intro pins s σ H Q I h;have arm:eval (.Call (.Subscript o i p) (e::es) [] pos) X.env=(do callWith pos (<- eval (.Subscript o i p) X.env) [] (backTo pos (starEach (e::es) X.env)) (backToKw pos (keywordEach [] X.env))):=rfl;rw [arm];refine wpAny_bind (thn (hf pins s σ H _ I h) λ u s1 ⟨v,H1,I1,rv,q⟩=>?_);obtain ⟨f,k,fd,ps,sp,rfl,F,hr,hk,hb,q⟩:=q;cases (show u=Value.ref f from rv);refine Y3h I1.ok.mod.kin hk (thn (ha pos pins s1 σ H1 _ I1 q) λ us s2 ⟨vs,H2,I2,r,q2⟩=>⟨I2.kIn,?_⟩) he hpl;exact Vq F hr hb .nil th I2 r (by rw [Y0a];exact q2)
end
abbrev jW (h:Heap)(z TI TO:Addr)(f0:Value)(f1:Bool):Prop :=
 h.get? z=some { cls:=.type "zip",dict:=none,data:=.fields #[f0,.bool f1,.bool false,.ref TI,.ref TO],slots:=#[] }
def okF (f0:Value):Prop:=f0=.none\/∃ a t,f0=.int a t
section
variable {prog:XZ}{w:World}{A:Around}{E:XQ}{s:170}
theorem Ya {z TI TO:Addr}{f0:Value}{f1:Bool}{Q:Bool->Shared->Prop}(hz:jW s.heap z TI TO f0 f1)(ok:okF f0)(hT:Q true s)(hF:∀ h',jW h' z TI TO f0 true->Heap.SameBut z s.heap h'->Q false { s with heap:=h' }) :
  wpAny 137 A (Builtin.SmallTypes.ownedTupleIsFree (.ref z)) Q E s:=by
 unfold Builtin.SmallTypes.ownedTupleIsFree;refine wpAny_bind (wpAny_field hz rfl (x:=f0) rfl ?_);rcases ok with rfl | ⟨a,t,rfl⟩
 ·exact wpAny_pure hT
 ·show wpAny _ _ (loadIfAlive a.toNat >>= _) _ _ _;refine wpAny_bind ?_;cases e:s.heap.get? a.toNat with
  | none =>
   have al:∀ {Q:Option Obj->Shared->Prop},Q none s->wpAny 137 A (loadIfAlive a.toNat) Q E s:=λ {Q} h=>by
    have h':Q (s.heap.get? a.toNat) s:=by rw [e];exact h
    exact λ _ _ _=>h'
   exact al (wpAny_pure hT)
  | some o =>
   refine PySem.W.kdx_alive e ?_;show wpAny _ _ (field (.ref z) 1 >>= _) _ _ _;refine wpAny_bind (wpAny_field hz rfl (x:=.bool f1) rfl ?_);cases f1 with
   | true=>exact wpAny_pure (by have:=hF s.heap hz ⟨rfl,λ _ _=>rfl⟩;exact this)
   | false =>
    show wpAny _ _ (setField (.ref z) 1 (.bool true) >>= _) _ _ _;refine wpAny_bind (wpAny_setField_rec hz 133 λ h₁ hz₁ hs₁=>wpAny_pure (hF h₁ hz₁ hs₁))
theorem ZV {z TI TO i1 i2 l1 l2:Addr}{k1 k2:Nat}{xs ys:XJ}{x y a b f0:Value}{f1:Bool}{Q:XQ}(D:ZipApart z TI TO i1 i2 l1 l2)
  (hz:jW s.heap z TI TO f0 f1) (ok:okF f0) (hTI:IsPair s.heap TI (.ref i1) (.ref i2)) (hTO:IsPair s.heap TO a b)
  (h1:SIt s.heap i1 l1 k1 xs) (h2:SIt s.heap i2 l2 k2 ys) (hx:xs[k1]?=some x) (hy:ys[k2]?=some y)
  (hQ:∀ h' g0 g1,jW h' z TI TO g0 g1->okF g0->(∃ a b,IsPair h' TO a b)->SIt h' i1 l1 (k1+1) xs->SIt h' i2 l2 (k2+1) ys->IsPair h' s.heap.objs.size x y ->
   (∀ c o,c≠z->c≠TO->c≠i1->c≠i2->s.heap.get? c=some o->h'.get? c=some o)->Q 233 { s with heap:=h' }) :
  wpAny 137 A (Builtin.«zip.__next__» ⟨[.ref z],[]⟩) (λ fin s'=>∃ v,fin=.done (.ret v)/\Q v s') E s:=by
 show wpAny _ _ (field (.ref z) 2 >>= _) _ _ _;refine wpAny_bind (wpAny_field hz rfl (x:=.bool false) rfl ?_);show wpAny _ _ (field (.ref z) 3 >>= _) _ _ _;refine wpAny_bind (wpAny_field hz rfl (x:=.ref TI) rfl ?_);refine wpAny_bind (wpAny_seqItems hTI rfl ?_);show wpAny _ _ (Builtin.SmallTypes.ownedTupleIsFree (.ref z) >>= _) _ _ _;refine wpAny_bind (Ya hz ok ?_ λ h0 hz0 hs0=>?_)
 ·simp only [if_true];refine wpAny_bind (wpAny_rule ?_);refine wpAny_bind (wpAny_field hz rfl (x:=.ref TO) rfl ?_);refine wpAny_bind (wpAny_setField_rec hz 133 λ h₁ hz₁ hs₁=>?_);replace hz₁:jW h₁ z TI TO .ellipsis f1:=hz₁;refine wpAny_bind ?_;simp only [List.zipIdx_cons,List.zipIdx_nil,Y2v,Y2w];refine wpAny_bind (wpAny_bind (wpAny_onRaise ?_));show wpAny _ _ (Builtin.SmallTypes.nextOf (.ref i1) >>= _) _ _ _;refine wpAny_bind (jk D.l1i1 (h1.ext hs₁.extBut D.i1z D.l1z) hx λ h₂ h1₂ hs₂=>wpAny_pure ?_);have hTO₂:IsPair h₂ TO a b:=hs₂.extBut _ _ D.TOi1 (hs₁.extBut _ _ D.TOz hTO);refine wpAny_bind (wpAny_seqItems hTO₂ rfl ?_);refine wpAny_bind (wpAny_updateSeq_pair hTO₂ λ h₃ hTO₃ hs₃=>?_);replace hTO₃:IsPair h₃ TO x b:=hTO₃;refine wpAny_bind (wpAny_letGo (wpAny_pure ?_));refine wpAny_bind (wpAny_bind (wpAny_onRaise ?_));show wpAny _ _ (Builtin.SmallTypes.nextOf (.ref i2) >>= _) _ _ _;refine wpAny_bind (jk D.l2i2 (((h2.ext hs₁.extBut D.i2z D.l2z).ext hs₂.extBut D.i12.symm D.l2i1).ext hs₃.extBut D.TOi2.symm D.l2TO) hy λ h₄ h2₄ hs₄=>wpAny_pure ?_);have hTO₄:IsPair h₄ TO x b:=hs₄.extBut _ _ D.TOi2 hTO₃;refine wpAny_bind (wpAny_seqItems hTO₄ rfl ?_);refine wpAny_bind (wpAny_updateSeq_pair hTO₄ λ h₅ hTO₅ hs₅=>?_);replace hTO₅:IsPair h₅ TO x y:=hTO₅;refine wpAny_bind (wpAny_letGo (wpAny_pure (wpAny_pure ?_)));refine wpAny_bind (wpAny_seqItems hTO₅ rfl ?_);refine wpAny_bind (wpAny_newTuple ?_);have hsz:h₅.objs.size=s.heap.objs.size:=by rw [hs₅.1,hs₄.1,hs₃.1,hs₂.1,hs₁.1]
  have hz₅:jW h₅ z TI TO .ellipsis f1:=hs₅.extBut _ _ D.TOz.symm (hs₄.extBut _ _ D.i2z.symm (hs₃.extBut _ _ D.TOz.symm (hs₂.extBut _ _ D.i1z.symm hz₁)));have hk₅:∀ c o,c≠z->c≠TO->c≠i1->c≠i2->s.heap.get? c=some o->h₅.get? c=some o:=λ c o c1 c2 c3 c4 e =>
   hs₅.extBut _ _ c2 (hs₄.extBut _ _ c4 (hs₃.extBut _ _ c2 (hs₂.extBut _ _ c3 (hs₁.extBut _ _ c1 e))))
  have h1₅:SIt h₅ i1 l1 (k1+1) xs:=((h1₂.ext hs₃.extBut D.TOi1.symm D.l1TO).ext hs₄.extBut D.i12 D.l1i2).ext hs₅.extBut D.TOi1.symm D.l1TO;have h2₅:SIt h₅ i2 l2 (k2+1) ys:=h2₄.ext hs₅.extBut D.TOi2.symm D.l2TO;have hzlt:z<h₅.objs.size:=Y0i hz₅;show wpAny _ _ (Builtin.SmallTypes.ownedTupleHandOut (.ref z) (.ref h₅.objs.size) >>= _) _ _ _;refine wpAny_bind ?_;unfold Builtin.SmallTypes.ownedTupleHandOut;have hz₆:jW (h₅.push { cls:=.type "tuple",data:=.seq #[x,y] }) z TI TO .ellipsis f1:=Y02 _ hz₅;refine wpAny_bind (wpAny_setField_rec hz₆ 133 λ h₇ hz₇ hs₇=>?_);replace hz₇:jW h₇ z TI TO (rawInt h₅.objs.size) f1:=hz₇;refine wpAny_setField_rec hz₇ 133 λ h₈ hz₈ hs₈=>?_;replace hz₈:jW h₈ z TI TO (rawInt h₅.objs.size) false:=hz₈;have up:∀ c o,c≠z->h₅.get? c=some o->h₈.get? c=some o:=λ c o c1 e=>hs₈.extBut _ _ c1 (hs₇.extBut _ _ c1 (Y02 _ e));have hT₈:IsPair h₈ h₅.objs.size x y:=hs₈.extBut _ _ (Y1y hzlt) (hs₇.extBut _ _ (Y1y hzlt) (Y0h _ rfl));rw [hsz] at hz₈ hT₈;refine wpAny_pure ⟨_,rfl,?_⟩;show Q (.ref h₅.objs.size) _;rw [hsz];exact hQ h₈ _ _ hz₈ (.inr ⟨_,_,rfl⟩) ⟨x,y,up _ _ D.TOz hTO₅⟩ (h1₅.move (λ o e=>up _ o D.i1z e) (λ o e=>up _ o D.l1z e)) (h2₅.move (λ o e=>up _ o D.i2z e) (λ o e=>up _ o D.l2z e)) hT₈ λ c o c1 c2 c3 c4 e=>up c o c1 (hk₅ c o c1 c2 c3 c4 e)
 ·simp only [Y1q,if_false];refine wpAny_bind ?_;simp only [List.forIn_toArray,Y2v,Y2w];refine wpAny_bind (wpAny_bind (wpAny_holding ?_));show wpAny _ _ (Builtin.SmallTypes.nextOf (.ref i1) >>= _) _ _ _;refine wpAny_bind (jk D.l1i1 (h1.ext hs0.extBut D.i1z D.l1z) hx λ h₂ h1₂ hs₂=>wpAny_pure (wpAny_pure ?_));refine wpAny_bind (wpAny_bind (wpAny_holding ?_));show wpAny _ _ (Builtin.SmallTypes.nextOf (.ref i2) >>= _) _ _ _;refine wpAny_bind (jk D.l2i2 ((h2.ext hs0.extBut D.i2z D.l2z).ext hs₂.extBut D.i12.symm D.l2i1) hy λ h₄ h2₄ hs₄=>wpAny_pure (wpAny_pure (wpAny_pure ?_)));refine wpAny_bind (wpAny_newTuple (wpAny_pure ⟨_,rfl,?_⟩) (by show 2<=sizeLine;rw [sizeLine_eq];decide));have hsz:h₄.objs.size=s.heap.objs.size:=by rw [hs₄.1,hs₂.1,hs0.1]
  have hz₄:jW h₄ z TI TO f0 true:=hs₄.extBut _ _ D.i2z.symm (hs₂.extBut _ _ D.i1z.symm hz0);have up:∀ c o,h₄.get? c=some o->(h₄.push { cls:=.type "tuple",data:=.seq #[x,y] }).get? c=some o:=λ c o e=>Y02 _ e;have hk:∀ c o,c≠z->c≠TO->c≠i1->c≠i2->s.heap.get? c=some o->h₄.get? c=some o:=λ c o c1 c2 c3 c4 e=>hs₄.extBut _ _ c4 (hs₂.extBut _ _ c3 (hs0.extBut _ _ c1 e));have h1₄:SIt h₄ i1 l1 (k1+1) xs:=h1₂.ext hs₄.extBut D.i12 D.l1i2;show Q (.ref h₄.objs.size) _;have T':IsPair (h₄.push { cls:=.type "tuple",data:=.seq #[x,y] }) h₄.objs.size x y:=Y0h _ rfl;rw [hsz] at T' ⊢;exact hQ _ _ _ (up _ _ hz₄) ok ⟨a,b,up _ _ (hs₄.extBut _ _ D.TOi2 (hs₂.extBut _ _ D.TOi1 (hs0.extBut _ _ D.TOz hTO)))⟩ (h1₄.move (λ o e=>up _ o e) (λ o e=>up _ o e)) (h2₄.move (λ o e=>up _ o e) (λ o e=>up _ o e)) T' λ c o c1 c2 c3 c4 e=>up c o (hk c o c1 c2 c3 c4 e)
theorem JE {z TI TO i1 i2 l1 l2:Addr}{k1 k2:Nat}{xs ys:XJ}{a b f0:Value}{f1:Bool}{Q:Fin->Shared->Prop}(hh:A.handled=none)(D:ZipApart z TI TO i1 i2 l1 l2)
  (hz:jW s.heap z TI TO f0 f1) (ok:okF f0) (hTI:IsPair s.heap TI (.ref i1) (.ref i2)) (hTO:IsPair s.heap TO a b)
  (h1:SIt s.heap i1 l1 k1 xs) (h2:SIt s.heap i2 l2 k2 ys) (hend:xs[k1]?=none\/ys[k2]?=none)
  (hE:∀ h' e,(∀ c o,c≠z->c≠TO->c≠i1->c≠i2->s.heap.get? c=some o->h'.get? c=some o)->(∃ o,h'.get? e=some o/\o.cls=.type "StopIteration")->E (.ref e) { s with heap:=h' }) :
  wpAny 137 A (Builtin.«zip.__next__» ⟨[.ref z],[]⟩) Q E s:=by
 show wpAny _ _ (field (.ref z) 2 >>= _) _ _ _;refine wpAny_bind (wpAny_field hz rfl (x:=.bool false) rfl ?_);show wpAny _ _ (field (.ref z) 3 >>= _) _ _ _;refine wpAny_bind (wpAny_field hz rfl (x:=.ref TI) rfl ?_);refine wpAny_bind (wpAny_seqItems hTI rfl ?_);show wpAny _ _ (Builtin.SmallTypes.ownedTupleIsFree (.ref z) >>= _) _ _ _;refine wpAny_bind (Ya hz ok ?_ λ h0 hz0 hs0=>?_)
 ·simp only [if_true];refine wpAny_bind (wpAny_rule ?_);refine wpAny_bind (wpAny_field hz rfl (x:=.ref TO) rfl ?_);refine wpAny_bind (wpAny_setField_rec hz 133 λ h₁ hz₁ hs₁=>?_);replace hz₁:jW h₁ z TI TO .ellipsis f1:=hz₁;refine wpAny_bind ?_;simp only [List.zipIdx_cons,List.zipIdx_nil,Y2v,Y2w];refine wpAny_bind (wpAny_bind (wpAny_onRaise ?_));show wpAny _ _ (Builtin.SmallTypes.nextOf (.ref i1) >>= _) _ _ _;cases hx:xs[k1]? with
  | none =>
   refine wpAny_bind (wN hh (h1.ext hs₁.extBut D.i1z D.l1z) hx λ h₂ e hs₂ he=>?_);obtain ⟨oe,hoe,hce⟩:=he;have hz₂:jW h₂ z TI TO .ellipsis f1:=hs₂ _ _ D.i1z.symm hz₁;have hez:e≠z:=λ x=>by subst x;rw [hz₂] at hoe;cases hoe;simp at hce
   refine wpAny_setField_rec hz₂ 133 λ h₃ _ hs₃=>hE h₃ e (λ c o c1 _ c3 _ x=>hs₃.extBut _ _ c1 (hs₂ _ _ c3 (hs₁.extBut _ _ c1 x))) ⟨oe,hs₃.extBut _ _ hez hoe,hce⟩
  | some x =>
   have hy:ys[k2]?=none:=by rcases hend with h | h;rw [hx] at h;cases h;exact h
   refine wpAny_bind (jk D.l1i1 (h1.ext hs₁.extBut D.i1z D.l1z) hx λ h₂ h1₂ hs₂=>wpAny_pure ?_);have hTO₂:IsPair h₂ TO a b:=hs₂.extBut _ _ D.TOi1 (hs₁.extBut _ _ D.TOz hTO);refine wpAny_bind (wpAny_seqItems hTO₂ rfl ?_);refine wpAny_bind (wpAny_updateSeq_pair hTO₂ λ h₃ hTO₃ hs₃=>?_);refine wpAny_bind (wpAny_letGo (wpAny_pure ?_));refine wpAny_bind (wpAny_bind (wpAny_onRaise ?_));show wpAny _ _ (Builtin.SmallTypes.nextOf (.ref i2) >>= _) _ _ _;refine wpAny_bind (wN hh (((h2.ext hs₁.extBut D.i2z D.l2z).ext hs₂.extBut D.i12.symm D.l2i1).ext hs₃.extBut D.TOi2.symm D.l2TO) hy λ h₄ e hs₄ he=>?_);obtain ⟨oe,hoe,hce⟩:=he;have hz₄:jW h₄ z TI TO .ellipsis f1:=hs₄ _ _ D.i2z.symm (hs₃.extBut _ _ D.TOz.symm (hs₂.extBut _ _ D.i1z.symm hz₁));have hez:e≠z:=λ x=>by subst x;rw [hz₄] at hoe;cases hoe;simp at hce
   refine wpAny_setField_rec hz₄ 133 λ h₅ _ hs₅=>hE h₅ e (λ c o c1 c2 c3 c4 x=>hs₅.extBut _ _ c1 (hs₄ _ _ c4 (hs₃.extBut _ _ c2 (hs₂.extBut _ _ c3 (hs₁.extBut _ _ c1 x))))) ⟨oe,hs₅.extBut _ _ hez hoe,hce⟩
 ·simp only [Y1q,if_false];refine wpAny_bind ?_;simp only [List.forIn_toArray,Y2v,Y2w];refine wpAny_bind (wpAny_bind (wpAny_holding ?_));show wpAny _ _ (Builtin.SmallTypes.nextOf (.ref i1) >>= _) _ _ _;cases hx:xs[k1]? with
  | none=>exact wpAny_bind (wN hh (h1.ext hs0.extBut D.i1z D.l1z) hx λ h₂ e hs₂ he=>hE h₂ e (λ c o c1 _ c3 _ x=>hs₂ _ _ c3 (hs0.extBut _ _ c1 x)) he)
  | some x =>
   have hy:ys[k2]?=none:=by rcases hend with h | h;rw [hx] at h;cases h;exact h
   refine wpAny_bind (jk D.l1i1 (h1.ext hs0.extBut D.i1z D.l1z) hx λ h₂ h1₂ hs₂=>wpAny_pure (wpAny_pure ?_));refine wpAny_bind (wpAny_bind (wpAny_holding ?_));show wpAny _ _ (Builtin.SmallTypes.nextOf (.ref i2) >>= _) _ _ _;exact wpAny_bind (wN hh ((h2.ext hs0.extBut D.i2z D.l2z).ext hs₂.extBut D.i12.symm D.l2i1) hy λ h₄ e hs₄ he=>hE h₄ e (λ c o c1 c2 c3 c4 x=>hs₄ _ _ c4 (hs₂.extBut _ _ c3 (hs0.extBut _ _ c1 x))) he)
theorem yV {z TI TO i1 i2 l1 l2:Addr}{k1 k2:Nat}{xs ys:XJ}{x y a b f0:Value}{f1:Bool}{Q:Option Value->Shared->Prop}(D:ZipApart z TI TO i1 i2 l1 l2)
  (hz:jW s.heap z TI TO f0 f1) (ok:okF f0) (hTI:IsPair s.heap TI (.ref i1) (.ref i2)) (hTO:IsPair s.heap TO a b)
  (h1:SIt s.heap i1 l1 k1 xs) (h2:SIt s.heap i2 l2 k2 ys) (hx:xs[k1]?=some x) (hy:ys[k2]?=some y)
  (hQ:∀ h' g0 g1,jW h' z TI TO g0 g1->okF g0->(∃ a b,IsPair h' TO a b)->SIt h' i1 l1 (k1+1) xs->SIt h' i2 l2 (k2+1) ys->IsPair h' s.heap.objs.size x y ->
   (∀ c o,c≠z->c≠TO->c≠i1->c≠i2->s.heap.get? c=some o->h'.get? c=some o)->Q (some 233) { s with heap:=h' }) :
  wpAny 137 A (pyNext (.ref z)) Q E s:=by
 have hT:s.TypeIs (.ref z) "zip":=⟨_,hz,rfl⟩;unfold pyNext;exact wpAny_bind (wpAny_attempt (wpAny_callSpecial?_slot (name:=Str.ofString "__next__") hT Y2m
  (wpAny_call_entry Y2m hT PySem.F.entry_zip_next
   (ZV D hz ok hTI hTO h1 h2 hx hy λ h' g0 g1 a1 a2 a3 a4 a5 a6 a7=>wpAny_pure (hQ h' g0 g1 a1 a2 a3 a4 a5 a6 a7)) (PySem.F.args_zip_next_1 _))))
theorem Zy {z TI TO i1 i2 l1 l2:Addr}{k1 k2:Nat}{xs ys:XJ}{a b f0:Value}{f1:Bool}{Q:Option Value->Shared->Prop}(hh:A.handled=none)(D:ZipApart z TI TO i1 i2 l1 l2)
  (hz:jW s.heap z TI TO f0 f1) (ok:okF f0) (hTI:IsPair s.heap TI (.ref i1) (.ref i2)) (hTO:IsPair s.heap TO a b)
  (h1:SIt s.heap i1 l1 k1 xs) (h2:SIt s.heap i2 l2 k2 ys) (hend:xs[k1]?=none\/ys[k2]?=none)
  (hQ:∀ h',(∀ c o,c≠z->c≠TO->c≠i1->c≠i2->s.heap.get? c=some o->h'.get? c=some o)->Q none { s with heap:=h' }):wpAny 137 A (pyNext (.ref z)) Q E s:=by
 have hT:s.TypeIs (.ref z) "zip":=⟨_,hz,rfl⟩;unfold pyNext;refine wpAny_bind (wpAny_attempt (wpAny_callSpecial?_slot (name:=Str.ofString "__next__") hT Y2m
  (wpAny_call_entry Y2m hT PySem.F.entry_zip_next (JE hh D hz ok hTI hTO h1 h2 hend λ h' e hk he=>?_) (PySem.F.args_zip_next_1 _))))
 obtain ⟨o,ho,hc⟩:=he;refine wpAny_bind (wpAny_isInstance (T:="StopIteration") (b:=true) ⟨o,ho,hc⟩ isSubtype_stop ?_);exact wpAny_pure (hQ _ hk)
end
def ZTm (z TI TO i1 i2 l1 l2:Addr)(b1 b2:Bool)(i:Nat)(h:Heap):Prop :=
 (∃ f0 f1,jW h z TI TO f0 f1/\okF f0)/\IsPair h TI (.ref i1) (.ref i2)/\(∃ a b,IsPair h TO a b)/\ItR h i1 l1 i b1/\ItR h i2 l2 i b2
theorem Yb {prog:XZ}{w:World}{A:Around}{E:XQ}{s:170}{z TI TO:Addr}{f0:Value}{f1:Bool}{Q:XQ}(hz:jW s.heap z TI TO f0 f1)(h:Q (.ref z) s):wpAny 137 A (pyIter (.ref z)) Q E s:=by
 have hT:s.TypeIs (.ref z) "zip":=⟨_,hz,rfl⟩;refine wpAny_pyIter_slot hT PySem.F.slot_zip_iter (wpAny_call_entry PySem.F.slot_zip_iter hT PySem.F.entry_zip_iter ?_ (PySem.F.args_zip_iter_1 _));exact wpAny_pure ⟨_,rfl,"zip",_,hT,PySem.F.slot_zip_next.lookup,h⟩
theorem z61 {prog:XZ}{w:World}{A:Around}{E:XQ}{s:170}{tg:Expr}{z TI TO T:Addr}{f0:Value}{f1:Bool}{Q:Unit->Shared->Prop}(hz:jW s.heap z TI TO f0 f1)(ok:okF f0)(hQ:∀ h' g0,jW h' z TI TO g0 f1->okF g0->Heap.SameBut z s.heap h'->Q () { s with heap:=h' }):wpAny 137 A (letOwnedTupleGo tg (.ref z) (.ref T)) Q E s:=by
 have same:wpAny 137 A (pure ()) Q E s:=wpAny_pure (hQ s.heap f0 hz ok ⟨rfl,λ _ _=>rfl⟩);have go:wpAny 137 A (do
   let o <- load z
   match o.cls,o.data with
   | .type n,.fields vs =>
    if ["enumerate","zip","dict_itemiterator","dict_reverseitemiterator","odict_iterator","itertools.zip_longest","itertools.pairwise"].contains n&&vs[0]?==some (rawInt T) then
     rule "for.unpacks-the-owned-tuple"
     updateField z 0 .none
   | _,_=>pure ()) Q E s:=by
  refine wpAny_bind (wpAny_load hz ?_);show wpAny _ _ (if _=true then _ else _) Q E s
  split
  ·refine wpAny_bind (wpAny_rule ?_);show wpAny _ _ (setField (.ref z) 0 .none) Q E s;exact wpAny_setField_rec hz 133 λ h' hz' hs'=>hQ h' .none hz' 206 hs'
  ·exact same
 unfold letOwnedTupleGo
 split
 ·exact go
 ·exact go
 ·exact same
theorem GJ {P:XZ}{w:World}{K:Y00}{tg:Expr}{z TI TO i1 i2 l1 l2:Addr}(D:ZipApart z TI TO i1 i2 l1 l2)(hT1:l1≠TI)(hT2:l2≠TI)(b1 b2:Bool)(n m:Nat) :
  Turn P w K tg (Itz K l1 l2 b1 b2 n m) [z,TI,TO,i1,i2] z (ZTm z TI TO i1 i2 l1 l2 b1 b2) where
 mem:=by simp
 obj:=λ i h st b hb=>by
  obtain ⟨⟨f0,f1,z0,okf⟩,zI,⟨a,c,zO⟩,t1,t2⟩:=st;have sq:∀ {i a k b},ItR h i a k b->∃ o,h.get? i=some o/\∀ v,o.data≠.cell v:=λ t=>by
   obtain ⟨o,vs,e,d⟩:=t.rec;exact ⟨o,e,λ v q=>by rw [d] at q;cases q⟩
  simp only [Y0g,Y0w,or_false] at hb;rcases hb with rfl | rfl | rfl | rfl | rfl
  ·exact ⟨_,z0,λ v q=>by cases q⟩
  ·exact ⟨_,zI,λ v q=>by cases q⟩
  ·exact ⟨_,zO,λ v q=>by cases q⟩
  ·exact sq t1
  ·exact sq t2
 keep:=λ i h h' st k=>by
  obtain ⟨⟨f0,f1,z0,okf⟩,zI,⟨a,c,zO⟩,t1,t2⟩:=st;exact ⟨⟨f0,f1,k z 133 _ z0,okf⟩,k TI 133 _ zI,⟨a,c,k TO 133 _ zO⟩,t1.at λ o e=>k i1 133 o e,t2.at λ o e=>k i2 133 o e⟩
 item:=by
  intro X hP hw hK hc i pins s σ H E I hf st hg;subst hP hw hK;obtain ⟨hi,hj,xs,ys,hx,hy,lx,ly⟩:=hg;obtain ⟨⟨f0,f1,z0,okf⟩,zI,⟨a,c,zO⟩,t1,t2⟩:=st;obtain ⟨its1,v1,k1,o1,n1,e1,d1⟩:=I.seqB hx;obtain ⟨its2,v2,k2,o2,n2,e2,d2⟩:=I.seqB hy;have S1:=k1 i1 i s.heap t1 λ _ e=>e;have S2:=k2 i2 i s.heap t2 λ _ e=>e;have gx:xs[i]?=some (xs[i]' 117):=Y0j _;have gy:ys[i]?=some (ys[i]' 117):=Y0j _;generalize xs[i]' 117=x at gx;generalize ys[i]' 117=y at gy;obtain ⟨u,hu,ru⟩:=v1.get gx;obtain ⟨v,hv,rv⟩:=v2.get gy;refine yV D z0 okf zI zO S1 S2 (x:=u) (y:=v) (by simpa using hu) (by simpa using hv) λ h' g0 g1 a1 okh a2 a3 a4 a5 a7=>?_;refine ⟨_,rfl,z61 (s:={ s with heap:=h' }) a1 okh λ h'' g0 q1 okg q2=>?_⟩;have up:∀ b o,b∉[z,TI,TO,i1,i2]->s.heap.get? b=some o->h''.get? b=some o:=λ b o hb e=>by
   simp only [Y0g,Y0w,or_false,not_or] at hb;exact (q2.2 b hb.1).trans (a7 b o hb.1 hb.2.2.1 hb.2.2.2.1 hb.2.2.2.2 e)
  have I1:Inv X pins σ H { s with heap:=h'',toks:=s.toks }:=I.turnedL up hf;have F:=I.fpOk (b:=s.heap.objs.size) (H':=H) 176 (I.hok.fresh 176);have h0:X.s₀.heap.get? s.heap.objs.size=none:=by
   cases q:X.s₀.heap.get? s.heap.objs.size with
   | none=>rfl
   | some o=>exact absurd (Y0p (Y0i q) I.sz) (Y1f _)
  have zs:s.heap.objs.size≠z:=Y1y (Y0i z0);have T':IsPair h'' s.heap.objs.size u v:=(q2.2 _ zs).trans a5;have I2:Inv X pins σ (upd H s.heap.objs.size (.tup [x,y])) { s with heap:=h'',toks:=s.toks }:=I1.track F.1 h0 F.2.1 F.2.2.2.2.1 F.2.2.2.2.2 ⟨by show 2<=sizeLine;rw [sizeLine_eq];decide,[u,v],.cons ru (.cons rv .nil),⟨_,T',rfl,0,rfl⟩⟩;have l1lt:l1<s.heap.objs.size:=Y0i e1;have l2lt:l2<s.heap.objs.size:=Y0i e2;have l1f:l1∉[z,TI,TO,i1,i2]:=by simp [D.l1z,D.l1TO,D.l1i1,D.l1i2,hT1]
  have l2f:l2∉[z,TI,TO,i1,i2]:=by simp [D.l2z,D.l2TO,D.l2i1,D.l2i2,hT2]
  have S1':SIt h'' i1 l1 (i+1) its1.toArray:=a3.move (λ o e=>(q2.2 _ D.i1z).trans e) (λ o e=>(q2.2 _ D.l1z).trans e);have S2':SIt h'' i2 l2 (i+1) its2.toArray:=a4.move (λ o e=>(q2.2 _ D.i2z).trans e) (λ o e=>(q2.2 _ D.l2z).trans e);refine ⟨.ref s.heap.objs.size,_,I2,rfl,⟨_,rfl,F.1,λ xs' ys' hx' hy'=>?_⟩,⟨⟨g0,g1,q1,okg⟩,?_,?_,?_,?_⟩,λ b hb=>?_⟩
  ·rw [I.seqB_inj hx' hx,I.seqB_inj hy' hy];exact ⟨x,y,gx,gy,rfl⟩
  ·exact (q2.2 _ D.TIz).trans (a7 TI _ D.TIz D.TITO D.TIi1 D.TIi2 zI)
  ·obtain ⟨a',b',p⟩:=a2;exact ⟨a',b',(q2.2 _ D.TOz).trans p⟩
  ·exact ItR.ofS S1' t1 S1 λ o e=>up l1 o l1f e
  ·exact ItR.ofS S2' t2 S2 λ o e=>up l2 o l2f e
  ·have hb':=hf b hb;have ne:b≠s.heap.objs.size:=by
    obtain ⟨o,e,_⟩:∃ o,s.heap.get? b=some o/\True:=by
     simp only [Y0g,Y0w,or_false] at hb;rcases hb with rfl | rfl | rfl | rfl | rfl
     ·exact ⟨_,z0,trivial⟩
     ·exact ⟨_,zI,trivial⟩
     ·exact ⟨_,zO,trivial⟩
     ·obtain ⟨o,vs,e,_⟩:=t1.rec;exact ⟨o,e,trivial⟩
     ·obtain ⟨o,vs,e,_⟩:=t2.rec;exact ⟨o,e,trivial⟩
    exact Y0m (Y0i e)
   rw [zp ne];exact hb'.1
 done:=by
  intro X hP hw hK hc i pins s σ H E I hf st hg;subst hP hw hK;obtain ⟨hi,xs,ys,hx,hy,lx,ly⟩:=hg;obtain ⟨⟨f0,f1,z0,okf⟩,zI,⟨a,c,zO⟩,t1,t2⟩:=st;obtain ⟨its1,v1,k1,o1,n1,e1,d1⟩:=I.seqB hx;obtain ⟨its2,v2,k2,o2,n2,e2,d2⟩:=I.seqB hy;have S1:=k1 i1 i s.heap t1 λ _ e=>e;have S2:=k2 i2 i s.heap t2 λ _ e=>e;refine Zy (I.ok.hd hc) D z0 okf zI zO S1 S2 ?_ λ h' a1=>⟨rfl,I.turnedL (t':=s.toks) (l:=[z,TI,TO,i1,i2]) (λ b o hb e=>?_) hf⟩
  ·rcases hi with q | q
   ·exact .inl (by simp;rw [<- v1.length,lx,q];exact Y04 _)
   ·exact .inr (by simp;rw [<- v2.length,ly,q];exact Y04 _)
  ·simp only [Y0g,Y0w,or_false,not_or] at hb;exact a1 b o hb.1 hb.2.2.1 hb.2.2.2.1 hb.2.2.2.2 e
 self:=λ _ _ _ _ _ st h=>by
  obtain ⟨⟨f0,f1,z0,okf⟩,_⟩:=st;exact Yb z0 h
section
variable {X:Cx}
theorem z22 {a b:Expr}{ta:TA}{p pos:Pos}{tg:Expr} (hg:Gl X "zip") (hm:X.mg "zip"=none) (ha:PA X [a,b] ta) (hs:starEach [a,b] X.env=(false,eval a X.env)::starEach [b] X.env) (hs2:(backTo pos (starEach [b] X.env)).any (·.1)=false):PI X tg (.Call (.Name "zip" p) [a,b] [] pos) (za4 X.K ta):=by
 intro pins s σ H R I h;refine Call_ (wI I hg hm Ba (Y1b (thn (ha pos pins s σ H _ I h) λ us s1 ⟨vs,H1,I1,r1,q1⟩=>?_) hs hs2));obtain ⟨l1,l2,b1,b2,xs,ys,e,hx,hy,q⟩:=q1;subst e;cases r1 with
 | cons r rr =>
  cases rr with
  | cons r' rr' =>
   cases rr';cases r;cases r';obtain ⟨i1,s1',t1⟩:=I1.seqH hx;obtain ⟨i2,s2',t2⟩:=I1.seqH hy;refine GD b1 b2 s1' s2' λ h' st k=>?_;have D:ZipApart (s1.heap.objs.size+4) (s1.heap.objs.size+2) (s1.heap.objs.size+3) s1.heap.objs.size (s1.heap.objs.size+1) l1 l2:=by constructor<;>first | exact Y0m 117 | exact Y1y 117 | exact Y0m (Y0p t1 117) | exact Y0m (Y0p t2 117)
   refine wpAny_pyIter_zip (s:={ s1 with heap:=h' }) st.1 ?_;refine ⟨_,_,_,_,H1,rfl,I1.kept (t':=s1.toks) k,GJ D (Y0m (Y0p t1 117)) (Y0m (Y0p t2 117)) b1 b2 xs.length ys.length,⟨⟨_,_,st.1,.inl rfl⟩,st.2⟩,λ b' hb=>?_,q⟩;have hb':s1.heap.objs.size<=b':=by
    simp only [Y0g,Y0w,or_false] at hb;rcases hb with rfl | rfl | rfl | rfl | rfl
    all_goals first | exact Y04 _ | exact Y1r _ _
   exact I1.fpOk hb' (I1.hok.fresh hb')
end
structure ZL (h:Heap)(z TI TO i1 i2 l1 l2 S B:Addr)(xs ys:XJ)(c i:Nat)(Ts:XV):Prop where
 zs:∃ f0 f1,jW h z TI TO f0 f1/\okF f0
 ti:IsPair h TI (.ref i1) (.ref i2)
 to:∃ a b,IsPair h TO a b
 s1:SIt h i1 l1 i xs
 s2:SIt h i2 l2 i ys
 ls:h.get? S=some { cls:=.type "list",dict:=none,data:=.seq (Ts.map Value.ref).toArray c,slots:=#[] }
 sz:Ts.length=i
 it:∀ (j:Nat) (T:Addr),Ts[j]?=some T->B<=T/\∃ x y,xs[j]?=some x/\ys[j]?=some y/\IsPair h T x y
 nd:Ts.Nodup
section
variable {X:Cx}{pins:132}{σ:St}{H:Hp}{s:170}{a b:Addr}{v:V}{r:Value}{o:Option V}{A:Around}{E:XQ}{kvs:List (List Key×V)}{k:List Key}
def DT (H:Hp)(a:Addr)(kvs:List (List Key×V)):Prop:=H a=some (.dT kvs)\/(H a=some (.dK [])/\kvs=[])
theorem Uu (I:127)(e:SqT X.K H b (k.map kV)):(tupleKind (zB X.prog X.w)).is s.heap k b:=by
 obtain ⟨its,r,⟨o,h1,h2,n,h3⟩,_⟩:=I.tuple e;exact ⟨o,its.toArray,n,h1,h2,h3,by simpa using yR r⟩
theorem WT (ok:HOk P w H h)(e:DT H a kvs):kvs.length<=sizeLine/\(a==sysModules)=false /\
  ∃ xs,KT H kvs xs/\h.DictOfH (tupleKind (zB P w)) a xs:=by
 rcases e with e | ⟨e,rfl⟩
 ·exact z3p ok e
 ·obtain ⟨z,hd,vs,rel,o,es,ep,h1,h2,h3,_,h4,_⟩:=B0 ok e;cases rel;have h5:es.toList=[]:=by
   cases q:es.toList with
   | nil=>rfl
   | cons x r=>rw [q] at h4;cases h4
  exact ⟨Y1w _,hd,[],.nil,o,es,ep,h1,h2,h3,h5,λ x hx=>(nomatch hx),.nil⟩
theorem GK (hu:A.units+1<cLine)(I:127)(g:DT H a kvs)(eb:SqT X.K H b (k.map kV))(l:qo kvs k=some v)(h:∀ w' s',Inv X pins σ H s'->RelV v w'->Q w' s') :
  wpAny 130 A (getItem (.ref a) (.ref b)) Q E s:=by
 obtain ⟨z,hd,xs,rel,dd⟩:=WT I.hok g;obtain ⟨w',hw,rw'⟩:=RelO.some_of (by rw [<- l];exact rel.val k);obtain ⟨p,hp,hp2⟩:=Y37.mp hw;refine wpAny_getItem_heap (tupleKind_room_in1 hu) (Uu I eb) dd hp ?_;rw [hp2];exact h w' _ (I.tok _) rw'
theorem z7r (hu:A.units+1<cLine)(I:127)(g:DT H a kvs)(eb:SqT X.K H b (k.map kV))(h:∀ s',Inv X pins σ H s'->Q (.bool (qo kvs k).isSome) s') :
  wpAny 130 A (compareOp .In (.ref b) (.ref a)) Q E s:=by
 obtain ⟨z,hd,xs,rel,dd⟩:=WT I.hok g;refine wpAny_in_heap (tupleKind_room_in1 hu) (Uu I eb) hd dd ?_;have q:=(rel.val k).isSome_eq;rw [Y2k] at q;rw [<- q];exact h _ (I.tok _)
theorem Vs (hu:A.units+1<cLine)(I:127)(g:DT H a kvs)(eb:SqT X.K H b (k.map kV))(h:∀ s',Inv X pins σ H s'->Q (.bool (!(qo kvs k).isSome)) s') :
  wpAny 130 A (compareOp .NotIn (.ref b) (.ref a)) Q E s:=by
 obtain ⟨z,hd,xs,rel,dd⟩:=WT I.hok g;refine wpAny_notIn_heap (tupleKind_room_in1 hu) (Uu I eb) hd dd ?_;have q:=(rel.val k).isSome_eq;rw [Y2k] at q;rw [<- q];exact h _ (I.tok _)
theorem z7s (g:DT H a kvs)(ec:H c=some (.tup ys)):c≠a:=λ z=>by
 subst z;rcases g with g | ⟨g,_⟩<;>(rw [g] at ec;cases ec)
theorem GL (hu:A.units+1<cLine)(I:127)(g:DT H a kvs)(eb:H b=some (.tup (k.map kV)))(hz:kvs.length<sizeLine)(rv:RelV v r)(h:∀ s',Inv X pins σ (upd H a (.dT (jB kvs k v))) s'->Q () s') :
  wpAny 130 A (setItem (.ref a) (.ref b) r) Q E s:=by
 obtain ⟨z,hd,xs,rel,dd⟩:=WT I.hok g;have hz':xs.length<=sizeLine:=by rw [<- Paired.length rel];exact z
 have hl:(jB kvs k v).length<=sizeLine:=by have:=jX kvs k v;omega
 refine wpAny_setItem_heap (tupleKind_room_in1 hu) (yS I.hok eb) dd λ h' dd' hs=>h _ ?_;obtain ⟨q,es,ep,hq,h2,h3,h4,_,h5⟩:=dd';refine ZF I (by rcases g with g | ⟨g,_⟩<;>(rw [g];exact True.intro)) hs ⟨q,hq⟩ ⟨hl,hd,_,(rel.put k eb rv).keeps λ c ys ec=>?_,q,es,ep,hq,h2,h3,h4,h5⟩;rw [zp (z7s g ec)];exact ec
end
def Ite (K:Y00)(l:Addr)(n:Nat):It :=
  ⟨λ i H=>i<n/\∃ xs,SqL K H l xs/\xs.length=n,
   λ i H v H'=>∃ T,v=.ref T/\H T=none/\∀ xs,SqL K H l xs->∃ x,xs[i]?=some x/\H'=upd H T (.tup [.int (i:Nat),x]),
   λ i H=>i=n/\∃ xs,SqL K H l xs/\xs.length=n⟩
def ETn (e it l:Addr)(i:Nat)(h:Heap):Prop:=(∃ old,IsEnum h e it (i:Nat) old)/\h.IsListIter it l i
theorem GM {K:Y00}{x1}(hne:e≠it)(he:l≠e)(hi':l≠it)(n:Nat) :
  Turn P w K (.Tuple elts x1 pos) (Ite K l n) [e,it] e (ETn e it l) where
 mem:=by simp
 obj:=λ i h st b hb=>by
  obtain ⟨⟨old,z0⟩,t1⟩:=st;simp only [Y0g,Y0w,or_false] at hb;rcases hb with rfl | rfl
  ·exact ⟨_,z0,λ v q=>by cases q⟩
  ·obtain ⟨o,vs,e,d⟩:=(show ItR h b l i true from t1).rec;exact ⟨o,e,λ v q=>by rw [d] at q;cases q⟩
 keep:=λ i h h' st k=>by
  obtain ⟨⟨old,z0⟩,t1⟩:=st;exact ⟨⟨old,k e 133 _ z0⟩,(show ItR h it l i true from t1).at λ o q=>k it 133 o q⟩
 item:=by
  intro X hP hw hK hc i pins s σ H E I hf st hg;subst hP hw hK;obtain ⟨hi,xs,hx,lx⟩:=hg;obtain ⟨⟨old,z0⟩,t1⟩:=st;obtain ⟨its,v1,pl,_⟩:=I.list hx;have gx:xs[i]?=some (xs[i]' 117):=Y0j _;generalize xs[i]' 117=x at gx;obtain ⟨u,hu,ru⟩:=v1.get gx;refine wpAny_pyNext_enum_item z0 t1 pl.isList (by simpa using hu) hne λ h' a1 a2 a3 a4 a5=>?_;refine ⟨_,rfl,wpAny_letOwnedTupleGo_enum a1 λ h'' q1 q2=>?_⟩;have up:∀ b o,b∉[e,it]->s.heap.get? b=some o->h''.get? b=some o:=λ b o hb e=>by
   simp only [Y0g,Y0w,or_false,not_or] at hb;exact (q2.2 b hb.1).trans (a5 b o hb.1 hb.2 e)
  have I1:Inv X pins σ H { s with heap:=h'',toks:=s.toks+1 }:=I.turnedL up hf;have F:=I.fpOk 176 (I.hok.fresh 176);have h0:X.s₀.heap.get? s.heap.objs.size=none:=by
   cases q:X.s₀.heap.get? s.heap.objs.size with
   | none=>rfl
   | some o=>exact absurd (Y0p (Y0i q) I.sz) (Y1f _)
  have zs:=Y1y (Y0i z0);have T':=(q2.2 _ zs).trans a3;have I2:Inv X pins σ (upd H s.heap.objs.size (.tup [.int (i:Nat),x])) { s with heap:=h'',toks:=s.toks+1 }:=I1.track F.1 h0 F.2.1 F.2.2.2.2.1 F.2.2.2.2.2 ⟨by show 2<=sizeLine;rw [sizeLine_eq];decide,[.int (i:Nat) s.toks,u],.cons 150 (.cons ru .nil),⟨_,T',rfl,0,rfl⟩⟩;refine ⟨.ref s.heap.objs.size,_,I2,rfl,⟨_,rfl,F.1,λ xs' hx'=>?_⟩,⟨⟨u,q1⟩,?_⟩,λ b hb=>?_⟩
  ·rw [I.list_inj hx' hx];exact ⟨x,gx,rfl⟩
  ·exact (show ItR h' it l (i+1) true from a2).at λ o q=>(q2.2 _ (Ne.symm hne)).trans q
  ·have hb':=hf b hb;have ne:b≠s.heap.objs.size:=by
    obtain ⟨o,q,_⟩:∃ o,s.heap.get? b=some o/\True:=by
     simp only [Y0g,Y0w,or_false] at hb;rcases hb with rfl | rfl
     ·exact ⟨_,z0,trivial⟩
     ·obtain ⟨o,vs,q,_⟩:=(show ItR s.heap b l i true from t1).rec;exact ⟨o,q,trivial⟩
    exact Y0m (Y0i q)
   rw [zp ne];exact hb'.1
 done:=by
  intro X hP hw hK hc i pins s σ H E I hf st hg;subst hP hw hK;obtain ⟨hi,xs,hx,lx⟩:=hg;obtain ⟨⟨old,z0⟩,t1⟩:=st;obtain ⟨its,v1,pl,_⟩:=I.list hx;refine wpAny_pyNext_enum_end (I.ok.hd hc) z0 t1 pl.isList (by simp;rw [<- v1.length,lx,hi];exact Y04 _) λ h' a1=>⟨rfl,I.turnedL (λ b o hb q=>?_) hf⟩;simp only [Y0g,Y0w,or_false,not_or] at hb;exact a1 b o hb.2 q
 self:=λ _ _ _ _ _ st h=>by
  obtain ⟨⟨old,z0⟩,_⟩:=st;exact wpAny_pyIter_enum z0 h
section
variable {X:Cx}
theorem GN:bootBuiltins "enumerate"=some (.type "enumerate"):=by decide +kernel
def z7t (K:Y00)(ta:TA):TI:=λ σ H R=>ta σ H λ vs H1=>∃ l xs,vs=[.ref l]/\SqL K H1 l xs/\R (Ite K l xs.length) H1
theorem z23 {x1} (hg:Gl X "enumerate") (hm:X.mg "enumerate"=none) (ha:PA X [a] ta) (hs:starEach [a] X.env=(false,eval a X.env)::starEach [] X.env) (hs2:(backTo pos (starEach [] X.env)).any (·.1)=false):PI X (.Tuple elts x1 pos') (.Call (.Name "enumerate" p) [a] [] pos) (z7t X.K ta):=by
 intro pins s σ H R I h;refine Call_ (wI I hg hm GN (Y1b (thn (ha pos pins s σ H _ I h) λ us s1 ⟨vs,H1,I1,r1,q1⟩=>?_) hs hs2));obtain ⟨l,xs,e,hx,q⟩:=q1;subst e;cases r1 with
 | cons r rr =>
  cases rr;cases r;obtain ⟨its,v1,pl,_⟩:=I1.list hx;have lt:l<s1.heap.objs.size:=by
   obtain ⟨o,e,_⟩:=id pl.isList;exact Y0i e
  refine call_enumerate_list pl.isList λ h' a1 a2 a3 k=>?_;refine wpAny_pyIter_enum a1 ?_;refine ⟨_,_,_,_,H1,rfl,I1.kept k,GM (e:=s1.heap.objs.size+1) (Nat.succ_ne_self _) (Y0m (Y2z lt)) (Y0m lt) xs.length,⟨⟨_,a1⟩,a2⟩,λ b' hb=>?_,q⟩;have hb':s1.heap.objs.size<=b':=by
   simp only [Y0g,Y0w,or_false] at hb;rcases hb with rfl | rfl
   all_goals first | exact Y04 _ | exact Y1r _ _
  exact I1.fpOk hb' (I1.hok.fresh hb')
end
end L2
namespace PI
open PySem L2
inductive D where
 | non | bl (b:Bool) | int (i:Int) | str (x:Str) | tup (xs:163) | loc (n:Nat) | fl (xs:163)
inductive O where
 | lst (xs:163) | dK (kvs:237) | dT (kvs:List (List Key×D)) | obj (x:Str) (fs:List (Str×D))
abbrev Hh:=List O
abbrev En:=List 183
inductive Res (α:Type) where
 | ok (a:α) (h:Hh) | exc (c:Nat) (h:Hh) | no
noncomputable def Res.bind {α β:Type}(r:Res α)(f:α->Hh->Res β):Res β:=match r with
 | .ok a h=>f a h
 | .exc c h=>.exc c h
 | .no=>.no
@[simp] theorem bind_ok {α β:Type}{a:α}{h:Hh}{f:α->Hh->Res β}:(Res.ok a h).bind f=f a h:=rfl
@[simp] theorem bind_exc {α β:Type}{c:Nat}{h:Hh}{f:α->Hh->Res β}:(Res.exc c h:Res α).bind f=.exc c h:=rfl
@[simp] theorem bind_no {α β:Type}{f:α->Hh->Res β}:(Res.no:Res α).bind f=.no:=rfl
inductive RS where
 | nx (ρ:En) (h:Hh) | rt (d:D) (h:Hh) | bk (ρ:En) (h:Hh) | ct (ρ:En) (h:Hh) | ex (c:Nat) (ρ:En) (h:Hh) | no
inductive Tg where
 | one (i:Nat) (p:Pos) | tup (is:List (Nat×Pos)) (p:Pos)
inductive M0 where
 | pop
inductive M1 where
 | append | extend
inductive F1 where
 | int | abs | any
noncomputable def F1.name:F1->Str
 | .int=>"int" | .abs=>"abs" | .any=>"any"
inductive Cv where
 | tup (xs:XY) | int (i:Int) | fn (i:Nat) (x:Str) | oth
 deriving DecidableEq
inductive Cn where
 | int (i:Int) | str (x:Str) | tup (xs:XY) | dic (kvs:List (Str×Cv)) | exc (c:Nat) (ups:List Nat) | cls (i:Nat) | isc (x:Str) (ys:XY)
 deriving DecidableEq
set_option genInjectivity false
set_option genSizeOf false
mutual
inductive E where
 | non (p:Pos) | bl (b:Bool) (p:Pos) | int (i:Int) (p:Pos) | str (x:Str) (p:Pos)
 | var (i:Nat) (p:Pos)
 | bin (op:Operator) (a b:E) (p:Pos)
 | un (op:UnaryOp) (a:E) (p:Pos)
 | cmp (op:CmpOp) (a b:E) (p:Pos)
 | and (a b:E) (r:Es) (p:Pos)
 | or (a b:E) (r:Es) (p:Pos)
 | ite (c a b:E) (p:Pos)
 | call (f:Nat) (a:E) (r:Es) (p0 p:Pos)
 | len (a:E) (p0 p:Pos)
 | isi (T:Nat) (a:E) (p0 p1 p:Pos)
 | isC (x:Str) (ys:XY) (a:E) (p0 p1 p:Pos)
 | sub (a i:E) (p:Pos)
 | tup (es:Es) (p:Pos)
 | ofL (l:L)
 | tupE (e:E) (p0 p:Pos)
 | listE (e:E) (p0 p:Pos)
 | dicP (e:E) (p0 p:Pos)
 | dispD (ks:List (Str×Pos)) (vs:Es) (p:Pos)
 | cut (a:E) (lo hi:Eo) (p2 p:Pos)
 | dic (p:Pos)
 | m0 (m:M0) (o:E) (p1 p:Pos)
 | m1 (m:M1) (o a:E) (p1 p:Pos)
 | min2 (a b:E) (p0 p:Pos)
 | c1 (f:F1) (a:E) (p0 p:Pos)
 | listR (e:E) (p0 p1 p2 p:Pos)
 | cmpN (neg:Bool) (a:E) (p1 p:Pos)
 | gcon (x:Str) (c:Cn) (p:Pos)
 | gsub (x:Str) (kvs:List (Str×Cv)) (i:E) (p0 p:Pos)
 | fld (a:E) (f:Str) (p:Pos)
 | callG (x:Str) (kvs:List (Str×Cv)) (key a:E) (r:Es) (p0 p1 p:Pos)
 | mk (i:Nat) (x:Str) (a:E) (r:Es) (p0 p:Pos)
inductive Es where
 | nil | cons (e:E) (r:Es)
inductive Eo where
 | none | some (e:E)
inductive L where
 | disp (es:Es) (p:Pos)
 | comp (elt:E) (t:Tg) (it:I) (c:Es) (NC:XY) (cap:232) (sc:Scope) (p:Pos)
inductive I where
 | seq (e:E) | lst (l:L) | rng (a:E) (p0 p:Pos) | rev (e:E) (p0 p:Pos)
 | zip (a b:E) (p0 p:Pos)
 | enum (e:E) (p0 p:Pos)
end
structure Rp where
 c:Str
 d:Str
 pa:Pos
 pc:Pos
 pd:Pos
 p:Pos
noncomputable def Rp.py (e:Expr)(r:Rp):Expr:=.Call (.Attribute e "replace" r.pa) [.Constant (.str r.c) 0 r.pc,.Constant (.str r.d) 0 r.pd] [] r.p
inductive Fp where
 | c (x:Str) (p:Pos)
 | r (i:Nat) (p0 p:Pos)
noncomputable def Fp.py (N:XY):Fp->Expr
 | .c x p=>.Constant 248 0 p
 | .r i p0 p=>.FormattedValue (.Name (N.getD i "") p0) 114 none p
inductive Ms where
 | s (x:Str) (p:Pos)
 | f (a b:Fp) (r:List Fp) (p:Pos)
noncomputable def Ms.py (N:XY):Ms->Expr
 | .s x p=>.Constant 248 0 p
 | .f a b r p=>.JoinedStr (a.py N::b.py N::r.map (Fp.py N)) p
structure Xt where
 neg:Bool
 x:Str
 d:Option Nat
 pe:Pos
 p0:Pos
 p1:Pos
 p:Pos
 pn:Pos
noncomputable def Xt.call (e:Str)(t:Xt):Expr:=.Call (.Name "isinstance" t.p0) [.Name e t.pe,.Name t.x t.p1] [] t.p
noncomputable def Xt.py (e:Str)(t:Xt):Expr:=match t.neg with
 | true=>.UnaryOp .Not (t.call e) t.pn
 | false=>t.call e
noncomputable def Xt.is (u:List Nat)(t:Xt):Bool:=match t.d with
 | some d=>u.contains d
 | none=>true
noncomputable def Xt.val (u:List Nat)(t:Xt):Bool:=match t.neg with
 | true=>!(t.is u)
 | false=>t.is u
inductive Xv where
 | and (a b:Xt) (r:List Xt) (p:Pos) | lst (ts:List Xt) (p:Pos) | one (t:Xt)
noncomputable def Xv.py (e:Str):Xv->Expr
 | .and a b r p=>.BoolOp .And (a.py e::b.py e::r.map (Xt.py e)) p
 | .lst ts p=>.List (ts.map (Xt.py e)) p
 | .one t=>t.py e
mutual
inductive S where
 | set (i:Nat) (e:E) (p1 p:Pos)
 | ret (e:E) (p:Pos)
 | iff (c:E) (a b:Ss) (p:Pos)
 | ex (e:E) (p:Pos)
 | put (o i v:E) (p1 p:Pos)
 | putT (o:E) (es:Es) (v:E) (p2 p1 p:Pos)
 | forr (t:Tg) (it:I) (b:Ss) (p:Pos)
 | whil (c:E) (b:Ss) (p:Pos)
 | pass (p:Pos) | brk (p:Pos) | cnt (p:Pos)
 | setF (o:E) (f:Str) (v:E) (p1 p:Pos)
 | retN (p:Pos)
 | setT (is:List (Nat×Pos)) (e:E) (p1 p:Pos)
 | raw (st:Stmt)
inductive Ss where
 | nil | cons (s:S) (r:Ss)
end
set_option genInjectivity true
set_option genSizeOf true
structure Nm where
 N:List Str
 F:List Str
 G:List (Str×Cn):=[]
noncomputable def ye:Nat->Str
 | 0=>"int" | 1=>"bool" | 2=>"str" | 3=>"tuple" | _=>"list"
noncomputable def Vt:Nat->String
 | 0=>"int" | 1=>"bool" | 2=>"str" | 3=>"tuple" | _=>"list"
noncomputable def Tg.py (N:XY):Tg->Expr
 | .one i p=>.Name (N.getD i "") p
 | .tup is p=>.Tuple (is.map λ q=>.Name (N.getD q.1 "") q.2) 0 p
mutual
noncomputable def E.py (n:Nm):E->Expr
 | .non p=>.Constant .none 0 p
 | .bl b p=>.Constant (.bool b) 0 p
 | .int i p=>.Constant 222 0 p
 | .str x p=>.Constant 248 0 p
 | .var i p=>.Name (n.N.getD i "") p
 | .bin op a b p=>.BinOp (a.py n) op (b.py n) p
 | .un op a p=>.UnaryOp op (a.py n) p
 | .cmp op a b p=>.Compare (a.py n) [op] [b.py n] p
 | .and a b r p=>.BoolOp .And (a.py n::b.py n::r.py n) p
 | .or a b r p=>.BoolOp .Or (a.py n::b.py n::r.py n) p
 | .ite c a b p=>.IfExp (c.py n) (a.py n) (b.py n) p
 | .call f a r p0 p=>.Call (.Name (n.F.getD f "") p0) (a.py n::r.py n) [] p
 | .len a p0 p=>.Call (.Name "len" p0) [a.py n] [] p
 | .isi T a p0 p1 p=>.Call (.Name "isinstance" p0) [a.py n,.Name (ye T) p1] [] p
 | .isC x _ a p0 p1 p=>.Call (.Name "isinstance" p0) [a.py n,.Name x p1] [] p
 | .sub a i p=>.Subscript (a.py n) (i.py n) p
 | .tup es p=>.Tuple (es.py n) 0 p
 | .ofL l=>l.py n
 | .tupE e p0 p=>.Call (.Name "tuple" p0) [e.py n] [] p
 | .listE e p0 p=>.Call (.Name "list" p0) [e.py n] [] p
 | .dicP e p0 p=>.Call (.Name "dict" p0) [e.py n] [] p
 | .dispD ks vs p=>.Dict (ks.map λ q=>some (.Constant (.str q.1) 0 q.2)) (vs.py n) p
 | .cut a lo hi p2 p=>.Subscript (a.py n) (.Slice (lo.py n) (hi.py n) .none p2) p
 | .dic p=>.Dict [] [] p
 | .m0 m o p1 p=>.Call (.Attribute (o.py n) (match m with | .pop=>"pop") p1) [] [] p
 | .m1 m o a p1 p=>.Call (.Attribute (o.py n) (match m with | .append=>"append" | .extend=>"extend") p1) [a.py n] [] p
 | .min2 a b p0 p=>.Call (.Name "min" p0) [a.py n,b.py n] [] p
 | .c1 f a p0 p=>.Call (.Name f.name p0) [a.py n] [] p
 | .cmpN neg a p1 p=>.Compare (a.py n) [if neg then .NotEq else .Eq] [.List [] p1] p
 | .listR e p0 p1 p2 p=>.Call (.Name "list" p0) [.Call (.Name "reversed" p1) [e.py n] [] p2] [] p
 | .gcon x _ p=>.Name x p
 | .gsub x _ i p0 p=>.Subscript (.Name x p0) (i.py n) p
 | .fld a f p=>.Attribute (a.py n) f p
 | .callG x _ key a r p0 p1 p=>.Call (.Subscript (.Name x p0) (key.py n) p1) (a.py n::r.py n) [] p
 | .mk _ x a r p0 p=>.Call (.Name x p0) (a.py n::r.py n) [] p
noncomputable def Eo.py (n:Nm):Eo->Option Expr
 | .none=>.none
 | .some e=>.some (e.py n)
noncomputable def L.py (n:Nm):L->Expr
 | .disp es p=>.List (es.py n) p
 | .comp elt t it c NC cap sc p=>.ListComp (elt.py ⟨NC,n.F,n.G⟩) [⟨t.py NC,it.py n,c.py ⟨NC,n.F,n.G⟩,0⟩] sc p
noncomputable def I.py (n:Nm):I->Expr
 | .seq e=>e.py n
 | .lst l=>l.py n
 | .rng a p0 p=>.Call (.Name "range" p0) [a.py n] [] p
 | .rev e p0 p=>.Call (.Name "reversed" p0) [e.py n] [] p
 | .zip a b p0 p=>.Call (.Name "zip" p0) [a.py n,b.py n] [] p
 | .enum e p0 p=>.Call (.Name "enumerate" p0) [e.py n] [] p
noncomputable def Es.py (n:Nm):Es->List Expr
 | .nil=>[]
 | .cons e r=>e.py n::r.py n
end
mutual
noncomputable def S.py (n:Nm):S->Stmt
 | .set i e p1 p=>.Assign [.Name (n.N.getD i "") p1] (e.py n) p
 | .ret e p=>.Return (some (e.py n)) p
 | .iff c a b p=>.If (c.py n) (a.py n) (b.py n) p
 | .ex e p=>.Expr (e.py n) p
 | .put o i v p1 p=>.Assign [.Subscript (o.py n) (i.py n) p1] (v.py n) p
 | .putT o es v p2 p1 p=>.Assign [.Subscript (o.py n) ((E.tup es p2).py n) p1] (v.py n) p
 | .forr t it b p=>.For (t.py n.N) (it.py n) (b.py n) [] p
 | .whil c b p=>.While (c.py n) (b.py n) [] p
 | .pass p=>.Pass p
 | .retN p=>.Return none p
 | .setF o f v p1 p=>.Assign [.Attribute (o.py n) f p1] (v.py n) p
 | .brk p=>.Break p
 | .cnt p=>.Continue p
 | .setT is e p1 p=>.Assign [(Tg.tup is p1).py n.N] (e.py n) p
 | .raw st=>st
noncomputable def Ss.py (n:Nm):Ss->List Stmt
 | .nil=>[]
 | .cons s r=>s.py n::r.py n
end
mutual
noncomputable def D.pd (h:Hh):D->Option PyData
 | .non=>some .none
 | .bl b=>some (.bool b)
 | .int i=>some 222
 | .str x=>some 248
 | .tup xs=>(D.pds h xs).map .tuple
 | .loc _=>none
 | .fl xs=>(D.pds h xs).map .list
noncomputable def D.pds (h:Hh):List D->Option (List PyData)
 | []=>some []
 | x::r=>match D.pd h x,D.pds h r with
  | some a,some b=>some (a::b)
  | _,_=>none
end
noncomputable def wn:D->Option Key
 | .int i=>some (.inl i)
 | .str x=>some (.inr x)
 | _=>none
noncomputable def yr:List D->Option (List Key)
 | []=>some []
 | d::r=>match wn d,yr r with
  | some k,some ks=>some (k::ks)
  | _,_=>none
noncomputable def jC:D->Option (List Key)
 | .tup ds=>yr ds
 | _=>none
noncomputable def zF {κ:Type}[DecidableEq κ](kvs:List (κ×D))(k:κ):Option D:=(kvs.find? λ kv=>decide (kv.1=k)).map (·.2)
noncomputable def rd (h:Hh)(n:Nat):Option (List D):=match h[n]? with
 | some (.lst xs)=>some xs
 | _=>none
noncomputable def pdT (h:Hh):D->Option PyData
 | .loc n=>(rd h n).bind λ xs=>(D.pds h xs).map .list
 | d=>D.pd h d
noncomputable def isI (h:Hh):D->Nat->Option Bool
 | .non,_=>some false
 | .bl _,T=>some (T==0||T==1)
 | .int _,T=>some (T==0)
 | .str _,T=>some (T==2)
 | .tup _,T=>some (T==3)
 | .loc n,T=>(rd h n).map λ _=>T==4
 | .fl _,T=>some (T==4)
noncomputable def fits (i:Int):Bool:=decide (Builtin.Int.intBits i<=2 ^ 20)
noncomputable def eqR (neg:Bool)(u v:Option PyData)(h:Hh):Res D:=match u,v with
 | some u,some v=>if u.canLay0=true/\v.canLay0=true/\u.depth<=60 then .ok (.bl (if neg then !PyData.eqv u v else PyData.eqv u v)) h else .no
 | _,_=>.no
noncomputable def i2 (a b:D)(f:Int->Int->Res D):Res D:=match a,b with
 | .int i,.int j=>f i j
 | _,_=>.no
noncomputable def z7u (a b:D)(h:Hh):Res D:=match a,b with
 | .int i,.int j=>.ok (.int (i+j)) h
 | .str x,.str y=>if x.length+y.length<=1000000 then .ok (.str (x++y)) h else .no
 | .loc n,.loc m=>match h[n]?,h[m]? with
  | some (.lst xs),some (.lst ys)=>if xs.length+ys.length<=1000000 then .ok (.loc h.length) (h++[.lst (xs++ys)]) else .no
  | _,_=>.no
 | .tup xs,.tup ys=>if xs.length+ys.length<=1000000 then .ok (.tup (xs++ys)) h else .no
 | _,_=>.no
noncomputable def z7v (a b:D)(h:Hh):Res D:=match b with
 | .int j=>match a with
  | .int i=>if fits i=true/\fits j=true then .ok (.int (i*j)) h else .no
  | _=>.no
 | _=>.no
noncomputable def qw (op:Operator)(a b:D)(h:Hh):Res D:=match op with
 | .Add=>z7u a b h
 | .Mult=>z7v a b h
 | .Sub=>i2 a b λ i j=>.ok (.int (i-j)) h
 | .FloorDiv=>i2 a b λ i j=>if 0<j/\j<1073741824 then .ok (.int (i/j)) h else .no
 | .Mod=>i2 a b λ i j=>if 0<j then .ok (.int (i%j)) h else .no
 | .Pow=>i2 a b λ i j=>if 0<=j/\j<=1000000/\i.natAbs<2 ^ 64 then .ok (.int (i ^ j.toNat)) h else .no
 | _=>.no
noncomputable def vOf:D->V
 | .bl b=>.bl b
 | .int i=>.int i
 | .str x=>.str x
 | _=>.non
noncomputable def Wa:D->Bool
 | .non | .bl _ | .int _ | .str _=>true
 | _=>false
noncomputable def ngB (neg b:Bool):Bool:=if neg then !b else b
@[simp] theorem ngB_f {b:Bool}:ngB false b=b:=rfl
@[simp] theorem ngB_t {b:Bool}:ngB true b=!b:=rfl
noncomputable def isN:D->Bool
 | .non=>true
 | _=>false
noncomputable def z3r:D->Bool
 | .tup _=>true
 | d=>Wa d
noncomputable def JF (neg:Bool)(x:D)(ds:163)(h:Hh):Res D:=if Wa x=true/\ds.all Wa=true then .ok (.bl (ngB neg (ds.any λ y=>eqV (vOf y) (vOf x)))) h else if neg=false/\isN x=true/\ds.all z3r=true then .ok (.bl (ds.any isN)) h else .no
noncomputable def inD (neg:Bool)(x y:D)(h:Hh):Res D:=match y with
 | .tup ds=>JF neg x ds h
 | .fl ds=>JF neg x ds h
 | .loc n=>match h[n]? with
  | some (.lst ds)=>JF neg x ds h
  | some (.dK kvs)=>(match wn x with | some k=>.ok (.bl (ngB neg (zF kvs k).isSome)) h | none=>(match kvs with | []=>(match jC x with | some _=>.ok (.bl (ngB neg false)) h | none=>.no) | _=>.no))
  | some (.dT kvs)=>(match jC x with | some k=>.ok (.bl (ngB neg (zF kvs k).isSome)) h | none=>.no)
  | _=>.no
 | .str z=>(match x with | .str u=>.ok (.bl (ngB neg (!(Builtin.Str.occurrences z u 0 z.length 1).isEmpty))) h | _=>.no)
 | _=>.no
noncomputable def isV (neg:Bool)(a b:D)(h:Hh):Res D:=match b with
 | .non=>.ok (.bl (ngB neg (isN a))) h
 | .bl y=>match a with
  | .bl x=>.ok (.bl (ngB neg (x==y))) h
  | _=>.no
 | _=>.no
noncomputable def je (op:CmpOp)(a b:D)(h:Hh):Res D:=match op with
 | .Lt=>i2 a b λ i j=>.ok (.bl (decide (i<j))) h
 | .LtE=>i2 a b λ i j=>.ok (.bl (decide (i<=j))) h
 | .Gt=>i2 a b λ i j=>.ok (.bl (decide (j<i))) h
 | .GtE=>i2 a b λ i j=>.ok (.bl (decide (j<=i))) h
 | .Eq=>eqR false (pdT h a) (pdT h b) h
 | .NotEq=>eqR true (pdT h a) (pdT h b) h
 | .In=>inD false a b h
 | .NotIn=>inD true a b h
 | .Is=>isV false a b h
 | .IsNot=>isV true a b h
noncomputable def unD (op:UnaryOp)(a:D)(h:Hh):Res D:=match op,a with
 | .Not,.bl b=>.ok (.bl (!b)) h
 | .Invert,.int i=>.ok (.int (Builtin.bitNot i)) h
 | .USub,.int i=>.ok (.int (-i)) h
 | _,_=>.no
noncomputable def qS (a:D)(h:Hh):Res D:=match a with
 | .tup xs=>.ok (.int xs.length) h
 | .loc n=>match rd h n with | some xs=>.ok (.int xs.length) h | none=>.no
 | .str x=>if x.length<=1000000 then .ok (.int x.length) h else .no
 | .fl xs=>.ok (.int xs.length) h
 | _=>.no
noncomputable def jf (a i:D)(h:Hh):Res D:=match a,i with
 | .tup xs,.int k=>match atI xs k with | some d=>.ok d h | none=>.no
 | .fl xs,.int k=>match atI xs k with | some d=>.ok d h | none=>.no
 | .str x,.int k=>if x.length<=1000000 then (match atI x.cps.toList k with | some c=>.ok (.str ⟨#[c]⟩) h | none=>.no) else .no
 | .loc n,y=>match h[n]? with
  | some (.dK kvs)=>match (wn y).bind (λ k=>zF kvs k) with | some d=>.ok d h | none=>.no
  | some (.dT kvs)=>match (jC y).bind (λ k=>zF kvs k) with | some d=>.ok d h | none=>.no
  | some (.lst xs)=>match y with
   | .int k=>match atI xs k with | some d=>.ok d h | none=>.no
   | _=>.no
  | _=>.no
 | _,_=>.no
noncomputable def new (o:O)(h:Hh):Res D:=.ok (.loc h.length) (h++[o])
noncomputable def wO {κ:Type}[DecidableEq κ](kvs:List (κ×D))(k:κ)(v:D):List (κ×D):=if (kvs.any λ kv=>decide (kv.1=k))=true then kvs.map (λ kv=>if kv.1=k then (kv.1,v) else kv) else kvs++[(k,v)]
noncomputable def onL (x:D)(h:Hh)(r:Res D):Res D:=match x with
 | .loc n=>match h[n]? with
  | some (.lst _)=>r
  | _=>.no
 | _=>.no
noncomputable def m0D (m:M0)(o:D)(h:Hh):Res D:=match o with
 | .loc n=>match h[n]? with
  | some (.lst xs)=>match m with
   | .pop=>match xs.getLast? with | some x=>.ok x (h.set n (.lst xs.dropLast)) | none=>.no
  | _=>.no
 | _=>.no
noncomputable def m1D (m:M1)(o a:D)(h:Hh):Res D:=match o with
 | .loc n=>match h[n]? with
  | some (.lst xs)=>match m with
   | .append=>if xs.length<1000000 then .ok .non (h.set n (.lst (xs++[a]))) else .no
   | .extend=>match a with
    | .loc m=>match h[m]? with
     | some (.lst ys)=>if xs.length+ys.length<=1000000 then .ok .non (h.set n (.lst (xs++ys))) else .no
     | _=>.no
    | .tup ys=>if xs.length+ys.length<=1000000 then .ok .non (h.set n (.lst (xs++ys))) else .no
    | _=>.no
  | _=>.no
 | _=>.no
noncomputable def Yc (o i v:D)(h:Hh):Option Hh:=match o with
 | .loc n=>match h[n]? with
  | some (.dK kvs)=>(wn i).bind λ k=>if kvs.length<1000000 then some (h.set n (.dK (wO kvs k v))) else none
  | _=>none
 | _=>none
noncomputable def putT (o:D)(ds:163)(v:D)(h:Hh):Option Hh:=match o with
 | .loc n=>match h[n]? with
  | some (.dT kvs)=>(yr ds).bind λ k=>if kvs.length<1000000 then some (h.set n (.dT (wO kvs k v))) else none
  | some (.dK [])=>(yr ds).map λ k=>h.set n (.dT [(k,v)])
  | _=>none
 | _=>none
noncomputable def jp (xs:163)(lo hi:Option Int):List D:=(xs.drop (HT.sIx xs.length 0 lo)).take (HT.sIx xs.length xs.length hi-HT.sIx xs.length 0 lo)
noncomputable def Yd (a:D)(lo hi:Option Int)(h:Hh):Res D:=match a with
 | .loc n=>match rd h n with
  | some xs=>new (.lst (jp xs lo hi)) h
  | none=>.no
 | .fl xs=>new (.lst (jp xs lo hi)) h
 | .tup xs=>if HT.sIx xs.length 0 lo=0/\HT.sIx xs.length xs.length hi=xs.length then .ok (.tup xs) h else .ok (.tup (jp xs lo hi)) h
 | _=>.no
noncomputable def z7w (d:D)(h:Hh):Res (Option Int):=match d with | .int i=>.ok (some i) h | _=>.no
noncomputable def jY (d:D)(h:Hh):Option (List D):=match d with
 | .tup xs=>some xs
 | .fl xs=>some xs
 | .loc n=>rd h n
 | _=>none
abbrev Ck:=List (Nat×List D)
noncomputable def stay (c:Ck)(h:Hh):Prop:=∀ p∈c,rd h p.1=some p.2
noncomputable def jq (t:Tg)(d:D)(ρ:En):Option En:=match t with
 | .one i _=>some (ρ.set i (some d))
 | .tup is _=>match d with
  | .tup xs=>if xs.length=is.length then some ((is.zip xs).foldl (λ ρ q=>ρ.set q.1.1 (some q.2)) ρ) else none
  | _=>none
noncomputable def jD (cap:232)(ρ:En):En:=cap.map λ o=>o.bind λ i=>(ρ[i]?).bind id
noncomputable def ja (t:Tg)(ρ:En)(c:En->Hh->Res Bool)(e:En->Hh->Res D)(x:D)(h:Hh):Res 183:=match jq t x ρ with
 | some ρ'=>(c ρ' h).bind λ b h1=>if b then (e ρ' h1).bind λ d h2=>.ok (some d) h2 else .ok none h1
 | none=>.no
noncomputable def zJ (t:Tg)(b:En->Hh->RS)(x:D)(ρ:En)(h:Hh):RS:=match jq t x ρ with
 | some ρ'=>b ρ' h
 | none=>.no
noncomputable def Bn (acc:163):Option D->List D
 | some d=>acc++[d]
 | none=>acc
@[simp] theorem addO_some {acc:163}{d:D}:Bn acc (some d)=acc++[d]:=rfl
@[simp] theorem addO_none {acc:163}:Bn acc none=acc:=rfl
open Classical in
noncomputable def zZ (c:Ck)(f:D->Hh->Res 183):List D->List D->Hh->Res (List D)
 | [],acc,h=>if stay c h then .ok acc h else .no
 | x::r,acc,h=>if stay c h then (f x h).bind λ o h'=>zZ c f r (Bn acc o) h' else .no
open Classical in
noncomputable def jb (c:Ck)(f:D->En->Hh->RS):List D->En->Hh->RS
 | [],ρ,h=>if stay c h then .nx ρ h else .no
 | x::r,ρ,h=>if stay c h then (match f x ρ h with
   | .nx ρ' h'=>jb c f r ρ' h'
   | .ct ρ' h'=>jb c f r ρ' h'
   | .bk ρ' h'=>.nx ρ' h'
   | o=>o) else .no
noncomputable def whL (c:En->Hh->Res Bool)(b:En->Hh->RS):Nat->En->Hh->RS
 | 0,_,_=>.no
 | n+1,ρ,h=>match c ρ h with
  | .ok true h1=>(match b ρ h1 with
   | .nx ρ' h'=>whL c b n ρ' h'
   | .ct ρ' h'=>whL c b n ρ' h'
   | .bk ρ' h'=>.nx ρ' h'
   | o=>o)
  | .ok false h1=>.nx ρ h1
  | .exc k h1=>.ex k ρ h1
  | .no=>.no
theorem ZW {c:En->Hh->Res Bool}{b:En->Hh->RS}:∀ (n:Nat) (ρ:En) (h:Hh),whL c b n ρ h≠.no->whL c b (n+1) ρ h=whL c b n ρ h
 | 0,ρ,h,z=>absurd rfl z
 | n+1,ρ,h,z=>by
  rw [whL] at z ⊢;rw [whL];cases ec:c ρ h with
  | ok t h1 =>
   cases t with
   | true =>
    rw [ec] at z;simp only at z ⊢;cases eb:b ρ h1 with
    | nx ρ' h'=>rw [eb] at z;exact ZW n ρ' h' z
    | ct ρ' h'=>rw [eb] at z;exact ZW n ρ' h' z
    | _=>rfl
   | false=>rfl
  | _=>rfl
theorem Bo {c:En->Hh->Res Bool}{b:En->Hh->RS}{n m:Nat}{ρ:En}{h:Hh}(hl:n<=m)(z:whL c b n ρ h≠.no):whL c b m ρ h=whL c b n ρ h:=by
 induction hl with
 | refl=>rfl
 | step _ ih=>rw [ZW _ _ _ (by rw [ih];exact z),ih]
open Classical in
noncomputable def whR (c:En->Hh->Res Bool)(b:En->Hh->RS)(ρ:En)(h:Hh):RS:=if e:∃ n,whL c b n ρ h≠.no then whL c b (Classical.choose e) ρ h else .no
theorem Uv {c:En->Hh->Res Bool}{b:En->Hh->RS}{n:Nat}{ρ:En}{h:Hh}{r:RS}(e:whL c b n ρ h=r)(z:r≠.no):whR c b ρ h=r:=by
 have ex:∃ n,whL c b n ρ h≠.no:=⟨n,by rw [e];exact z⟩;unfold whR;rw [dif_pos ex];have z2:=Classical.choose_spec ex;rw [<- Bo (Nat.le_max_left (Classical.choose ex) n) z2,Bo (Nat.le_max_right (Classical.choose ex) n) (by rw [e];exact z),e]
theorem WU {c:En->Hh->Res Bool}{b:En->Hh->RS}{ρ:En}{h:Hh}(z:whR c b ρ h≠.no):∃ n,whL c b n ρ h=whR c b ρ h:=by
 unfold whR at z ⊢;split at z
 ·rename_i e;exact ⟨_,by rw [dif_pos e]⟩
 ·exact absurd rfl z
theorem zX {c:En->Hh->Res Bool}{b:En->Hh->RS}{ρ ρ':En}{h h1 h':Hh}(ec:c ρ h=.ok true h1)(eb:b ρ h1=.nx ρ' h'):whR c b ρ h=whR c b ρ' h':=by
 by_cases z:whR c b ρ' h'=.no
 ·by_cases z2:whR c b ρ h=.no
  ·rw [z,z2]
  ·obtain ⟨n,e⟩:=WU z2;cases n with
   | zero=>rw [<- e] at z2;exact absurd rfl z2
   | succ n =>
    rw [whL,ec] at e;simp only [eb] at e;rw [<- Uv e z2]
 ·obtain ⟨n,e⟩:=WU z;exact Uv (n:=n+1) (by rw [whL,ec];simp only [eb];exact e) z
theorem jr {c:En->Hh->Res Bool}{b:En->Hh->RS}{ρ:En}{h h1:Hh}(ec:c ρ h=.ok false h1):whR c b ρ h=.nx ρ h1 :=
 Uv (n:=1) (by rw [whL,ec]) 133
noncomputable def tru (d:D)(h:Hh)(f:Bool->Hh->Res D):Res D:=match d with
 | .bl b=>f b h
 | _=>.no
noncomputable def qU:List D->Option (List Bool)
 | []=>some []
 | .bl b::r=>(qU r).map (b::·)
 | _::_=>none
noncomputable def c1D (f:F1)(a:D)(h:Hh):Res D:=match f,a with
 | .int,.int i=>.ok 222 h
 | .int,.bl b=>.ok (.int (if b then 1 else 0)) h
 | .int,.str x=>(match PySem.intText? x with | some n=>if x.length<=640 then .ok (.int n) h else .no | none=>.no)
 | .abs,.int i=>.ok (.int (if i<0 then -i else i)) h
 | .any,.loc n=>(match (rd h n).bind qU with | some bs=>.ok (.bl (bs.any id)) h | none=>.no)
 | _,_=>.no
noncomputable def Ye {α:Type}(f:Str)(v:α):List (Str×α)->List (Str×α)
 | []=>[(f,v)]
 | (g,x)::r=>if g=f then (g,v)::r else (g,x)::Ye f v r
noncomputable def yW (x:D)(f:Str)(h:Hh):Res D:=match x with
 | .loc n=>(match h[n]? with
  | some (.obj _ fs)=>(match fs.lookup f with | some d=>.ok d h | none=>.no)
  | _=>.no)
 | _=>.no
noncomputable def JG (x:Str)(ys:XY)(v:D)(h:Hh):Option Bool:=match v with
 | .loc n=>(match h[n]? with
  | some (.obj y _)=>if y∈ys then some (decide (y=x)) else none
  | _=>none)
 | _=>none
noncomputable def qe (x:D)(f:Str)(v:D)(h:Hh):Option Hh:=match x with
 | .loc n=>(match h[n]? with
  | some (.obj y fs)=>if fs.length<1000 then some (h.set n (.obj y (Ye f v fs))) else none
  | _=>none)
 | _=>none
noncomputable def mkR (n:Nat)(r:Res D):Res D:=match r with
 | .ok .non h=>.ok (.loc n) h
 | .exc c h=>.exc c h
 | _=>.no
noncomputable def WV (neg:Bool)(x:D)(h:Hh):Res D:=match x with
 | .fl xs=>.ok (.bl (ngB neg xs.isEmpty)) h
 | .loc n=>(match rd h n with | some xs=>.ok (.bl (ngB neg xs.isEmpty)) h | none=>.no)
 | _=>.no
noncomputable def lrD (x:D)(h:Hh):Res D:=match x with
 | .fl xs=>new (.lst xs.reverse) h
 | .loc n=>(match rd h n with | some xs=>new (.lst xs.reverse) h | none=>.no)
 | _=>.no
noncomputable def GO (x:D)(h:Hh):Res (Ck×List D):=match x with
 | .fl xs=>.ok ([],xs.reverse) h
 | .tup xs=>.ok ([],xs.reverse) h
 | .loc n=>(match rd h n with | some xs=>.ok ([(n,xs)],xs.reverse) h | none=>.no)
 | _=>.no
noncomputable def Cv.d:Cv->D
 | .tup xs=>.tup (xs.map .str)
 | .int i=>.int i
 | .fn _ _=>.non
 | .oth=>.non
noncomputable def Cv.isFn:Cv->Bool
 | .fn _ _=>true
 | .oth=>true
 | _=>false
noncomputable def z7x (kvs:List (Str×Cv))(y:D)(h:Hh):Res D:=match y with
 | .str k=>(match kvs.lookup k with | some c=>if c.isFn then .no else .ok c.d h | none=>.no)
 | _=>.no
noncomputable def fnOf (kvs:List (Str×Cv))(y:D):Option Nat:=match y with
 | .str k=>(match kvs.lookup k with | some (.fn i _)=>some i | _=>none)
 | _=>none
noncomputable def Vu:D->Option (Key×D)
 | .tup [k,v]=>(wn k).map λ q=>(q,v)
 | _=>none
noncomputable def wo:List D->Option (List (Key×D))
 | []=>some []
 | x::r=>match Vu x,wo r with
  | some a,some b=>some (a::b)
  | _,_=>none
noncomputable def yX (kvs more:237):List (Key×D):=more.foldl (λ acc kv=>wO acc kv.1 kv.2) kvs
noncomputable def Vv (x:D)(h:Hh):Res D:=match x with
 | .loc n=>(match rd h n with
  | some xs=>if xs.length<=1000000 then (match wo xs with | some kvs=>new (.dK (yX [] kvs)) h | none=>.no) else .no
  | none=>.no)
 | _=>.no
noncomputable def Vw (ks:List (Str×Pos))(n:Nat)(xs:163)(h:Hh):Res D:=match h[n]? with
 | some (.dK [])=>.ok (.loc n) (h.set n (.dK (yX [] ((ks.map λ q=>(Sum.inr q.1:Key)).zip xs))))
 | _=>.no
noncomputable def ZX (d:D)(h:Hh):D:=match d with
 | .loc n=>(match rd h n with | some xs=>.tup xs | none=>.non)
 | d=>d
@[simp] theorem unpD_tup {xs:163}{h:Hh}:ZX (.tup xs) h=.tup xs:=rfl
noncomputable def Bp (x:D)(h:Hh):Option (Ck×List D):=match x with
 | .tup xs=>some ([],xs)
 | .fl xs=>some ([],xs)
 | .loc n=>(rd h n).map λ xs=>([(n,xs)],xs)
 | _=>none
noncomputable def ZY (q:D×D):D:=.tup [q.1,q.2]
noncomputable def Uw (x y:D)(h:Hh):Res (Ck×List D):=match Bp x h with
 | some p=>(match Bp y h with
  | some q=>.ok (p.1++q.1,(p.2.zip q.2).map ZY) h
  | none=>.no)
 | none=>.no
noncomputable def js:Nat->List D->List D
 | _,[]=>[]
 | k,x::r=>.tup [.int (k:Nat),x]::js (k+1) r
noncomputable def Vx (x:D)(h:Hh):Res (Ck×List D):=match x with
 | .loc n=>match rd h n with
  | some xs=>.ok ([(n,xs)],js 0 xs) h
  | none=>.no
 | _=>.no
noncomputable def Xv.run (u:List Nat)(h:Hh):Xv->D×Hh
 | .and a b r _=>(.bl (a.val u&&(b.val u&&r.all (Xt.val u))),h)
 | .lst ts _=>(.loc h.length,h++[.lst (ts.map λ t=>.bl (t.val u))])
 | .one t=>(.bl (t.val u),h)
noncomputable section
variable (cl:136)
mutual
noncomputable def E.ev:E->En->Hh->Res D
 | .non _,_,h=>.ok .non h
 | .bl b _,_,h=>.ok (.bl b) h
 | .int i _,_,h=>.ok 222 h
 | .str x _,_,h=>.ok 248 h
 | .var i _,ρ,h=>match ρ[i]? with | some (some d)=>.ok d h | _=>.no
 | .bin op a b _,ρ,h=>(a.ev ρ h).bind λ x h1=>(b.ev ρ h1).bind λ y h2=>qw op x y h2
 | .un op a _,ρ,h=>(a.ev ρ h).bind λ x h1=>unD op x h1
 | .cmp op a b _,ρ,h=>(a.ev ρ h).bind λ x h1=>(b.ev ρ h1).bind λ y h2=>je op x y h2
 | .and a b r _,ρ,h=>(a.ev ρ h).bind λ x h1=>tru x h1 λ c h1=>if c then (b.ev ρ h1).bind λ y h2=>r.evAnd ρ y h2 else .ok (.bl false) h1
 | .or a b r _,ρ,h=>(a.ev ρ h).bind λ x h1=>tru x h1 λ c h1=>if c then .ok (.bl true) h1 else (b.ev ρ h1).bind λ y h2=>r.evOr ρ y h2
 | .ite c a b _,ρ,h=>(c.ev ρ h).bind λ x h1=>tru x h1 λ t h1=>if t then a.ev ρ h1 else b.ev ρ h1
 | .call f a r _ _,ρ,h=>(a.ev ρ h).bind λ x h1=>(r.ev ρ h1).bind λ xs h2=>cl f (x::xs) h2
 | .len a _ _,ρ,h=>(a.ev ρ h).bind λ x h1=>qS x h1
 | .isi T a _ _ _,ρ,h=>(a.ev ρ h).bind λ x h1=>match isI h1 x T with | some b=>.ok (.bl b) h1 | none=>.no
 | .isC y ys a _ _ _,ρ,h=>(a.ev ρ h).bind λ x h1=>match JG y ys x h1 with | some b=>.ok (.bl b) h1 | none=>.no
 | .sub a i _,ρ,h=>(a.ev ρ h).bind λ x h1=>(i.ev ρ h1).bind λ y h2=>jf x y h2
 | .tup es _,ρ,h=>(es.ev ρ h).bind λ xs h1=>if xs.length<=1000 then .ok (.tup xs) h1 else .no
 | .ofL l,ρ,h=>(l.ev ρ h).bind λ xs h1=>new 210 h1
 | .tupE e _ _,ρ,h=>(e.ev ρ h).bind λ x h1=>match jY x h1 with | some xs=>.ok (.tup xs) h1 | none=>.no
 | .listE e _ _,ρ,h=>(e.ev ρ h).bind λ x h1=>match jY x h1 with | some xs=>new (.lst xs) h1 | none=>.no
 | .dicP e _ _,ρ,h=>(e.ev ρ h).bind λ x h1=>Vv x h1
 | .dispD ks vs _,ρ,h=>(vs.ev ρ (h++[.dK []])).bind λ xs h1=>Vw ks h.length xs h1
 | .cut a lo hi _ _,ρ,h=>(a.ev ρ h).bind λ x h1=>(lo.ev ρ h1).bind λ l h2=>(hi.ev ρ h2).bind λ u h3=>Yd x l u h3
 | .dic _,_,h=>new (.dK []) h
 | .m0 m o _ _,ρ,h=>(o.ev ρ h).bind λ x h1=>m0D m x h1
 | .m1 m o a _ _,ρ,h=>(o.ev ρ h).bind λ x h1=>onL x h1 ((a.ev ρ h1).bind λ y h2=>m1D m x y h2)
 | .min2 a b _ _,ρ,h=>(a.ev ρ h).bind λ x h1=>(b.ev ρ h1).bind λ y h2=>match x,y with | .int i,.int j=>.ok (.int (if j<i then j else i)) h2 | _,_=>.no
 | .c1 f a _ _,ρ,h=>(a.ev ρ h).bind λ x h1=>c1D f x h1
 | .cmpN neg a _ _,ρ,h=>(a.ev ρ h).bind λ x h1=>WV neg x h1
 | .listR e _ _ _ _,ρ,h=>(e.ev ρ h).bind λ x h1=>lrD x h1
 | .gcon _ c _,_,h=>match c with | .int i=>.ok (.int i) h | .str x=>.ok 248 h | .tup xs=>.ok (.tup (xs.map .str)) h | .dic _=>.no | .exc _ _=>.no | .cls _=>.no | .isc _ _=>.no
 | .gsub _ kvs i _ _,ρ,h=>(i.ev ρ h).bind λ y h1=>z7x kvs y h1
 | .callG _ kvs key a r _ _ _,ρ,h=>(key.ev ρ h).bind λ y h1=>match fnOf kvs y with | some i=>(a.ev ρ h1).bind λ x h2=>(r.ev ρ h2).bind λ xs h3=>cl i (x::xs) h3 | none=>.no
 | .fld a f _,ρ,h=>(a.ev ρ h).bind λ x h1=>yW x f h1
 | .mk i x a r _ _,ρ,h=>(a.ev ρ h).bind λ y h1=>(r.ev ρ h1).bind λ ys h2=>mkR h2.length (cl i (.loc h2.length::y::ys) (h2++[.obj x []]))
noncomputable def Eo.ev:Eo->En->Hh->Res (Option Int)
 | .none,_,h=>.ok none h
 | .some e,ρ,h=>(e.ev ρ h).bind λ d h1=>z7w d h1
noncomputable def L.ev:L->En->Hh->Res (List D)
 | .disp es _,ρ,h=>(es.ev ρ h).bind λ xs h1=>if xs.length<=1000 then .ok xs h1 else .no
 | .comp elt t it c _ cap _ _,ρ,h=>(it.ev ρ h).bind λ q h1=>if q.2.length<=1000000 then zZ q.1 (ja t (jD cap ρ) (λ ρ' h2=>c.evC ρ' h2) (λ ρ' h2=>elt.ev ρ' h2)) q.2 [] h1 else .no
noncomputable def I.ev:I->En->Hh->Res (Ck×List D)
 | .seq e,ρ,h=>(e.ev ρ h).bind λ x h1=>match x with
  | .tup xs=>.ok ([],xs) h1
  | .fl xs=>.ok ([],xs) h1
  | .loc n=>match rd h1 n with | some xs=>.ok ([(n,xs)],xs) h1 | none=>.no
  | .str x=>.ok ([],x.cps.toList.map λ c=>.str ⟨#[c]⟩) h1
  | _=>.no
 | .lst l,ρ,h=>(l.ev ρ h).bind λ xs h1=>.ok ([],xs) h1
 | .rng a _ _,ρ,h=>(a.ev ρ h).bind λ x h1=>match x with
  | .int j=>if -1000000<=j/\j<=1000000 then .ok ([],(List.range j.toNat).map λ k=>.int (k:Nat)) h1 else .no
  | _=>.no
 | .rev e _ _,ρ,h=>(e.ev ρ h).bind λ x h1=>GO x h1
 | .zip a b _ _,ρ,h=>(a.ev ρ h).bind λ x h1=>(b.ev ρ h1).bind λ y h2=>Uw x y h2
 | .enum e _ _,ρ,h=>(e.ev ρ h).bind λ x h1=>Vx x h1
noncomputable def Es.evC:Es->En->Hh->Res Bool
 | .nil,_,h=>.ok true h
 | .cons e _,ρ,h=>(e.ev ρ h).bind λ d h1=>match d with | .bl b=>.ok b h1 | _=>.no
noncomputable def Es.ev:Es->En->Hh->Res (List D)
 | .nil,_,h=>.ok [] h
 | .cons e r,ρ,h=>(e.ev ρ h).bind λ x h1=>(r.ev ρ h1).bind λ xs h2=>.ok (x::xs) h2
noncomputable def Es.evAnd:Es->En->D->Hh->Res D
 | .nil,_,x,h=>.ok x h
 | .cons e r,ρ,x,h=>tru x h λ c h1=>if c then (e.ev ρ h1).bind λ y h2=>r.evAnd ρ y h2 else .ok (.bl false) h1
noncomputable def Es.evOr:Es->En->D->Hh->Res D
 | .nil,_,x,h=>.ok x h
 | .cons e r,ρ,x,h=>tru x h λ c h1=>if c then .ok (.bl true) h1 else (e.ev ρ h1).bind λ y h2=>r.evOr ρ y h2
end
noncomputable def E.evT (e:E)(ρ:En)(h:Hh):Res Bool:=(e.ev cl ρ h).bind λ d h1=>match d with | .bl b=>.ok b h1 | _=>.no
noncomputable def j2 {α:Type}(ρ:En)(r:Res α)(f:α->Hh->RS):RS:=match r with
 | .ok a h=>f a h
 | .exc c h=>.ex c ρ h
 | .no=>.no
@[simp] theorem andS_ok {α:Type}{ρ:En}{a:α}{h:Hh}{f:α->Hh->RS}:j2 ρ (.ok a h) f=f a h:=rfl
@[simp] theorem andS_exc {α:Type}{ρ:En}{c:Nat}{h:Hh}{f:α->Hh->RS}:j2 ρ (.exc c h) f=.ex c ρ h:=rfl
noncomputable def wq (o:RS)(f:En->Hh->RS):RS:=match o with
 | .nx ρ h=>f ρ h
 | o=>o
@[simp] theorem seqS_nx {ρ:En}{h:Hh}{f:En->Hh->RS}:wq (.nx ρ h) f=f ρ h:=rfl
@[simp] theorem seqS_rt {d:D}{h:Hh}{f:En->Hh->RS}:wq (.rt d h) f=.rt d h:=rfl
@[simp] theorem seqS_bk {ρ:En}{h:Hh}{f:En->Hh->RS}:wq (.bk ρ h) f=.bk ρ h:=rfl
@[simp] theorem seqS_ct {ρ:En}{h:Hh}{f:En->Hh->RS}:wq (.ct ρ h) f=.ct ρ h:=rfl
@[simp] theorem seqS_ex {c:Nat}{ρ:En}{h:Hh}{f:En->Hh->RS}:wq (.ex c ρ h) f=.ex c ρ h:=rfl
mutual
noncomputable def S.run:S->En->Hh->RS
 | .set i e _ _,ρ,h=>j2 ρ (e.ev cl ρ h) λ d h1=>.nx (ρ.set i (some d)) h1
 | .ret e _,ρ,h=>j2 ρ (e.ev cl ρ h) λ d h1=>.rt d h1
 | .iff c a b _,ρ,h=>j2 ρ (c.evT cl ρ h) λ t h1=>if t then a.run ρ h1 else b.run ρ h1
 | .ex e _,ρ,h=>j2 ρ (e.ev cl ρ h) λ _ h1=>.nx ρ h1
 | .put o i v _ _,ρ,h=>j2 ρ (v.ev cl ρ h) λ z h1=>j2 ρ (o.ev cl ρ h1) λ x h2=>j2 ρ (i.ev cl ρ h2) λ y h3=>match Yc x y z h3 with | some h4=>.nx ρ h4 | none=>.no
 | .putT o es v _ _ _,ρ,h=>j2 ρ (v.ev cl ρ h) λ z h1=>j2 ρ (o.ev cl ρ h1) λ x h2=>j2 ρ (es.ev cl ρ h2) λ ds h3=>if ds.length<1000 then (match putT x ds z h3 with | some h4=>.nx ρ h4 | none=>.no) else .no
 | .forr t it b _,ρ,h=>j2 ρ (it.ev cl ρ h) λ q h1=>jb q.1 (zJ t λ ρ' h'=>b.run ρ' h') q.2 ρ h1
 | .whil c b _,ρ,h=>whR (λ ρ' h'=>c.evT cl ρ' h') (λ ρ' h'=>b.run ρ' h') ρ h
 | .pass _,ρ,h=>.nx ρ h
 | .retN _,_,h=>.rt .non h
 | .setF o f v _ _,ρ,h=>j2 ρ (v.ev cl ρ h) λ z h1=>j2 ρ (o.ev cl ρ h1) λ x h2=>match qe x f z h2 with | some h3=>.nx ρ h3 | none=>.no
 | .brk _,ρ,h=>.bk ρ h
 | .cnt _,ρ,h=>.ct ρ h
 | .raw _,_,_=>.no
 | .setT is e p1 _,ρ,h=>j2 ρ (e.ev cl ρ h) λ d h1=>match jq (.tup is p1) (ZX d h1) ρ with | some ρ'=>.nx ρ' h1 | none=>.no
noncomputable def Ss.run:Ss->En->Hh->RS
 | .nil,ρ,h=>.nx ρ h
 | .cons s r,ρ,h=>wq (s.run ρ h) λ ρ' h'=>r.run ρ' h'
end
end
noncomputable def zQ:Stmt->List Stmt
 | .ClassDef _ _ _ b _ _ _ _ _ _ _=>b
 | _=>[]
structure Df where
 name:Str
 ps:List Str
 N:List Str
 body:Ss
noncomputable def WW:RS->Res D
 | .rt v h'=>.ok v h'
 | .nx _ h'=>.ok .non h'
 | .ex c _ h'=>.exc c h'
 | _=>.no
noncomputable def Df.run (cl:136)(d:Df)(as:163)(h:Hh):Res D :=
 WW (d.body.run cl (as.map some++List.replicate (d.N.length-as.length) none) h)
noncomputable def callI (ds:List Df):Nat->Nat->List D->Hh->Res D
 | 0,_,_,_=>.no
 | k+1,f,as,h=>match ds[f]? with
  | some d=>if as.length=d.ps.length then d.run (callI ds k) as h else .no
  | none=>.no
section
variable {i j:Int}{h:Hh}{x y:Str}{b c:Bool}{d e:D}{xs:163}
@[simp] theorem bin_add:qw .Add 222 (.int j) h=.ok (.int (i+j)) h:=rfl
@[simp] theorem bin_sub:qw .Sub 222 (.int j) h=.ok (.int (i-j)) h:=rfl
@[simp] theorem bin_mul:qw .Mult 222 (.int j) h=if fits i=true/\fits j=true then .ok (.int (i*j)) h else .no:=rfl
@[simp] theorem bin_fdiv:qw .FloorDiv 222 (.int j) h=if 0<j/\j<1073741824 then .ok (.int (i/j)) h else .no:=rfl
@[simp] theorem bin_mod:qw .Mod 222 (.int j) h=if 0<j then .ok (.int (i%j)) h else .no:=rfl
@[simp] theorem bin_pow:qw .Pow 222 (.int j) h=if 0<=j/\j<=1000000/\i.natAbs<2 ^ 64 then .ok (.int (i ^ j.toNat)) h else .no:=rfl
@[simp] theorem bin_adds:qw .Add 248 (.str y) h=if x.length+y.length<=1000000 then .ok (.str (x++y)) h else .no:=rfl
@[simp] theorem cmp_lt:je .Lt 222 (.int j) h=.ok (.bl (decide (i<j))) h:=rfl
@[simp] theorem cmp_le:je .LtE 222 (.int j) h=.ok (.bl (decide (i<=j))) h:=rfl
@[simp] theorem cmp_gt:je .Gt 222 (.int j) h=.ok (.bl (decide (j<i))) h:=rfl
@[simp] theorem cmp_ge:je .GtE 222 (.int j) h=.ok (.bl (decide (j<=i))) h:=rfl
@[simp] theorem cmp_eq:je .Eq d e h=eqR false (pdT h d) (pdT h e) h:=rfl
@[simp] theorem cmp_ne:je .NotEq d e h=eqR true (pdT h d) (pdT h e) h:=rfl
@[simp] theorem cmp_in:je .In d e h=inD false d e h:=rfl
@[simp] theorem cmp_notin:je .NotIn d e h=inD true d e h:=rfl
theorem z24 {neg:Bool}{ys:XY}:JF neg 248 (ys.map .str) h=.ok (.bl (ngB neg (ys.any λ y=>y==x))) h:=by
 unfold JF;rw [if_pos ⟨rfl,by simp [Wa]⟩,List.any_map];rfl
@[simp] theorem cmp_isN:je .Is d .non h=.ok (.bl (match d with | .non=>true | _=>false)) h:=by cases d<;>rfl
@[simp] theorem cmp_isnotN:je .IsNot d .non h=.ok (.bl (match d with | .non=>false | _=>true)) h:=by cases d<;>rfl
@[simp] theorem cmp_is:je .Is (.bl b) (.bl c) h=.ok (.bl (b==c)) h:=rfl
@[simp] theorem cmp_isnot:je .IsNot (.bl b) (.bl c) h=.ok (.bl (!(b==c))) h:=rfl
@[simp] theorem eqR_some {neg:Bool}{u v:PyData}:eqR neg (some u) (some v) h=if u.canLay0=true/\v.canLay0=true/\u.depth<=60 then .ok (.bl (if neg then !PyData.eqv u v else PyData.eqv u v)) h else .no:=rfl
@[simp] theorem pdT_non:pdT h .non=some .none:=by unfold pdT D.pd;rfl
@[simp] theorem pdT_bl:pdT h (.bl b)=some (.bool b):=by unfold pdT D.pd;rfl
@[simp] theorem pdT_int:pdT h 222=some 222:=by unfold pdT D.pd;rfl
@[simp] theorem pdT_str:pdT h 248=some 248:=by unfold pdT D.pd;rfl
@[simp] theorem pdT_tup:pdT h (.tup xs)=(D.pds h xs).map .tuple:=by unfold pdT D.pd;rfl
@[simp] theorem pdT_loc {n:Nat}:pdT h (.loc n)=(rd h n).bind λ xs=>(D.pds h xs).map .list:=rfl
@[simp] theorem pds_nil:D.pds h []=some []:=by unfold D.pds;rfl
@[simp] theorem un_not:unD .Not (.bl b) h=.ok (.bl (!b)) h:=rfl
@[simp] theorem un_invert:unD .Invert 222 h=.ok (.int (Builtin.bitNot i)) h:=rfl
@[simp] theorem un_usub:unD .USub 222 h=.ok (.int (-i)) h:=rfl
@[simp] theorem pdT_fl:pdT h (.fl xs)=(D.pds h xs).map .list:=by unfold pdT D.pd;rfl
@[simp] theorem len_fl:qS (.fl xs) h=.ok (.int xs.length) h:=rfl
@[simp] theorem sub_fl:jf (.fl xs) 222 h=match atI xs i with | some d=>.ok d h | none=>.no:=rfl
@[simp] theorem len_tup:qS (.tup xs) h=.ok (.int xs.length) h:=rfl
@[simp] theorem len_loc {n:Nat}:qS (.loc n) h=match rd h n with | some xs=>.ok (.int xs.length) h | none=>.no:=rfl
@[simp] theorem len_str:qS 248 h=if x.length<=1000000 then .ok (.int x.length) h else .no:=rfl
@[simp] theorem sub_tup:jf (.tup xs) 222 h=match atI xs i with | some d=>.ok d h | none=>.no:=rfl
@[simp] theorem bin_addt {ys:163}:qw .Add (.tup xs) (.tup ys) h=if xs.length+ys.length<=1000000 then .ok (.tup (xs++ys)) h else .no:=rfl
@[simp] theorem bin_addl {n m:Nat}:qw .Add (.loc n) 221 h=(match h[n]?,h[m]? with
  | some (.lst xs),some (.lst ys)=>if xs.length+ys.length<=1000000 then .ok (.loc h.length) (h++[.lst (xs++ys)]) else .no
  | _,_=>.no):=rfl
theorem WX:jf 248 222 h=if x.length<=1000000 then (match atI x.cps.toList i with | some c=>.ok (.str ⟨#[c]⟩) h | none=>.no) else .no:=rfl
theorem z25 {n:Nat}{y:D}:jf (.loc n) y h=(match h[n]? with
  | some (.dK kvs)=>match (wn y).bind (λ k=>zF kvs k) with | some d=>.ok d h | none=>.no
  | some (.dT kvs)=>match (jC y).bind (λ k=>zF kvs k) with | some d=>.ok d h | none=>.no
  | some (.lst xs)=>match y with
   | .int k=>match atI xs k with | some d=>.ok d h | none=>.no
   | _=>.no
  | _=>.no):=rfl
@[simp] theorem tru_bl {f:Bool->Hh->Res D}:tru (.bl b) h f=f b h:=rfl
end
theorem zb {ds:List Df}{k i:Nat}{d:Df}{as:163}{h:Hh}(hd:ds[i]?=some d)(hl:as.length=d.ps.length):callI ds (k+1) i as h=d.run (callI ds k) as h:=by
 unfold callI;rw [hd];exact if_pos hl
theorem za6 {α:Type}{P:List α->Prop}(f:P [])(us:List α)(hl:us.length=0):P us:=by
 cases us with
 | nil=>exact f
 | cons=>cases hl
theorem GP {α:Type}{n:Nat}{P:List α->Prop}(f:∀ a us,us.length=n->P (a::us))(us:List α)(hl:us.length=n+1):P us:=by
 cases us with
 | nil=>cases hl
 | cons a r=>exact f a r (Nat.succ.inj hl)
theorem yf {α:Type}{P:List α->Prop}(f:∀ a,P [a]):∀ us:List α,us.length=1->P us:=GP λ a=>za6 (P:=λ us=>P (a::us)) (f a)
theorem jt {α:Type}{P:List α->Prop}(f:∀ a b,P [a,b]):∀ us:List α,us.length=2->P us:=GP λ a=>yf (P:=λ us=>P (a::us)) (f a)
theorem GQ {α:Type}{P:List α->Prop}(f:∀ a b c,P [a,b,c]):∀ us:List α,us.length=3->P us:=GP λ a=>jt (P:=λ us=>P (a::us)) (f a)
theorem GR {α:Type}{P:List α->Prop}(f:∀ a b c d,P [a,b,c,d]):∀ us:List α,us.length=4->P us:=GP λ a=>GQ (P:=λ us=>P (a::us)) (f a)
theorem GS {α:Type}{P:List α->Prop}(f:∀ a b c d e,P [a,b,c,d,e]):∀ us:List α,us.length=5->P us:=GP λ a=>GR (P:=λ us=>P (a::us)) (f a)
theorem za7 {α:Type}{P:List α->Prop}(f:∀ a b c d e f,P [a,b,c,d,e,f]):∀ us:List α,us.length=6->P us:=GP λ a=>GS (P:=λ us=>P (a::us)) (f a)
end PI
namespace PI
open PySem L2
noncomputable def Fz (K:Y00)(H:Hp)(a:Addr)(vs:211):Prop:=(∃ o,H a=some (.frz o (.lst vs)))\/∀ H',SqL K H' a vs
theorem Fz.sq (h:Fz K H a vs):SqL K H a vs:=h.elim (λ ⟨o,q⟩=>.inl (.inr ⟨o,q⟩)) λ q=>q H
mutual
inductive Rep (K:Y00)(μ:XV)(H:Hp):D->V->Prop
 | non:Rep K μ H .non .non
 | bl (b:Bool):Rep K μ H (.bl b) (.bl b)
 | int (i:Int):Rep K μ H 222 222
 | str (x:Str):Rep K μ H 248 248
 | tup {ds:163}{vs:211}{a:Addr}:SqT K H a vs->Reps K μ H ds vs->Rep K μ H (.tup ds) (.ref a)
 | loc {n:Nat}{a:Addr}:μ[n]?=some a->Rep K μ H (.loc n) (.ref a)
 | fl {ds:163}{vs:211}{a:Addr}:Fz K H a vs->Reps K μ H ds vs->Rep K μ H (.fl ds) (.ref a)
inductive Reps (K:Y00)(μ:XV)(H:Hp):List D->List V->Prop
 | nil:Reps K μ H [] []
 | cons {d:D}{v:V}{ds:163}{vs:211}:Rep K μ H d v->Reps K μ H ds vs->Reps K μ H (d::ds) (v::vs)
end
structure Ext (K:Y00)(μ:XV)(H:Hp)(μ':XV)(H':Hp):Prop where
 loc:∀ (n:Nat) a,μ[n]?=some a->μ'[n]?=some a
 tup:∀ a xs,SqT K H a xs->SqT K H' a xs
 fz:∀ a xs,Fz K H a xs->Fz K H' a xs
 oth:∀ a o,H a=some o->a∉μ->H' a=some o
 new:∀ a,a∈μ'->a∈μ\/H a=none
theorem Ext.refl:Ext K μ H μ H:=⟨λ _ _ h=>h,λ _ _ h=>h,λ _ _ h=>h,λ _ _ h _=>h,λ _ h=>.inl h⟩
theorem Ext.sub (a:Ext K μ H μ1 H1)(h:x∈μ):x∈μ1:=by
 obtain ⟨n,hn⟩:=Y3d h;exact Y1i (a.loc n x hn)
theorem Ext.apart (a:Ext K μ H μ1 H1)(h:H x=some o)(n:x∉μ):x∉μ1:=λ z=>by
 rcases a.new x z with q | q
 ·exact n q
 ·rw [h] at q;cases q
theorem Ext.trans (a:Ext K μ H μ1 H1)(b:Ext K μ1 H1 μ2 H2):Ext K μ H μ2 H2:=by
 refine ⟨λ n x h=>b.loc n x (a.loc n x h),λ x y h=>b.tup x y (a.tup x y h),λ x y h=>b.fz x y (a.fz x y h),λ x o h n=>b.oth x o (a.oth x o h n) (a.apart h n),λ x h=>?_⟩;rcases b.new x h with z | z
 ·exact a.new x z
 ·by_cases hx:x∈μ
  ·exact .inl hx
  ·right;cases e:H x with
   | none=>rfl
   | some o=>rw [a.oth x o e hx] at z;cases z
mutual
theorem Rep.mono (e:Ext K μ H μ' H'):∀ {d:D}{v:V},Rep K μ H d v->Rep K μ' H' d v
 | _,_,.non=>.non
 | _,_,.bl b=>.bl b
 | _,_,.int i=>.int i
 | _,_,.str x=>.str x
 | _,_,.tup h r=>.tup (e.tup _ _ h) (Reps.mono e r)
 | _,_,.loc h=>.loc (e.loc _ _ h)
 | _,_,.fl h r=>.fl (e.fz _ _ h) (Reps.mono e r)
theorem Reps.mono (e:Ext K μ H μ' H'):∀ {ds:163}{vs:211},Reps K μ H ds vs->Reps K μ' H' ds vs
 | _,_,.nil=>.nil
 | _,_,.cons h r=>.cons (Rep.mono e h) (Reps.mono e r)
end
mutual
theorem Rep.mono' (e:∀ (n:Nat) a,μ[n]?=some a->μ'[n]?=some a):∀ {d:D}{v:V},Rep K μ H d v->Rep K μ' H d v
 | _,_,.non=>.non
 | _,_,.bl b=>.bl b
 | _,_,.int i=>.int i
 | _,_,.str x=>.str x
 | _,_,.tup h r=>.tup h (Reps.mono' e r)
 | _,_,.loc h=>.loc (e _ _ h)
 | _,_,.fl h r=>.fl h (Reps.mono' e r)
theorem Reps.mono' (e:∀ (n:Nat) a,μ[n]?=some a->μ'[n]?=some a):∀ {ds:163}{vs:211},Reps K μ H ds vs->Reps K μ' H ds vs
 | _,_,.nil=>.nil
 | _,_,.cons h r=>.cons (Rep.mono' e h) (Reps.mono' e r)
end
theorem Reps.length:∀ {ds:163}{vs:211},Reps K μ H ds vs->ds.length=vs.length
 | _,_,.nil=>rfl
 | _,_,.cons _ r=>by rw [Y03,Y03,r.length]
theorem Reps.get:∀ {ds:163}{vs:211}{i:Nat}{d:D},Reps K μ H ds vs->ds[i]?=some d->∃ v,vs[i]?=some v/\Rep K μ H d v
 | _,_,_,_,.nil,e=>by simp at e
 | _,_,0,_,.cons h _,e=>by simp at e;subst e;exact ⟨_,rfl,h⟩
 | _,_,i+1,d,.cons _ r,e=>by
  obtain ⟨v,h1,h2⟩:=Reps.get r (by simpa using e);exact ⟨v,by simpa using h1,h2⟩
theorem Reps.append:∀ {ds es:163}{vs ws:211},Reps K μ H ds vs->Reps K μ H es ws->Reps K μ H (ds++es) (vs++ws)
 | _,_,_,_,.nil,r=>r
 | _,_,_,_,.cons h t,r=>.cons h (t.append r)
theorem Reps.atI (r:Reps K μ H ds vs)(e:L2.atI ds k=some d):∃ v,L2.atI vs k=some v/\Rep K μ H d v:=by
 unfold L2.atI at e ⊢;rw [<- r.length];cases h:ixN ds.length k with
 | none=>rw [h] at e;cases e
 | some j =>
  rw [h] at e;exact r.get e
inductive RepKs {κ:Type}(K:Y00)(μ:XV)(H:Hp):List (κ×D)->List (κ×V)->Prop
 | nil:RepKs K μ H [] []
 | cons {k:κ}{d:D}{v:V}{ds:List (κ×D)}{vs:List (κ×V)}:Rep K μ H d v->RepKs K μ H ds vs->RepKs K μ H ((k,d)::ds) ((k,v)::vs)
theorem RepKs.mono (e:Ext K μ H μ' H'):∀ {ds:List (κ×D)}{vs:List (κ×V)},RepKs K μ H ds vs->RepKs K μ' H' ds vs
 | _,_,.nil=>.nil
 | _,_,.cons h r=>.cons (h.mono e) (r.mono e)
theorem RepKs.length:∀ {ds:List (κ×D)}{vs:List (κ×V)},RepKs K μ H ds vs->ds.length=vs.length
 | _,_,.nil=>rfl
 | _,_,.cons _ r=>by rw [Y03,Y03,r.length]
inductive RepFs (K:Y00)(μ:XV)(H:Hp):List (Str×D)->List (Str×V)->Prop
 | nil:RepFs K μ H [] []
 | cons {f:Str}{d:D}{v:V}{ds:List (Str×D)}{vs:List (Str×V)}:Rep K μ H d v->RepFs K μ H ds vs->RepFs K μ H ((f,d)::ds) ((f,v)::vs)
theorem RepFs.mono (e:Ext K μ H μ' H'):∀ {ds:List (Str×D)}{vs:List (Str×V)},RepFs K μ H ds vs->RepFs K μ' H' ds vs
 | _,_,.nil=>.nil
 | _,_,.cons h r=>.cons (h.mono e) (r.mono e)
theorem RepFs.mono' (e:∀ (n:Nat) a,μ[n]?=some a->μ'[n]?=some a):∀ {ds:List (Str×D)}{vs:List (Str×V)},RepFs K μ H ds vs->RepFs K μ' H ds vs
 | _,_,.nil=>.nil
 | _,_,.cons h r=>.cons (h.mono' e) (r.mono' e)
theorem RepFs.length:∀ {ds:List (Str×D)}{vs:List (Str×V)},RepFs K μ H ds vs->ds.length=vs.length
 | _,_,.nil=>rfl
 | _,_,.cons _ r=>by rw [Y03,Y03,r.length]
theorem RepFs.get:∀ {ds:List (Str×D)}{vs:List (Str×V)},RepFs K μ H ds vs->ds.lookup f=some d->∃ v,vs.lookup f=some v/\Rep K μ H d v
 | _,_,.nil,e=>by cases e
 | _,_,@RepFs.cons _ _ _ g _ _ _ _ h r,e=>by
  rw [List.lookup] at e ⊢;cases c:f==g with
  | true=>rw [c] at e;cases e;exact ⟨_,rfl,h⟩
  | false=>rw [c] at e;exact r.get e
theorem RepFs.put (q:Rep K μ H d v):∀ {ds:List (Str×D)}{vs:List (Str×V)},RepFs K μ H ds vs->RepFs K μ H (Ye f d ds) (wK f v vs)
 | _,_,.nil=>.cons q .nil
 | _,_,@RepFs.cons _ _ _ g _ _ _ _ h r=>by
  rw [Ye,wK];by_cases c:g=f
  ·rw [if_pos c,if_pos c];exact .cons q r
  ·rw [if_neg c,if_neg c];exact .cons h (r.put q)
noncomputable def j4:List Str:=["named","clauses","bound","doing","left","standing","record","used","end","tasks","numbers","known","block","held","went","name","kept"]
structure ClsN (K:Y00)(x:Str)(C:Addr):Prop where
 nm:PySem.W.nsIn K mainGlobals x=some (some (.ref C))
 cl:Cls K C
 na:∀ f∈j4,NoAttr K C f
noncomputable def RepO (K:Y00)(μ:XV)(H:Hp)(a:Addr):O->Prop
 | .lst ds=>∃ vs,H a=some (.lst vs)/\Reps K μ H ds vs
 | .dK kvs=>∃ vs,H a=some (.dK vs)/\RepKs K μ H kvs vs
 | .dT kvs=>∃ vs,H a=some (.dT vs)/\RepKs K μ H kvs vs
 | .obj x fs=>∃ C dx vs,H a=some (.ins C dx vs)/\ClsN K x C/\RepFs K μ H fs vs
theorem RepKs.mono' (e:∀ (n:Nat) a,μ[n]?=some a->μ'[n]?=some a):∀ {ds:List (κ×D)}{vs:List (κ×V)},RepKs K μ H ds vs->RepKs K μ' H ds vs
 | _,_,.nil=>.nil
 | _,_,.cons h r=>.cons (h.mono' e) (r.mono' e)
theorem RepO.mono' (e:∀ (n:Nat) a,μ[n]?=some a->μ'[n]?=some a)(r:RepO K μ H a o):RepO K μ' H a o:=by
 cases o with
 | lst ds=>obtain ⟨vs,q,r⟩:=r;exact ⟨vs,q,r.mono' e⟩
 | dK ds=>obtain ⟨vs,q,r⟩:=r;exact ⟨vs,q,r.mono' e⟩
 | dT ds=>obtain ⟨vs,q,r⟩:=r;exact ⟨vs,q,r.mono' e⟩
 | obj x fs=>obtain ⟨C,dx,vs,q,c,r⟩:=r;exact ⟨C,dx,vs,q,c,r.mono' e⟩
structure HR (K:Y00)(μ:XV)(h:Hh)(H:Hp):Prop where
 len:μ.length=h.length
 inj:∀ (n m:Nat) (a:Addr),μ[n]?=some a->μ[m]?=some a->n=m
 obj:∀ (n:Nat) (a:Addr) (o:O),μ[n]?=some a->h[n]?=some o->RepO K μ H a o
theorem HR.fresh (r:HR K μ h H)(hp:H p=none):p∉μ:=λ z=>by
 obtain ⟨n,hn⟩:=Y3d z;have hl:n<h.length:=by rw [<- r.len];exact (Y0f.mp hn).1
 have:=r.obj n p h[n] hn (Y0j hl)
 cases e:h[n] with
 | lst ds=>rw [e] at this;obtain ⟨vs,q,_⟩:=this;rw [hp] at q;cases q
 | dK ds=>rw [e] at this;obtain ⟨vs,q,_⟩:=this;rw [hp] at q;cases q
 | dT ds=>rw [e] at this;obtain ⟨vs,q,_⟩:=this;rw [hp] at q;cases q
 | obj x fs=>rw [e] at this;obtain ⟨C,dx,vs,q,_⟩:=this;rw [hp] at q;cases q
theorem zo (hp:H p=none):Ext K μ H μ (upd H p u) :=
 ⟨λ _ _ h=>h,λ a xs h=>by
  rcases h with h | h
  ·left;rcases h with h | ⟨o,h⟩
   ·exact .inl (by rw [zp (λ z=>by rw [z,hp] at h;cases h)];exact h)
   ·exact .inr ⟨o,by rw [zp (λ z=>by rw [z,hp] at h;cases h)];exact h⟩
  ·exact .inr h,λ a xs h=>by
  rcases h with ⟨o,h⟩ | h
  ·exact .inl ⟨o,by rw [zp (λ z=>by rw [z,hp] at h;cases h)];exact h⟩
  ·exact .inr h,λ a o h _=>by rw [zp (λ z=>by rw [z,hp] at h;cases h)];exact h,λ _ h=>.inl h⟩
theorem Ext.add (e:Ext K μ H μ' H')(hp:H p=none):Ext K μ H (μ'++[p]) H' :=
 ⟨λ n a h=>by rw [Y16 (Y0f.mp (e.loc n a h)).1];exact e.loc n a h,e.tup,e.fz,e.oth,
  λ a h=>by
   rcases Y0r.mp h with h | h
   ·exact e.new a h
   ·rw [Y07.mp h];exact .inr hp⟩
theorem RepO.keep (e:Ext K μ H μ' H')(k:∀ u,H a=some u->H' a=some u)(r:RepO K μ H a o):RepO K μ' H' a o:=by
 cases o with
 | lst ds=>obtain ⟨vs,q,r⟩:=r;exact ⟨vs,k _ q,r.mono e⟩
 | dK ds=>obtain ⟨vs,q,r⟩:=r;exact ⟨vs,k _ q,r.mono e⟩
 | dT ds=>obtain ⟨vs,q,r⟩:=r;exact ⟨vs,k _ q,r.mono e⟩
 | obj x fs=>obtain ⟨C,dx,vs,q,c,r⟩:=r;exact ⟨C,dx,vs,k _ q,c,r.mono e⟩
theorem Bq (hp:H p=none)(h:H a=some w):upd H p u a=some w:=by
 rw [zp (λ z=>by rw [z,hp] at h;cases h)];exact h
theorem HR.tup (r:HR K μ h H)(hp:H p=none):HR K μ h (upd H p u) :=
 ⟨r.len,r.inj,λ n a o e1 e2=>(r.obj n a o e1 e2).keep (zo hp) λ _ q=>Bq hp q⟩
theorem HR.add (r:HR K μ h H)(hp:p∉μ)(q:∀ μ',(∀ (n:Nat) a,μ[n]?=some a->μ'[n]?=some a)->RepO K μ' H p o):HR K (μ++[p]) (h++[o]) H:=by
 have gr:∀ (n:Nat) a,μ[n]?=some a->(μ++[p])[n]?=some a:=λ n a e=>by rw [Y16 (Y0f.mp e).1];exact e
 refine ⟨by rw [Y01,Y01,r.len];rfl,λ n m a e1 e2=>?_,λ n a o1 e1 e2=>?_⟩
 ·have key:∀ (n:Nat) (a:Addr),(μ++[p])[n]?=some a->(n<μ.length/\μ[n]?=some a)\/(n=μ.length/\a=p):=λ n a e=>by
   by_cases hn:n<μ.length
   ·rw [Y16 hn] at e;exact .inl ⟨hn,e⟩
   ·right;rw [Y09 117] at e
    have:n-μ.length=0:=by
     cases q:n-μ.length with
     | zero=>rfl
     | succ z=>rw [q] at e;simp at e
    rw [this] at e;simp at e;exact ⟨by omega,e.symm⟩
  rcases key n a e1 with ⟨hn,q1⟩ | ⟨hn,q1⟩<;>rcases key m a e2 with ⟨hm,q2⟩ | ⟨hm,q2⟩
  ·exact r.inj n m a q1 q2
  ·exact absurd (Y1i q1) (q2▸hp)
  ·exact absurd (Y1i q2) (q1▸hp)
  ·omega
 ·by_cases hn:n<μ.length
  ·rw [Y16 hn] at e1;rw [Y16 (by rw [<- r.len];exact hn)] at e2;exact (r.obj n a o1 e1 e2).mono' gr
  ·rw [Y09 117] at e1;have hz:n-μ.length=0:=by
    cases z:n-μ.length with
    | zero=>rfl
    | succ y=>rw [z] at e1;simp at e1
   rw [hz] at e1;simp at e1;subst e1;rw [Y09 (by rw [<- r.len];omega),<- r.len,hz] at e2;simp at e2;subst e2;exact q _ gr
theorem HR.alloc (r:HR K μ h H)(hp:H p=none)(hm:p∉μ)(q:∀ μ',(∀ (n:Nat) a,μ[n]?=some a->μ'[n]?=some a)->RepO K μ' (upd H p u) p o):HR K (μ++[p]) (h++[o]) (upd H p u) :=
 (r.tup hp).add hm q
theorem HR.chg (r:HR K μ h H)(hn:h[n]?=some o)(ha:μ[n]?=some a)
  (q:∀ H',Ext K μ H μ H'->H' a=some u->RepO K μ H' a o'):HR K μ (h.set n o') (upd H a u)/\Ext K μ H μ (upd H a u):=by
 obtain ⟨w,hw,nt,nf⟩:∃ w,H a=some w/\(∀ xs,w≠.tup xs)/\∀ o x,w≠.frz o x:=by
  have z:=r.obj n a o ha hn;cases o with
  | lst ds=>obtain ⟨vs,e,_⟩:=z;exact ⟨_,e,λ _ y=>(nomatch y),λ _ _ y=>(nomatch y)⟩
  | dK ds=>obtain ⟨vs,e,_⟩:=z;exact ⟨_,e,λ _ y=>(nomatch y),λ _ _ y=>(nomatch y)⟩
  | dT ds=>obtain ⟨vs,e,_⟩:=z;exact ⟨_,e,λ _ y=>(nomatch y),λ _ _ y=>(nomatch y)⟩
  | obj x fs=>obtain ⟨C,dx,vs,e,_⟩:=z;exact ⟨_,e,λ _ y=>(nomatch y),λ _ _ y=>(nomatch y)⟩
 have ht:∀ b xs,SqT K H b xs->SqT K (upd H a u) b xs:=λ b xs z=>by
  rcases z with z | z
  ·left;rcases z with z | ⟨ob,z⟩
   ·exact .inl (by rw [zp (λ y=>by rw [y,hw] at z;exact nt _ (Option.some.inj z))];exact z)
   ·exact .inr ⟨ob,by rw [zp (λ y=>by rw [y,hw] at z;exact nf _ _ (Option.some.inj z))];exact z⟩
  ·exact .inr z
 have hf:∀ b xs,Fz K H b xs->Fz K (upd H a u) b xs:=λ b xs z=>by
  rcases z with ⟨ob,z⟩ | z
  ·exact .inl ⟨ob,by rw [zp (λ y=>by rw [y,hw] at z;exact nf _ _ (Option.some.inj z))];exact z⟩
  ·exact .inr z
 have ex:Ext K μ H μ (upd H a u):=⟨λ _ _ z=>z,ht,hf,λ b v e z=>by rw [zp (λ (y:b=a)=>z (by rw [y];exact Y1i ha))];exact e,λ _ z=>.inl z⟩;have hl:=(Y0f.mp hn).1;refine ⟨⟨by rw [Y0k];exact r.len,r.inj,λ m b v e1 e2=>?_⟩,ex⟩;by_cases hmn:m=n
 ·subst hmn;rw [Y0b hl] at e2;cases e2;rw [ha] at e1;cases e1;exact q _ ex zA
 ·rw [Y1e (Ne.symm hmn)] at e2;have nb:b≠a:=λ y=>hmn (r.inj m n a (y▸e1) ha);exact (r.obj m b v e1 e2).keep ex λ _ g=>by rw [zp nb];exact g
structure ER (K:Y00)(μ:XV)(ρ:En)(σ:St)(H:Hp):Prop where
 len:ρ.length=σ.length
 val:∀ (i:Nat) d,ρ[i]?=some (some d)->∃ v,σ[i]?=some (some v)/\Rep K μ H d v
theorem ER.mono (r:ER K μ ρ σ H)(e:Ext K μ H μ' H'):ER K μ' ρ σ H' :=
 ⟨r.len,λ i d h=>let ⟨v,a,b⟩:=r.val i d h;⟨v,a,b.mono e⟩⟩
theorem ER.set (r:ER K μ ρ σ H)(q:Rep K μ H d v)(i:Nat):ER K μ (ρ.set i (some d)) (σ.set i (some v)) H:=by
 refine ⟨by rw [Y0k,Y0k,r.len],λ j e hj=>?_⟩;by_cases hij:i=j
 ·subst hij;rw [List.getElem?_set] at hj ⊢;have hl:i<ρ.length:=by
   by_cases hl:i<ρ.length
   ·exact hl
   ·rw [if_pos rfl,if_neg hl] at hj;cases hj
  rw [if_pos rfl,if_pos hl] at hj;rw [if_pos rfl,if_pos (by rw [<- r.len];exact hl)];cases hj;exact ⟨v,rfl,q⟩
 ·rw [Y1e hij] at hj ⊢;exact r.val j e hj
noncomputable def PostE {α β:Type}(K:Y00)(cv:XX)(R:List Addr->Hp->α->β->Prop)(μ:XV)(H:Hp)(r:Res α)(Q:β->Hp->Prop)(Z:Value->Hp->Prop):Prop :=
 match r with
 | .ok d h'=>∀ μ' H' v,Ext K μ H μ' H'->HR K μ' h' H'->R μ' H' d v->Q v H'
 | .exc c h'=>False
 | .no=>False
noncomputable def zy {α β:Type}(K:Y00)(cv:XX)(R:List Addr->Hp->α->β->Prop)(Z:ZK)(m:En->Hh->Res α):St->Hp->(β->Hp->Prop)->Prop :=
 λ σ H Q=>∃ μ ρ h,HR K μ h H/\ER K μ ρ σ H/\PostE K cv R μ H (m ρ h) Q (Z σ)
theorem ze {G:Prop}(f:∀ μ ρ h,HR K μ h H->ER K μ ρ σ H->PostE K cv R μ H (m ρ h) Q (Z σ)->G)(x:zy K cv R Z m σ H Q):G:=by
 obtain ⟨μ,ρ,h,hr,er,q⟩:=x;exact f μ ρ h hr er q
theorem zf {f:α->Hh->Res γ}
  (hr:HR K μ h H) (er:ER K μ ρ σ H) (p:PostE K cv R' μ H ((m ρ h).bind f) Q (Z σ))
  (go:∀ a h1 μ1 H1 x,m ρ h=.ok a h1->Ext K μ H μ1 H1->HR K μ1 h1 H1->ER K μ1 ρ σ H1->R μ1 H1 a x->PostE K cv R' μ1 H1 (f a h1) Q (Z σ)->Q' x H1) :
  zy K cv R Z m σ H Q':=by
 refine ⟨μ,ρ,h,hr,er,?_⟩;cases e:m ρ h with
 | ok a h1 =>
  rw [e,bind_ok] at p;intro μ1 H1 x e1 r1 q1;refine go a h1 μ1 H1 x e e1 r1 (er.mono e1) q1 ?_;unfold PostE at p ⊢;cases e2:f a h1 with
  | ok b h2=>rw [e2] at p;exact λ μ2 H2 v e3 r3 q3=>p μ2 H2 v (e1.trans e3) r3 q3
  | exc c h2=>rw [e2] at p;exact p
  | no=>rw [e2] at p;exact p
 | exc c h1=>rw [e,bind_exc] at p;exact p
 | no=>rw [e,bind_no] at p;exact p
theorem PostE.here (p:PostE K cv R μ H (.ok d h) Q Z)(hr:HR K μ h H)(r:R μ H d v):Q v H :=
 p μ H v Ext.refl hr r
end PI
namespace PI
open PySem L2 PySem.Spec
open PyProof.Rows hiding St
section
variable {X:Cx}{pins:132}{σ:St}{H:Hp}{s:170}{μ:XV}{h:Hh}
mutual
theorem jU (I:127):∀ {d:D}{v:V}{u:Value}{p:PyData},Rep X.K μ H d v->RelV v u->D.pd h d=some p->∃ as,Reads s.heap u p as
 | .non,_,_,_,r,q,e=>by cases r;cases q;cases e;exact ⟨_,.none⟩
 | .bl b,_,_,_,r,q,e=>by cases r;cases q;cases e;exact ⟨_,.bool b⟩
 | .int i,_,_,_,r,q,e=>by cases r;obtain ⟨t,rfl⟩:=q;cases e;exact ⟨_,.int i t⟩
 | .str x,_,_,_,r,q,e=>by cases r;obtain ⟨t,rfl⟩:=q;cases e;exact ⟨_,.str x t⟩
 | .tup ds,_,_,_,r,q,e=>by
  cases r with
  | tup hs rs =>
   cases q;unfold D.pd at e;cases e1:D.pds h ds with
   | none=>rw [e1] at e;cases e
   | some ps =>
    rw [e1] at e;cases e;obtain ⟨its,rv,⟨o,g1,g2,n,g3⟩,_⟩:=I.tuple hs;obtain ⟨as,ra⟩:=readsAll_of I rs rv e1;exact ⟨_,.tuple g1 g2 g3 (by simpa using ra)⟩
 | .loc n,_,_,_,r,q,e=>by cases e
 | .fl ds,_,_,_,r,q,e=>by
  cases r with
  | fl hs rs =>
   cases q;unfold D.pd at e;cases e1:D.pds h ds with
   | none=>rw [e1] at e;cases e
   | some ps =>
    rw [e1] at e;cases e;obtain ⟨its,rv,⟨o,n,g1,g2,_,g3⟩,_⟩:=I.list hs.sq;obtain ⟨as,ra⟩:=readsAll_of I rs rv e1;exact ⟨_,.list g1 g2 g3 (by simpa using ra)⟩
theorem readsAll_of (I:127):∀ {ds:163}{vs:211}{us:XU}{ps:List PyData},Reps X.K μ H ds vs->Vals vs us->D.pds h ds=some ps->∃ as,ReadsAll s.heap us ps as
 | [],_,_,_,r,q,e=>by cases r;cases q;cases e;exact ⟨_,.nil⟩
 | d::ds,_,_,_,r,q,e=>by
  cases r with
  | cons r1 r2 =>
   cases q with
   | cons q1 q2 =>
    unfold D.pds at e;cases e1:D.pd h d with
    | none=>rw [e1] at e;cases e
    | some p =>
     cases e2:D.pds h ds with
     | none=>rw [e1,e2] at e;cases e
     | some ps =>
      rw [e1,e2] at e;cases e;obtain ⟨as,ra⟩:=jU I r1 q1 e1;obtain ⟨bs,rb⟩:=readsAll_of I r2 q2 e2;exact ⟨_,.cons ra rb⟩
end
theorem HR.rd (hr:HR X.K μ h H){n:Nat}{ds:163}(e:rd h n=some ds){a:Addr}(m:μ[n]?=some a):∃ vs,SqL X.K H a vs/\Reps X.K μ H ds vs:=by
 unfold PI.rd at e;cases e1:h[n]? with
 | none=>rw [e1] at e;cases e
 | some o =>
  rw [e1] at e;have q:=hr.obj n a o m e1;cases o with
  | lst xs=>cases e;obtain ⟨vs,q1,q2⟩:=q;exact ⟨vs,SqL.of q1,q2⟩
  | dK xs=>cases e
  | dT xs=>cases e
  | obj _ _=>cases e
theorem qL (I:127)(hr:HR X.K μ h H){d:D}{v:V}{u:Value}{p:PyData}(r:Rep X.K μ H d v)(q:RelV v u)(e:pdT h d=some p):∃ as,Reads s.heap u p as:=by
 cases d with
 | loc n =>
  cases r with
  | loc m =>
   cases q;rw [pdT_loc] at e;cases e1:rd h n with
   | none=>rw [e1] at e;cases e
   | some ds =>
    rw [e1] at e;cases e2:D.pds h ds with
    | none=>rw [show (some ds).bind (λ xs=>(D.pds h xs).map PyData.list)=(D.pds h ds).map PyData.list from rfl,e2] at e;cases e
    | some ps =>
     rw [show (some ds).bind (λ xs=>(D.pds h xs).map PyData.list)=(D.pds h ds).map PyData.list from rfl,e2] at e;cases e;obtain ⟨vs,hs,rs⟩:=hr.rd e1 m;obtain ⟨its,rv,⟨o,n',g1,g2,_,g3⟩,_⟩:=I.list hs;obtain ⟨as,ra⟩:=readsAll_of I rs rv e2;exact ⟨_,.list g1 g2 g3 (by simpa using ra)⟩
 | non=>exact jU (h:=h) I r q e
 | bl b=>exact jU (h:=h) I r q e
 | int i=>exact jU (h:=h) I r q e
 | str x=>exact jU (h:=h) I r q e
 | tup ds=>exact jU (h:=h) I r q e
 | fl ds=>exact jU (h:=h) I r q e
end
theorem wP {n:Nat}(h:n<=1000000):n<=sizeLine:=by rw [sizeLine_eq];omega
theorem WY {n:Nat}(h:n<1000000):n<sizeLine:=by rw [sizeLine_eq];omega
section
variable {X:Cx}{cv:XX}
noncomputable def r2 (K:Y00)(cv:XX)(f:D->D->Hh->Res D):R2:=λ x y H Q=>∃ μ h a b Z,HR K μ h H/\Rep K μ H a x/\Rep K μ H b y/\PostE K cv (Rep K) μ H (f a b h) Q Z
noncomputable def r1 (K:Y00)(cv:XX)(f:D->Hh->Res D):V->Hp->VK->Prop:=λ x H Q=>∃ μ h a Z,HR K μ h H/\Rep K μ H a x/\PostE K cv (Rep K) μ H (f a h) Q Z
theorem z26:OpR X (binaryOp .Mult) (rI (λ i j=>Builtin.Int.intBits i<=2 ^ 20/\Builtin.Int.intBits j<=2 ^ 20) λ i j=>.int (i*j)):=opI λ _ _ _ _ _ _ _ hc q=>mul_int q (IntMulOk.of_bits hc.1 hc.2)
theorem Yf (t b:Addr)(xs ys:XJ)(n m:Nat)(d1 d2:Option Addr)(s1 s2:213)(h0:xs.isEmpty=true) :
  Meets (Builtin.«tuple.__add__» ⟨[.ref t,.ref b],[]⟩) (λ _ R s =>
   s.heap.get? t=some ⟨.type "tuple",d1,.seq xs n,s1⟩ /\
   s.heap.get? b=some ⟨.type "tuple",d2,.seq ys m,s2⟩ /\
   R (.ok (.ret (Value.ref b))) s) :=
 .of_wp λ prog w A R s h=>by
  obtain ⟨hp,g,d,tk,os⟩:=s;obtain ⟨hl,hb,h⟩:=h;have f1:=AutoSeq1.idx_int;have f2:=AutoSeq1.sub_list_tuple;have f3:=AutoSeq1.sub_tuple_list;have f4:=AutoSeq1.sub_tuple_tuple;have f5:=AutoSeq1.sub_list_list
  wp_walk using AutoSeq1.wpAny_loadPart' hl,AutoSeq1.wpAny_loadPart' hb
  exact ⟨_,rfl,h⟩
theorem z27 {A:Around}{E:XQ}{prog:XZ}{w:World}{s:170}{t b:Addr}{vs ws:XU}{Q:XQ}(ht:IsTup s.heap t vs.toArray)(hb:IsTup s.heap b ws.toArray)(hv:vs=[])(h1:Q (.ref b) s) :
  wpAny 137 A (binaryOp .Add (.ref t) (.ref b)) Q E s:=by
 obtain ⟨⟨cls,dd,data,sl⟩,ho,hc,n,hd⟩:=id ht;obtain ⟨⟨cls2,dd2,data2,sl2⟩,ho2,hc2,n2,hd2⟩:=id hb;simp only at hc hd hc2 hd2;subst hc hd hc2 hd2;exact concat_meets ⟨_,ho,rfl⟩ ⟨_,ho2,rfl⟩ noFill_tuple_add seq_tuple_add Y36 Y32 (Y2y _ _) (Yf t b vs.toArray ws.toArray n n2 dd dd2 sl sl2 (by simp [hv])) ⟨ho,ho2,h1⟩
section
variable {K:Y00}{μ:XV}{H:Hp}{Q:VK}{Z:Value->Hp->Prop}
theorem jZ {c:Prop}[Decidable c]{r:Res D}{G:Prop}(p:PostE K cv (Rep K) μ H (if c then r else .no) Q Z)(f:c->PostE K cv (Rep K) μ H r Q Z->G):G:=by
 by_cases hc:c
 ·rw [if_pos hc] at p;exact f hc p
 ·rw [if_neg hc] at p;exact p.elim
theorem w4 {a b:D}{x y:V}{g:Int->Int->Res D}{G:Prop}(ra:Rep K μ H a x)(rb:Rep K μ H b y)(p:PostE K cv (Rep K) μ H (i2 a b g) Q Z)(f:∀ i j,x=.int i->y=.int j->PostE K cv (Rep K) μ H (g i j) Q Z->G):G:=by
 cases a with
 | int i =>
  cases b with
  | int j=>cases ra;cases rb;exact f i j rfl rfl p
  | _=>exact p.elim
 | _=>exact p.elim
theorem Yg {neg:Bool}{u v:Option PyData}{h:Hh}{G:Prop}(p:PostE K cv (Rep K) μ H (eqR neg u v h) Q Z)(f:∀ pu pv,u=some pu->v=some pv->pu.canLay0=true->pv.canLay0=true->pu.depth<=60->PostE K cv (Rep K) μ H (.ok (.bl (if neg then !PyData.eqv pu pv else PyData.eqv pu pv)) h) Q Z->G):G:=by
 cases u with
 | none=>exact p.elim
 | some pu =>
  cases v with
  | none=>exact p.elim
  | some pv=>exact jZ p λ c q=>f pu pv rfl rfl c.1 c.2.1 c.2.2 q
end
theorem z28:OpR X (binaryOp .Add) (r2 X.K cv z7u):=by
 intro pins s σ H x y v u Q I rx ry hh;obtain ⟨μ,h,a,b,Z,hr,ra,rb,p⟩:=hh;cases a with
 | int i =>
  cases b with
  | int j=>cases ra;cases rb;exact z5c pins s σ H _ _ v u Q I rx ry ⟨_,_,rfl,rfl,p.here hr (.int _)⟩
  | _=>exact p.elim
 | str i =>
  cases b with
  | str j=>cases ra;cases rb;exact jZ p λ c p=>U5 pins s σ H _ _ v u Q I rx ry ⟨_,_,rfl,rfl,wP c,p.here hr (.str _)⟩
  | _=>exact p.elim
 | loc n =>
  cases b with
  | loc m =>
   cases ra with
   | loc ma =>
    cases rb with
    | loc mb =>
     have p:PostE X.K cv 173 μ H (match h[n]?,h[m]? with
      | some (.lst xs),some (.lst ys)=>if xs.length+ys.length<=1000000 then .ok (.loc h.length) (h++[.lst (xs++ys)]) else .no
      | _,_=>.no) Q Z:=p
     cases e1:h[n]? with
     | none=>rw [e1] at p;exact p.elim
     | some o1 =>
      cases e2:h[m]? with
      | none=>rw [e1,e2] at p;cases o1<;>exact p.elim
      | some o2 =>
       rw [e1,e2] at p;cases o1 with
       | dK k=>exact p.elim
       | dT k=>exact p.elim
       | obj _ _=>exact p.elim
       | lst xs =>
        cases o2 with
        | dK k=>exact p.elim
        | dT k=>exact p.elim
        | obj _ _=>exact p.elim
        | lst ys =>
         refine jZ p λ c p=>?_;obtain ⟨va,ha,qa⟩:=hr.obj n _ _ ma e1;obtain ⟨vb,hb,qb⟩:=hr.obj m _ _ mb e2;refine z5s pins s σ H _ _ v u Q I rx ry ⟨_,_,_,_,rfl,rfl,ha,hb,by rw [<- qa.length,<- qb.length];exact wP c,λ b hb=>?_⟩;have nb:b∉μ:=hr.fresh hb;refine p _ _ _ ((zo hb).add hb) (hr.alloc hb nb λ μ' g=>⟨_,zA,((qa.append qb).mono (zo hb)).mono' g⟩) (.loc ?_);rw [<- hr.len,Y09 176,Y0x];rfl
  | _=>exact p.elim
 | tup ds =>
  cases b with
  | tup es =>
   refine jZ p λ c p=>?_;cases ra with
   | @tup _ vs a h1 r1 =>
    cases rb with
    | @tup _ ws b h2 r2 =>
     by_cases hv:vs=[]
     ·subst hv;cases r1;cases rx;cases ry;obtain ⟨its,q1,p1,_⟩:=I.tuple h1;obtain ⟨its2,q2,p2,_⟩:=I.tuple h2;cases q1;exact z27 p1 p2 rfl ⟨.ref b,H,I,rfl,p.here hr (.tup h2 r2)⟩
     ·refine z1f pins s σ H _ _ v u Q I rx ry ⟨a,b,vs,ws,rfl,rfl,h1,h2,hv,by rw [<- r1.length,<- r2.length];exact wP c,λ hz=>?_,λ _ l hl=>?_⟩
      ·subst hz;cases r2;rw [Y0a] at p;exact p.here hr (.tup h1 r1)
      ·exact p μ _ _ (zo hl) (hr.tup hl) (.tup (SqT.of zA) ((r1.append r2).mono (zo hl)))
  | _=>exact p.elim
 | _=>exact p.elim
theorem z29:OpR X (binaryOp .Mult) (r2 X.K cv z7v):=by
 intro pins s σ H x y v u Q I rx ry hh;obtain ⟨μ,h,a,b,Z,hr,ra,rb,p⟩:=hh;cases b with
 | int j =>
  cases rb;cases a with
  | int i=>cases ra;exact jZ p λ c p=>z26 pins s σ H _ _ v u Q I rx ry ⟨_,_,rfl,rfl,⟨of_decide_eq_true c.1,of_decide_eq_true c.2⟩,p.here hr (.int _)⟩
  | _=>exact p.elim
 | _=>exact p.elim
theorem z62 (op:Operator):OpR X (binaryOp op) (r2 X.K cv (qw op)):=by
 cases op with
 | Add=>exact z28
 | Mult=>exact z29
 | Sub =>
  intro pins s σ H x y v u Q I rx ry q0;obtain ⟨μ,h,a,b,Z,hr,ra,rb,p⟩:=q0;exact w4 ra rb p λ i j ex ey p=>z5d pins s σ H _ _ v u Q I rx ry ⟨i,j,ex,ey,p.here hr (.int _)⟩
 | FloorDiv =>
  intro pins s σ H x y v u Q I rx ry q0;obtain ⟨μ,h,a,b,Z,hr,ra,rb,p⟩:=q0;exact w4 ra rb p λ i j ex ey p=>jZ p λ c p=>z18 pins s σ H _ _ v u Q I rx ry ⟨i,j,ex,ey,c,p.here hr (.int _)⟩
 | Mod =>
  intro pins s σ H x y v u Q I rx ry q0;obtain ⟨μ,h,a,b,Z,hr,ra,rb,p⟩:=q0;exact w4 ra rb p λ i j ex ey p=>jZ p λ c p=>z5e pins s σ H _ _ v u Q I rx ry ⟨i,j,ex,ey,c,p.here hr (.int _)⟩
 | Pow =>
  intro pins s σ H x y v u Q I rx ry q0;obtain ⟨μ,h,a,b,Z,hr,ra,rb,p⟩:=q0;exact w4 ra rb p λ i j ex ey p=>jZ p λ c p=>z5f pins s σ H _ _ v u Q I rx ry ⟨i,j,ex,ey,c,p.here hr (.int _)⟩
 | _ =>
  intro pins s σ H x y v u Q I rx ry q0;obtain ⟨μ,h,a,b,Z,hr,ra,rb,p⟩:=q0;exact p.elim
theorem Yh {K:Y00}{μ:XV}{H:Hp}{d:D}{v:V}(r:Rep K μ H d v)(f:Wa d=true):v=vOf d/\jJ v=true:=by
 cases r with
 | non=>exact ⟨rfl,rfl⟩
 | bl b=>exact ⟨rfl,rfl⟩
 | int i=>exact ⟨rfl,rfl⟩
 | str x=>exact ⟨rfl,rfl⟩
 | _=>cases f
theorem Wb {K:Y00}{μ:XV}{H:Hp}:∀ {ds:163}{vs:211},Reps K μ H ds vs->ds.all Wa=true->vs=ds.map vOf/\vs.all jJ=true
 | _,_,.nil,_=>⟨rfl,rfl⟩
 | _,_,.cons r t,f=>by
  rw [Y33,Y0t] at f;obtain ⟨rfl,f1⟩:=Yh r f.1;obtain ⟨rfl,f2⟩:=Wb t f.2;exact ⟨rfl,by rw [Y33,f1,f2];rfl⟩
theorem za8 (x:D)(ds:163):inV (vOf x) (ds.map vOf)=ds.any λ y=>eqV (vOf y) (vOf x):=by unfold inV;rw [List.any_map];rfl
theorem ZZ {K:Y00}{μ:XV}{H:Hp}:∀ {ds:163}{vs:211},Reps K μ H ds vs->ds.all z3r=true->(∀ v∈vs,jJ v=true\/∃ a ts,v=.ref a/\SqT K H a ts)/\ds.any isN=vs.any ZU
 | _,_,.nil,_=>⟨λ v hv=>(nomatch hv),rfl⟩
 | d::ds,v::vs,.cons r t,f=>by
  rw [Y33,Y0t] at f;obtain ⟨f1,f2⟩:=ZZ t f.2;have g:(jJ v=true\/∃ a ts,v=.ref a/\SqT K H a ts)/\isN d=ZU v:=by
   have f0:=f.1;cases r with
   | tup h1 h2=>exact ⟨.inr ⟨_,_,rfl,h1⟩,rfl⟩
   | non=>exact ⟨.inl rfl,rfl⟩
   | bl b=>exact ⟨.inl rfl,rfl⟩
   | int i=>exact ⟨.inl rfl,rfl⟩
   | str x=>exact ⟨.inl rfl,rfl⟩
   | _=>exact absurd (show false=true from f0) Y0y
  exact ⟨λ w hw=>by rcases Y0g.mp hw with rfl | hw;exact g.1;exact f1 w hw,by rw [Y1t,Y1t,g.2,f2]⟩
theorem WZ {neg:Bool}{pins:132}{s:170}{σ:St}{H:Hp}{v u:Value}{Q:VK}{μ:XV}{h:Hh}{a:D}{x:V}{Z':Value->Hp->Prop}{ds:163}{vs:211}{p':Addr}(op:CmpOp)(hop:OpR X (compareOp op) (rIn X.K neg))(hopN:neg=false->OpR X (compareOp op) (z5y X.K))
  (I:127) (rx:RelV x v) (ry:RelV (.ref p') u) (hr:HR X.K μ h H) (ra:Rep X.K μ H a x) (sq:SqL X.K H p' vs\/SqT X.K H p' vs) (rs:Reps X.K μ H ds vs) (p:PostE X.K cv 173 μ H (JF neg a ds h) Q Z') :
  wpAny 130 X.A (compareOp op v u) (EP X pins σ Q) X.xe s:=by
 unfold JF at p;split at p
 ·rename_i c;obtain ⟨rfl,f1⟩:=Yh ra c.1;obtain ⟨rfl,f2⟩:=Wb rs c.2;refine hop pins s σ H _ _ v u Q I rx ry ⟨p',_,rfl,sq,f1,f2,?_⟩;rw [za8];exact p.here hr (.bl _)
 ·split at p
  ·rename_i c;cases ra<;>first | (exact absurd c.2.1 Y0y) | skip
   obtain ⟨f1,f2⟩:=ZZ rs c.2.2;refine hopN c.1 pins s σ H _ _ v u Q I rx ry ⟨p',_,rfl,rfl,sq,f1,?_⟩;rw [<- f2];exact p.here hr (.bl _)
  ·exact p.elim
theorem Wc {K:Y00}{μ:XV}{H:Hp}{d:D}{v:V}{k:Key}(r:Rep K μ H d v)(e:wn d=some k):v=kV k:=by
 unfold wn at e;cases r<;>first | (cases e;rfl) | cases e
theorem qM {K:Y00}{μ:XV}{H:Hp}:∀ {ds:163}{vs:211}{ks:List Key},Reps K μ H ds vs->yr ds=some ks->vs=ks.map kV
 | _,_,ks,.nil,e=>by cases e;rfl
 | _,_,ks,@Reps.cons _ _ _ d v ds vs h r,e=>by
  unfold yr at e;cases e1:wn d with
  | none=>rw [e1] at e;cases e
  | some k =>
   cases e2:yr ds with
   | none=>rw [e1,e2] at e;cases e
   | some l =>
    rw [e1,e2] at e;cases e;rw [Wc h e1,qM r e2];rfl
theorem yY {K:Y00}{μ:XV}{H:Hp}{d:D}{v:V}{ks:List Key}(r:Rep K μ H d v)(e:jC d=some ks):∃ b,v=.ref b/\SqT K H b (ks.map kV):=by
 cases r with
 | tup h1 h2=>have:=qM h2 e;subst this;exact ⟨_,rfl,h1⟩
 | _=>cases e
theorem RepKs.none {κ:Type}[DecidableEq κ]{K:Y00}{μ:XV}{H:Hp}{k:κ}:∀ {ds:List (κ×D)}{vs:List (κ×V)},RepKs K μ H ds vs->(zF ds k).isSome=(qo vs k).isSome
 | _,_,.nil=>rfl
 | _,_,.cons (k:=k') (d:=d') (v:=v') h r=>by
  have ih:=RepKs.none (k:=k) r;by_cases hk:k'=k
  ·rw [qp (p:=(k',v')) hk];unfold zF;rw [Y38 (by simpa using hk)];rfl
  ·rw [qr (p:=(k',v')) hk,<- ih];unfold zF;rw [Y39 (by simpa using hk)]
theorem Br (hu:X.A.units+1<cLine)(neg:Bool):OpR X (compareOp (if neg then .NotIn else .In)) (r2 X.K cv (inD neg)):=by
 intro pins s σ H x y v u Q I rx ry hh;obtain ⟨μ,h,a,b,Z',hr,ra,rb,p⟩:=hh;have hop:OpR X (compareOp (if neg then .NotIn else .In)) (rIn X.K neg):=by cases neg with | true=>exact WL | false=>exact Gu
 have hopN:neg=false->OpR X (compareOp (if neg then .NotIn else .In)) (z5y X.K):=λ z=>by subst z;exact Ut hu
 unfold inD at p;cases rb with
 | tup h1 h2=>exact WZ _ hop hopN I rx ry hr ra (.inr h1) h2 p
 | fl h1 h2=>exact WZ _ hop hopN I rx ry hr ra (.inl h1.sq) h2 p
 | @loc nn b' m =>
  cases e1:h[nn]? with
  | none=>simp only [e1] at p;exact p.elim
  | some o =>
   have q:=hr.obj nn b' o m e1;cases o with
   | lst ds =>
    simp only [e1] at p;obtain ⟨vs,q1,q2⟩:=q;exact WZ _ hop hopN I rx ry hr ra (.inl (SqL.of q1)) q2 p
   | obj _ _=>simp only [e1] at p;exact p.elim
   | dK kvs =>
    simp only [e1] at p;obtain ⟨vs,q1,q2⟩:=q;cases e2:wn a with
    | none =>
     simp only [e2] at p;cases kvs with
     | cons _ _=>exact p.elim
     | nil =>
      cases q2;cases e3:jC a with
      | none=>simp only [e3] at p;exact p.elim
      | some k =>
       simp only [e3] at p;obtain ⟨c,rfl,hc⟩:=yY ra e3;cases rx;cases ry;have p':=p.here hr (.bl _);cases neg with
       | true=>exact Vs hu I (.inr ⟨q1,rfl⟩) hc λ s' I'=>⟨.bl _,H,I',rfl,p'⟩
       | false=>exact z7r hu I (.inr ⟨q1,rfl⟩) hc λ s' I'=>⟨.bl _,H,I',rfl,p'⟩
    | some k =>
     simp only [e2] at p;have ey:=Wc ra e2;subst ey;cases ry;have p':=p.here hr (.bl _);rw [q2.none] at p';cases neg with
     | true=>exact z1j hu I (DGet.k q1) rx λ s' I'=>⟨.bl _,H,I',rfl,p'⟩
     | false=>exact za3 hu I (DGet.k q1) rx λ s' I'=>⟨.bl _,H,I',rfl,p'⟩
   | dT kvs =>
    simp only [e1] at p;obtain ⟨vs,q1,q2⟩:=q;cases e2:jC a with
    | none=>simp only [e2] at p;exact p.elim
    | some k =>
     simp only [e2] at p;obtain ⟨c,rfl,hc⟩:=yY ra e2;cases rx;cases ry;have p':=p.here hr (.bl _);rw [q2.none] at p';cases neg with
     | true=>exact Vs hu I (.inl q1) hc λ s' I'=>⟨.bl _,H,I',rfl,p'⟩
     | false=>exact z7r hu I (.inl q1) hc λ s' I'=>⟨.bl _,H,I',rfl,p'⟩
 | str z =>
  cases ra with
  | str w =>
   cases neg with
   | true=>exact WM pins s σ H _ _ v u Q I rx ry ⟨w,z,rfl,rfl,p.here hr (.bl _)⟩
   | false=>exact Gn pins s σ H _ _ v u Q I rx ry ⟨w,z,rfl,rfl,p.here hr (.bl _)⟩
  | _=>exact p.elim
 | _=>exact p.elim
theorem Bs (hu:X.A.units+64<cLine)(op:CmpOp):OpR X (compareOp op) (r2 X.K cv (je op)):=by
 intro pins s σ H x y v u Q I rx ry hh;obtain ⟨μ,h,a,b,Z,hr,ra,rb,p⟩:=hh;cases op with
 | Lt=>exact w4 ra rb p λ i j ex ey p=>z7g pins s σ H _ _ v u Q I rx ry ⟨i,j,ex,ey,p.here hr (.bl _)⟩
 | LtE=>exact w4 ra rb p λ i j ex ey p=>z7h pins s σ H _ _ v u Q I rx ry ⟨i,j,ex,ey,p.here hr (.bl _)⟩
 | Gt=>exact w4 ra rb p λ i j ex ey p=>z7i pins s σ H _ _ v u Q I rx ry ⟨i,j,ex,ey,p.here hr (.bl _)⟩
 | GtE=>exact w4 ra rb p λ i j ex ey p=>z7j pins s σ H _ _ v u Q I rx ry ⟨i,j,ex,ey,p.here hr (.bl _)⟩
 | Eq =>
  refine Yg p λ pu pv e1 e2 c1 c2 c3 p=>?_;obtain ⟨as,q1⟩:=qL I hr ra rx e1;obtain ⟨bs,q2⟩:=qL I hr rb ry e2;exact SeqAt.compareEq_reads q1 q2 c1 c2 (by have:=Nat.min_le_left pu.depth pv.depth;omega) ⟨.bl _,H,I,rfl,p.here hr (.bl _)⟩
 | NotEq =>
  refine Yg p λ pu pv e1 e2 c1 c2 c3 p=>?_;obtain ⟨as,q1⟩:=qL I hr ra rx e1;obtain ⟨bs,q2⟩:=qL I hr rb ry e2;exact SeqAt.compareNe_reads q1 q2 c1 c2 (by have:=Nat.min_le_left pu.depth pv.depth;omega) ⟨.bl _,H,I,rfl,p.here hr (.bl _)⟩
 | In=>exact Br (cv:=cv) 117 false pins s σ H _ _ v u Q I rx ry ⟨μ,h,_,_,Z,hr,ra,rb,p⟩
 | NotIn=>exact Br (cv:=cv) 117 true pins s σ H _ _ v u Q I rx ry ⟨μ,h,_,_,Z,hr,ra,rb,p⟩
 | Is =>
  cases b with
  | non =>
   cases rb;cases ry;refine wpAny_is_plain (by cases ra<;>first | (cases rx;rfl) | (obtain ⟨t,rfl⟩:=rx;rfl)) (ZM I (p.here hr (.bl _)) ?_);cases ra<;>first | (cases rx;rfl) | (obtain ⟨t,rfl⟩:=rx;rfl)
  | bl y =>
   cases a with
   | bl x =>
    cases ra;cases rb;cases rx;cases ry;exact wpAny_is_plain rfl (ZM I (p.here hr (.bl _)) (by cases x<;>cases y<;>rfl))
   | _=>exact p.elim
  | _=>exact p.elim
 | IsNot =>
  cases b with
  | non =>
   cases rb;cases ry;refine wpAny_isNot_plain (by cases ra<;>first | (cases rx;rfl) | (obtain ⟨t,rfl⟩:=rx;rfl)) (ZM I (p.here hr (.bl _)) ?_);cases ra<;>first | (cases rx;rfl) | (obtain ⟨t,rfl⟩:=rx;rfl)
  | bl y =>
   cases a with
   | bl x =>
    cases ra;cases rb;cases rx;cases ry;exact wpAny_isNot_plain rfl (ZM I (p.here hr (.bl _)) (by cases x<;>cases y<;>rfl))
   | _=>exact p.elim
  | _=>exact p.elim
end
noncomputable def RB:List Addr->Hp->Bool->Bool->Prop:=λ _ _ b c=>b=c
noncomputable def spI (K:Y00)(cv:XX)(np:Nat)(c:List D->Hh->Res D):Sp:=λ vs H Q E =>
 vs.length=np/\∃ μ h ds,HR K μ h H/\Reps K μ H ds vs/\PostE K cv (Rep K) μ H (c ds h) Q (λ C H'=>E C none H')
noncomputable def Q0:List Str:=["len","isinstance","int","bool","str","tuple","list","range","max","min","sum","all","any","zip","reversed","sorted","set","enumerate","dict","abs","ValueError"]
noncomputable def gOf (sc:Scope)(x:Str):Bool:=decide (sc.names.lookup x=some .globalImplicit)
noncomputable def Vy (scope osc:Scope):Scope :=
  { scope with names:=scope.names.map λ (n,k)=>if (k==.free&&osc.kind==.function&&osc.names.lookup n==some .cell) then (n,.cell) else (n,k) }
noncomputable def Tg.idx:Tg->List Nat
 | .one i _=>[i]
 | .tup is _=>is.map (·.1)
noncomputable def Tg.ok (sc:Scope)(N:XY)(t:Tg):Bool:=t.idx.all λ i=>decide (i<N.length)&&decide (sc.names.lookup (N.getD i "")=some .local\/sc.names.lookup (N.getD i "")=some .cell)
noncomputable def Tg.okS (N:XY)(t:Tg):Bool:=t.idx.all λ i=>decide (i<N.length)
noncomputable def Za (x:Str):Bool:=!175&&!(x==("__classdict__":Str))
noncomputable def Tg.forI (t:Tg):I->Bool
 | .zip _ _ _ _=>true
 | .enum _ _ _=>(match t with | .tup _ _=>true | .one _ _=>false)
 | _=>true
mutual
noncomputable def E.ok (sc:Scope)(n:Nm):E->Bool
 | .non _ | .bl _ _ | .int _ _ | .str _ _=>true
 | .var i _=>decide (i<n.N.length)
 | .bin _ a b _=>a.ok sc n&&b.ok sc n
 | .un op a _=>a.ok sc n&&(match op with | .Not=>a.okT | _=>true)
 | .cmp op a b _=>a.ok sc n&&b.ok sc n&&!behindInMarks op (b.py n)
 | .and a b r _=>a.ok sc n&&b.ok sc n&&r.ok sc n&&a.okT&&b.okT&&r.okT
 | .or a b r _=>a.ok sc n&&b.ok sc n&&r.ok sc n&&a.okT&&b.okT&&r.okT
 | .ite c a b _=>c.ok sc n&&a.ok sc n&&b.ok sc n&&c.okT
 | .call f a r _ _=>decide (f<n.F.length)&&!(n.G.any λ q=>decide (q.2=Cn.cls f))&&gOf sc (n.F.getD f "")&&a.ok sc n&&r.ok sc n
 | .len a _ _=>gOf sc "len"&&a.ok sc n
 | .isi T a _ _ _=>gOf sc "isinstance"&&gOf sc (ye T)&&decide (T<5)&&a.ok sc n
 | .isC x ys a _ _ _=>gOf sc "isinstance"&&gOf sc x&&decide ((x,Cn.isc x ys)∈n.G)&&a.ok sc n
 | .sub a i _=>a.ok sc n&&i.ok sc n
 | .tup es _=>es.ok sc n
 | .ofL l=>l.ok sc n
 | .tupE e _ _=>gOf sc "tuple"&&e.ok sc n
 | .listE e _ _=>gOf sc "list"&&e.ok sc n
 | .dicP e _ _=>gOf sc "dict"&&e.ok sc n
 | .dispD ks vs _=>vs.ok sc n&&decide (ks.length=(vs.py n).length)&&decide (ks.length<=15)&&decide (0<ks.length)
 | .cut a lo hi _ _=>a.ok sc n&&lo.ok sc n&&hi.ok sc n
 | .dic _=>true
 | .m0 _ o p1 p=>o.ok sc n&&decide (p1.endLine=p.line)
 | .m1 _ o a p1 p=>o.ok sc n&&a.ok sc n&&decide (p1.endLine=p.line)
 | .min2 a b _ _=>gOf sc "min"&&a.ok sc n&&b.ok sc n
 | .c1 f a _ _=>gOf sc f.name&&a.ok sc n
 | .cmpN _ a _ _=>a.ok sc n
 | .listR e _ _ _ _=>gOf sc "list"&&gOf sc "reversed"&&e.ok sc n
 | .gcon x c _=>gOf sc x&&decide ((x,c)∈n.G)
 | .gsub x kvs i _ _=>gOf sc x&&decide ((x,Cn.dic kvs)∈n.G)&&i.ok sc n
 | .fld a f _=>a.ok sc n&&decide (f∈j4)
 | .callG x kvs key a r _ _ _=>gOf sc x&&decide ((x,Cn.dic kvs)∈n.G)&&key.ok sc n&&a.ok sc n&&r.ok sc n&&kvs.all (λ q=>match q.2 with | .fn i y=>decide (n.F[i]?=some y)&&!(n.G.any λ q=>decide (q.2=Cn.cls i)) | _=>true)
 | .mk i x a r _ _=>gOf sc x&&decide ((x,Cn.cls i)∈n.G)&&a.ok sc n&&r.ok sc n
noncomputable def Eo.ok (sc:Scope)(n:Nm):Eo->Bool
 | .none=>true
 | .some e=>e.ok sc n
noncomputable def L.ok (sc:Scope)(n:Nm):L->Bool
 | .disp es _=>es.ok sc n
 | .comp elt t it c NC cap csc _=>(it.ok sc n&&t.forI it)&&ji sc csc n.N NC cap&&decide NC.Nodup&&NC.all Za&&t.ok csc NC&&elt.ok (Vy csc sc) ⟨NC,n.F,n.G⟩&&c.ok (Vy csc sc) ⟨NC,n.F,n.G⟩&&c.okT&&c.short
noncomputable def I.ok (sc:Scope)(n:Nm):I->Bool
 | .seq e=>e.ok sc n
 | .lst l=>l.ok sc n
 | .rng a _ _=>gOf sc "range"&&a.ok sc n
 | .rev e _ _=>gOf sc "reversed"&&e.ok sc n
 | .zip a b _ _=>gOf sc "zip"&&a.ok sc n&&b.ok sc n
 | .enum e _ _=>gOf sc "enumerate"&&e.ok sc n
noncomputable def Es.ok (sc:Scope)(n:Nm):Es->Bool
 | .nil=>true
 | .cons e r=>e.ok sc n&&r.ok sc n
noncomputable def E.okT:E->Bool
 | .non _ | .bl _ _ | .int _ _ | .str _ _=>false
 | .ite _ _ _ _=>false
 | .ofL _=>false
 | .dic _=>false
 | .dispD _ _ _=>false
 | .gcon _ _ _=>false
 | .un op a _=>match op with | .Not=>a.okT | _=>true
 | _=>true
noncomputable def Es.okT:Es->Bool
 | .nil=>true
 | .cons e r=>e.okT&&r.okT
noncomputable def Es.short:Es->Bool
 | .nil=>true
 | .cons _ .nil=>true
 | .cons _ (.cons _ _)=>false
end
noncomputable def TupK (K:Y00)(a:Addr)(xs:XY):Prop:=∃ (o:Obj) (its:XJ) (n:Nat),K.lookup a=some o/\o.cls=.type "tuple"/\o.data=.seq its n/\its.size<=sizeLine/\Vals (xs.map V.str) its.toList
noncomputable def CvOk (K:Y00)(v:Value):Cv->Prop
 | .tup xs=>∃ a,v=.ref a/\TupK K a xs
 | .int i=>∃ t,v=.int i t
 | .fn _ x=>∃ f,v=.ref f/\PySem.W.nsIn K mainGlobals x=some (some (.ref f))
 | .oth=>∃ f,v=.ref f
noncomputable def DicV (K:Y00):List (Str×Cv)->List (Key×Value)->Prop
 | [],[]=>True
 | kx::r,qv::s=>qv.1=.inr kx.1/\CvOk K qv.2 kx.2/\DicV K r s
 | _,_=>False
structure IsK (K:Y00)(C:Addr):Prop where
 ha:PySem.W.findIn K (.ref C) "__class__"=some (some 180)
 hn:PySem.W.specialIn K 180 "__get__"=some (some (.builtin "getset_descriptor.__get__"))
 ht:PySem.W.takesIn K 180=some true
 hm:PySem.W.mroIn K C (.type "object")=some true
noncomputable def z2a (P:XZ)(w:World)(K:Y00)(v:Value):Cn->Prop
 | .int i=>∃ t,v=.int i t
 | .str x=>∃ t,v=.str x t
 | .tup xs=>∃ a,v=.ref a/\TupK K a xs
 | .cls _=>∃ a,v=.ref a
 | .isc x ys=>∃ D,v=.ref D/\∀ y∈ys,∃ C,PySem.W.nsIn K mainGlobals y=some (some (.ref C))/\IsK K C/\PySem.W.kitOne K (.ref C) (.ref D)=some (decide (y=x))
 | .exc _ _=>∃ a bmB newId initId B,v=.ref a/\PySem.W.excIn K a bmB newId=true/\ExcBaseFacts B newId initId bmB/\bmB.contains (.type "BaseException")=true
 | .dic kvs=>∃ a o es ep vs,v=.ref a/\K.lookup a=some o/\o.ExactDict/\o.data=.dict es ep/\KeysOf (zB P w) es/\Pairs (zB P w) es.toList vs/\(vs.map (·.1)).Nodup/\DicV K kvs vs
structure TstK (K:Y00)(G:List (Str×Cn))(cv:XX)(C:Addr)(u:List Nat):Prop where
 ec:ExC K C
 ve:PySem.W.kitOne K (.ref C) (.type "ValueError")=some true
 ot:∀ y d w,(y,Cn.exc d w)∈G->PySem.W.kitOne K (.ref C) (cv d)=some (u.contains d)
structure Kx (X:Cx)(Z:ZK)(k:Nat)(n:Nm)(cv:XX)(cl:136):Prop where
 th:Thr X Z
 rm:Room (2*k+1) X.A
 nN:X.N=n.N
 nd:X.N.Nodup
 cm:X.calm=true
 kd:X.env.scope.kind=.function
 nm:∀ x∈n.N,Vis X.env.scope x/\Za x=true
 bm:∀ x,x∈Q0->X.mg x=none
 gc:∀ x c,(x,c)∈n.G->175=false/\∃ v,X.mg x=some v/\z2a X.prog X.w X.K v c
 fn:∀ i x,n.F[i]?=some x->(n.G.any λ q=>decide (q.2=Cn.cls i))=false->175=false/\∃ f fd ps,X.mg x=some (.ref f)/\PySem.W.nsIn X.K mainGlobals x=some (some (.ref f))/\PySem.W.keepIn X.K (.ref f)=true/\Binds X.K fd ps []/\(∀ ds h,cl i ds h≠.no->ds.length=ps.length) /\
  FnOk X.prog X.w X.K X.mg X.base (CXs X.prog X.w) (2*k) f fd ps (spI X.K cv ps.length (cl i))
 mc:∀ x i,(x,Cn.cls i)∈n.G->175=false/\∃ C f fd ps,X.mg x=some (.ref C)/\Mk X.K C f/\ClsN X.K x C/\Binds X.K fd ps []/\(∀ ds h,cl i ds h≠.no->ds.length=ps.length) /\
  FnOk X.prog X.w X.K X.mg X.base (CXs X.prog X.w) (2*k) f fd ps (spI X.K cv ps.length (cl i))
 xc:∀ x c u,(x,Cn.exc c u)∈n.G->X.mg x=some (cv c)/\(∀ D∈u,∃ a d,cv c=.ref a/\cv D=.ref d/\z3q X.K a d)/\∃ a,cv c=.ref a/\TstK X.K n.G cv a u
theorem Kx.gl (C:Kx X Z k n cv cl)(h:gOf X.env.scope x=true):Gl X x:=show X.env.scope.names.lookup x=some .globalImplicit from of_decide_eq_true h
theorem Bt (h:Za x=true):175=false/\(x==("__classdict__":Str))=false:=by unfold Za at h;simpa using h
theorem jS (r:Res α):(r.bind λ a h=>.ok a h)=r:=by cases r<;>rfl
theorem zq (r:Res α)(f:α->Hh->Res β)(q:β->Hh->Res γ):(r.bind f).bind q=r.bind λ a h=>(f a h).bind q:=by cases r<;>rfl
theorem PE.mono (p:PE X e t)(h:∀ σ H Q,t' σ H Q->t σ H Q):PE X e t':=λ pins s σ H Q I q=>p pins s σ H Q I (h σ H Q q)
theorem PT.mono (p:PT X e t)(h:∀ σ H Q,t' σ H Q->t σ H Q):PT X e t':=λ pins s σ H Q I q=>p pins s σ H Q I (h σ H Q q)
theorem PW.mono (p:PW X e t)(h:∀ σ H Q,t' σ H Q->t σ H Q):PW X e t':=λ wh pins s σ H Q I q=>p wh pins s σ H Q I (h σ H Q q)
theorem PA.mono (p:PA X e t)(h:∀ σ H Q,t' σ H Q->t σ H Q):PA X e t':=λ ps pins s σ H Q I q=>p ps pins s σ H Q I (h σ H Q q)
noncomputable def toB (d:D)(h:Hh):Res Bool:=match d with | .bl b=>.ok b h | _=>.no
theorem wQ (cl:136)(e:E)(ρ:En)(h:Hh):e.evT cl ρ h=(e.ev cl ρ h).bind toB:=rfl
section
variable {X:Cx}{Z:ZK}{k:Nat}{n:Nm}{cv:XX}{cl:136}
theorem L.py_star (l:L)(r:List Expr)(env:Env):starEach (l.py n::r) env=(false,eval (l.py n) env)::starEach r env:=by cases l<;>rfl
theorem zh (e:E)(r:List Expr)(env:Env):starEach (e.py n::r) env=(false,eval (e.py n) env)::starEach r env:=by
 cases e with
 | ofL l=>exact L.py_star l r env
 | _=>rfl
theorem wR:∀ (r:Es) (pos:Pos) (env:Env),(backTo pos (starEach (r.py n) env)).any (·.1)=false
 | .nil,_,_=>rfl
 | .cons e r,pos,env=>by
  show (backTo pos (starEach (e.py n::r.py n) env)).any (·.1)=false;rw [zh];exact wR r pos env
theorem J0 (e:E):Vl (e.py n):=by
 intro o i;cases e with
 | ofL l=>cases l<;>rfl
 | _=>rfl
theorem J1 {k:Str}:∀ {l:List (Str×α)},l.lookup k=some v->(k,v)∈l
 | [],h=>by cases h
 | (x,y)::r,h=>by
  rw [List.lookup] at h;cases c:k==x with
  | true=>rw [c] at h;cases h;rw [eq_of_beq c];exact Y0c ..
  | false=>rw [c] at h;exact Y06 _ (J1 h)
theorem Ux (e:E)(f:Str)(env:Env)(w:Sem Value):attributeBase (e.py n) f env w=w:=by
 cases e with
 | ofL l=>cases l<;>rfl
 | _=>rfl
theorem zE (p:PE X e (zy X.K cv 173 Z m))(he:∀ whole,isTrue e X.env whole=(do let v <- whole;standAt e.pos;holding [v] (truthy v))) :
  PT X e (zy X.K cv RB Z λ ρ h=>(m ρ h).bind toB):=by
 refine PT.mono (z50 p he) λ σ H Q=>ze λ μ ρ h hr er q=>?_;refine zf hr er q λ a h1 μ1 H1 x _ e1 r1 vk qa p1=>?_;unfold toB at p1;cases qa with
 | bl b=>exact ⟨b,rfl,p1.here r1 rfl⟩
 | _=>exact p1.elim
noncomputable def Es.evAndT (cl:136):Es->En->Bool->Hh->Res Bool
 | .nil,_,c,h=>.ok c h
 | .cons e r,ρ,c,h=>if c then (e.evT cl ρ h).bind λ c' h2=>r.evAndT cl ρ c' h2 else .ok false h
noncomputable def Es.evOrT (cl:136):Es->En->Bool->Hh->Res Bool
 | .nil,_,c,h=>.ok c h
 | .cons e r,ρ,c,h=>if c then .ok true h else (e.evT cl ρ h).bind λ c' h2=>r.evOrT cl ρ c' h2
theorem Vz:∀ (r:Es) (ρ:En) (d:D) (h:Hh),(r.evAnd cl ρ d h).bind toB=(toB d h).bind λ c h1=>r.evAndT cl ρ c h1
 | .nil,ρ,d,h=>(jS (r:=toB d h)).symm
 | .cons e r,ρ,d,h=>by
  cases d with
  | bl b =>
   cases b with
   | false=>rfl
   | true =>
    show (((e.ev cl ρ h).bind λ y h2=>r.evAnd cl ρ y h2).bind toB)=((e.ev cl ρ h).bind toB).bind λ c' h2=>r.evAndT cl ρ c' h2;rw [zq,zq]
    congr 1
    funext y h2
    exact Vz r ρ y h2
  | _=>rfl
theorem Bu:∀ (r:Es) (ρ:En) (d:D) (h:Hh),(r.evOr cl ρ d h).bind toB=(toB d h).bind λ c h1=>r.evOrT cl ρ c h1
 | .nil,ρ,d,h=>(jS (r:=toB d h)).symm
 | .cons e r,ρ,d,h=>by
  cases d with
  | bl b =>
   cases b with
   | true=>rfl
   | false =>
    show (((e.ev cl ρ h).bind λ y h2=>r.evOr cl ρ y h2).bind toB)=((e.ev cl ρ h).bind toB).bind λ c' h2=>r.evOrT cl ρ c' h2;rw [zq,zq]
    congr 1
    funext y h2
    exact Bu r ρ y h2
  | _=>rfl
end
section
variable {X:Cx}{Z:ZK}{k:Nat}{n:Nm}{cv:XX}{cl:136}
structure SE (X:Cx)(Z:ZK)(n:Nm)(cv:XX)(cl:136)(e:E):Prop where
 pe:PE X (e.py n) (zy X.K cv 173 Z (e.ev cl))
 pt:e.okT=true->PT X (e.py n) (zy X.K cv RB Z (e.evT cl))
noncomputable def z2b (X:Cx)(Z:ZK)(n:Nm)(cv:XX)(cl:136)(r:Es):Prop:=∀ (ks:List (Str×Pos)) (pos:Pos),ks.length=(r.py n).length ->
 ∃ trs,PPs X pos (ks.map λ q=>some (.Constant (.str q.1) 0 q.2)) (r.py n) trs/\∀ σ H (Q:List (V×V)->Hp->Prop),zy X.K cv (Reps X.K) Z (r.ev cl) σ H (λ us H'=>Q ((ks.map λ q=>V.str q.1).zip us) H')->WO trs σ H Q
structure SEs (X:Cx)(Z:ZK)(n:Nm)(cv:XX)(cl:136)(r:Es):Prop where
 pa:PA X (r.py n) (zy X.K cv (Reps X.K) Z (r.ev cl))
 an:∀ (b:E) (p:Pos),SE X Z n cv cl b->PE X (.BoolOp .And (b.py n::r.py n) p) (zy X.K cv 173 Z λ ρ h=>(b.ev cl ρ h).bind λ y h2=>r.evAnd cl ρ y h2)
 anT:∀ (b:E) (p:Pos),SE X Z n cv cl b->b.okT=true->r.okT=true->PW X (.BoolOp .And (b.py n::r.py n) p) (zy X.K cv RB Z λ ρ h=>(b.evT cl ρ h).bind λ c h2=>r.evAndT cl ρ c h2)
 orr:∀ (b:E) (p:Pos),SE X Z n cv cl b->PE X (.BoolOp .Or (b.py n::r.py n) p) (zy X.K cv 173 Z λ ρ h=>(b.ev cl ρ h).bind λ y h2=>r.evOr cl ρ y h2)
 orT:∀ (b:E) (p:Pos),SE X Z n cv cl b->b.okT=true->r.okT=true->PW X (.BoolOp .Or (b.py n::r.py n) p) (zy X.K cv RB Z λ ρ h=>(b.evT cl ρ h).bind λ c h2=>r.evOrT cl ρ c h2)
 ps:z2b X Z n cv cl r
theorem Q1 {v:V}{d:D}{Q:VK}{σ:St}{H:Hp}(hv:∀ K μ H,Rep K μ H d v)(p:zy X.K cv 173 Z (λ _ h=>.ok d h) σ H Q):tC v σ H Q:=by
 obtain ⟨μ,ρ,h,hr,er,q⟩:=p;exact q.here hr (hv _ _ _)
theorem Bv {f:D->D->Hh->Res D}{a b:E}{σ:St}{H:Hp}{Q:VK}(p:zy X.K cv 173 Z (λ ρ h=>(a.ev cl ρ h).bind λ x h1=>(b.ev cl ρ h1).bind λ y h2=>f x y h2) σ H Q) :
  tOp (r2 X.K cv f) (zy X.K cv 173 Z (a.ev cl)) (zy X.K cv 173 Z (b.ev cl)) σ H Q:=by
 obtain ⟨μ,ρ,h,hr,er,q⟩:=p;refine zf (m:=a.ev cl) hr er q λ da h1 μ1 H1 x _ e1 r1 vk qa p1=>?_;refine zf (m:=b.ev cl) r1 vk p1 λ db h2 μ2 H2 y _ e2 r2 er2 qb p2=>?_;exact ⟨μ2,h2,da,db,_,r2,qa.mono e2,qb,p2⟩
theorem z3s {f:D->Hh->Res D}{a:E}{σ:St}{H:Hp}{Q:VK}(p:zy X.K cv 173 Z (λ ρ h=>(a.ev cl ρ h).bind λ x h1=>f x h1) σ H Q) :
  tUn (r1 X.K cv f) (zy X.K cv 173 Z (a.ev cl)) σ H Q:=by
 obtain ⟨μ,ρ,h,hr,er,q⟩:=p;refine zf (m:=a.ev cl) hr er q λ da h1 μ1 H1 x _ e1 r1 vk qa p1=>?_;exact ⟨μ1,h1,da,_,r1,qa,p1⟩
theorem z3t (op:UnaryOp)(h:op=.Invert\/op=.USub):UnR X (unaryOp op) (r1 X.K cv (unD op)):=by
 intro pins s σ H x v Q I rx hh;obtain ⟨μ,h',a,Z',hr,ra,p⟩:=hh;rcases h with rfl | rfl
 ·unfold unD at p;cases ra with
  | int i=>exact z5h pins s σ H _ v Q I rx ⟨i,rfl,p.here hr (.int _)⟩
  | _=>exact p.elim
 ·unfold unD at p;cases ra with
  | int i=>exact z5g pins s σ H _ v Q I rx ⟨i,rfl,p.here hr (.int _)⟩
  | _=>exact p.elim
theorem z2c (hu:X.A.units+1<cLine):IxR X (λ x y H Q=>∃ a v,x=.ref a/\DGet H a y (some v)/\Q v H):=by
 intro value slice pins s σ H x y v u Q I rx ry h hs;obtain ⟨a,w,rfl,g,q⟩:=h;cases rx;have ty:s.TypeIs (.ref a) "dict":=by
  rcases g with ⟨kvs,k,e,ey,l⟩ | ⟨kvs,k,b,e,ey,eb,l⟩
  ·obtain ⟨_,_,vs,_,o,es,ep,e1,ex,_⟩:=e.ok I.hok;exact ⟨o,e1,ex.1⟩
  ·obtain ⟨_,_,xs,_,o,es,ep,e1,ex,_⟩:=e.ok I.hok;exact ⟨o,e1,ex.1⟩
 exact tail_any ty slot_dict_getitem.lookup (Gx hu I g ry λ w' s' I' r'=>⟨w,H,I',r',q⟩) hs
theorem z7y (hu:X.A.units+1<cLine):IxR X (λ x y H Q=>∃ a b kvs k v,x=.ref a/\y=.ref b/\H a=some (.dT kvs)/\SqT X.K H b (k.map kV)/\qo kvs k=some v/\Q v H):=by
 intro value slice pins s σ H x y v u Q I rx ry h hs;obtain ⟨a,b,kvs,k,w,rfl,rfl,g,hb,hv,q⟩:=h;cases rx;cases ry;have ty:s.TypeIs (.ref a) "dict":=by
  obtain ⟨_,_,xs,_,o,es,ep,e1,ex,_⟩:=(show ObjOk X.prog X.w H s.heap a (.dT kvs) from I.hok a _ g);exact ⟨o,e1,ex.1⟩
 exact tail_any ty slot_dict_getitem.lookup (GK hu I (.inl g) hb hv λ w' s' I' r'=>⟨w,H,I',r',q⟩) hs
theorem RepKs.val {κ:Type}[DecidableEq κ]{K:Y00}{μ:XV}{H:Hp}{k:κ}{d:D}:∀ {ds:List (κ×D)}{vs:List (κ×V)},RepKs K μ H ds vs->zF ds k=some d->∃ v,qo vs k=some v/\Rep K μ H d v
 | _,_,.nil,e=>by unfold zF at e;simp at e
 | _,_,.cons (k:=k') (d:=d') (v:=v') h r,e=>by
  by_cases hk:k'=k
  ·rw [qp (p:=(k',v')) hk];unfold zF at e;rw [Y38 (by simpa using hk)] at e;cases e;exact ⟨_,rfl,h⟩
  ·rw [qr (p:=(k',v')) hk];unfold zF at e;rw [Y39 (by simpa using hk)] at e;exact RepKs.val r e
theorem J2 {K:Y00}{μ:XV}{H:Hp}{d:D}{v:V}{k:Key}(r:Rep K μ H d v)(e:wn d=some k):v=kV k:=by
 unfold wn at e;cases r<;>first | (cases e;rfl) | cases e
theorem DicV.at {K:Y00}{k:Str}{c:Cv}:∀ {kvs:List (Str×Cv)}{vs:List (Key×Value)},DicV K kvs vs->kvs.lookup k=some c->∃ v,valueAt vs (Sum.inr k:Key)=some v/\CvOk K v c
 | [],[],_,e=>by cases e
 | [],_::_,h,_=>h.elim
 | _::_,[],h,_=>h.elim
 | (k',ys)::r,(q,v)::s,⟨h1,h2,h4⟩,e=>by
  rw [Y2f] at e;by_cases hk:k=k'
  ·subst hk;simp only [beq_self_eq_true] at e;cases e;refine ⟨v,?_,h2⟩;unfold valueAt;rw [Y38 (by simpa using h1)];rfl
  ·have hb:(k==k')=false:=by simpa using hk
   rw [hb] at e;obtain ⟨b,e1,e2⟩:=DicV.at h4 e;refine ⟨b,?_,e2⟩;unfold valueAt at e1 ⊢;rw [Y39 (by
    have h1':q=Sum.inr k':=h1;simp only [decide_eq_true_eq];intro z;rw [h1'] at z;exact hk (Sum.inr.inj z).symm)]
   exact e1
noncomputable def CvV (K:Y00)(u:V):Cv->Prop
 | .tup xs=>∃ a,u=.ref a/\TupK K a xs
 | .int i=>u=.int i
 | .fn _ x=>∃ f,u=.ref f/\PySem.W.nsIn K mainGlobals x=some (some (.ref f))
 | .oth=>∃ f,u=.ref f
theorem CvOk.v {K:Y00}{v:Value}{c:Cv}(h:CvOk K v c):∃ u,RelV u v/\CvV K u c:=by
 cases c with
 | tup xs=>obtain ⟨a,rfl,t⟩:=h;exact ⟨.ref a,rfl,a,rfl,t⟩
 | int i=>obtain ⟨t,rfl⟩:=h;exact ⟨.int i,⟨t,rfl⟩,rfl⟩
 | fn i x=>obtain ⟨f,rfl,t⟩:=h;exact ⟨.ref f,rfl,f,rfl,t⟩
 | oth=>obtain ⟨f,rfl⟩:=h;exact ⟨.ref f,rfl,f,rfl⟩
theorem Bw {kvs:List (Str×Cv)}:IxR X (λ x y H Q=>∃ a k c,x=.ref a/\y=.str k/\z2a X.prog X.w X.K (.ref a) (.dic kvs)/\kvs.lookup k=some c/\∀ u,CvV X.K u c->Q u H):=by
 intro value slice pins s σ H x y v u Q I rx ry h hs;obtain ⟨a,k,xs,rfl,rfl,ok,l,q⟩:=h;cases rx;obtain ⟨a',o,es,ep,vs,ea,e1,ex,ed,ks,ps,nd,dv⟩:=ok;cases ea;obtain ⟨b,e2,tk⟩:=dv.at l;obtain ⟨bu,tr,tk⟩:=tk.v;have eh:=I.kIn a o e1;have dd:s.heap.DictOf (zB X.prog X.w) a vs:=⟨o,es,ep,eh,ex,ed,ks,ps,nd⟩;exact tail_any ⟨o,eh,ex.1⟩ slot_dict_getitem.lookup (wpAny_getItem_of (yo (k:=.inr k) ry) dd.mapOf e2 ⟨bu,H,I.tok _,tr,q bu tk⟩) hs
theorem TupK.rep {K:Y00}{μ:XV}{H:Hp}{a:Addr}{xs:XY}(h:TupK K a xs):Rep K μ H (.tup (xs.map .str)) (.ref a):=by
 have rs:∀ ys:List Str,Reps K μ H (ys.map D.str) (ys.map V.str):=λ ys=>by
  induction ys with
  | nil=>exact .nil
  | cons y r ih=>exact .cons (.str y) ih
 exact .tup (.inr h) (rs xs)
theorem CvV.rep {K:Y00}{μ:XV}{H:Hp}{u:V}{c:Cv}(h:CvV K u c)(nf:c.isFn=false):Rep K μ H c.d u:=by
 cases c with
 | tup xs=>obtain ⟨a,rfl,t⟩:=h;exact t.rep
 | int i=>cases h;exact .int i
 | fn i x=>cases nf
 | oth=>cases nf
theorem z2d (hu:X.A.units+1<cLine):IxR X (r2 X.K cv jf):=by
 intro value slice pins s σ H x y v u Q I rx ry hh hs;obtain ⟨μ,h,a,b,Z',hr,ra,rb,p⟩:=hh;cases ra with
 | tup h1 h2 =>
  cases rb with
  | int k =>
   rw [sub_tup] at p;split at p
   ·rename_i d e;obtain ⟨w,e1,e2⟩:=h2.atI e;exact z5o value slice pins s σ H _ _ v u Q I rx ry ⟨_,_,_,w,rfl,rfl,h1,e1,p.here hr e2⟩ hs
   ·exact p.elim
  | _=>exact p.elim
 | fl h1 h2 =>
  cases rb with
  | int k =>
   rw [sub_fl] at p;split at p
   ·rename_i d e;obtain ⟨w,e1,e2⟩:=h2.atI e;exact Vm value slice pins s σ H _ _ v u Q I rx ry ⟨_,_,_,w,rfl,rfl,h1.sq,e1,p.here hr e2⟩ hs
   ·exact p.elim
  | _=>exact p.elim
 | str z =>
  cases rb with
  | int k =>
   rw [WX] at p;split at p
   ·rename_i c;split at p
    ·rename_i d e;exact z5p value slice pins s σ H _ _ v u Q I rx ry ⟨_,_,_,rfl,rfl,wP c,e,p.here hr (.str _)⟩ hs
    ·exact p.elim
   ·exact p.elim
  | _=>exact p.elim
 | @loc nn a m =>
  rw [z25] at p;cases e1:h[nn]? with
  | none=>rw [e1] at p;exact p.elim
  | some o =>
   rw [e1] at p;have q:=hr.obj nn a o m e1;cases o with
   | lst xs =>
    obtain ⟨vs,q1,q2⟩:=q;cases rb with
    | int k =>
     cases e2:atI xs k with
     | none=>simp only [e2] at p;exact p.elim
     | some d =>
      simp only [e2] at p;obtain ⟨w,e3,e4⟩:=q2.atI e2;exact Vm value slice pins s σ H _ _ v u Q I rx ry ⟨_,_,_,w,rfl,rfl,SqL.of q1,e3,p.here hr e4⟩ hs
    | _=>exact p.elim
   | obj _ _=>exact p.elim
   | dK kvs =>
    obtain ⟨vs,q1,q2⟩:=q;cases e2:wn b with
    | none=>simp only [e2,Y34] at p;exact p.elim
    | some k =>
     simp only [e2,Y2q] at p;cases e3:zF kvs k with
     | none=>simp only [e3] at p;exact p.elim
     | some d =>
      simp only [e3] at p;obtain ⟨w,e4,e5⟩:=q2.val e3;have ey:=J2 rb e2;subst ey;exact z2c hu value slice pins s σ H _ _ v u Q I rx ry ⟨_,w,rfl,e4▸DGet.k q1,p.here hr e5⟩ hs
   | dT kvs =>
    obtain ⟨vs,q1,q2⟩:=q;cases e2:jC b with
    | none=>simp only [e2,Y34] at p;exact p.elim
    | some k =>
     simp only [e2,Y2q] at p;cases e3:zF kvs k with
     | none=>simp only [e3] at p;exact p.elim
     | some d =>
      simp only [e3] at p;obtain ⟨w,e4,e5⟩:=q2.val e3;obtain ⟨c,rfl,hc⟩:=yY rb e2;exact z7y hu value slice pins s σ H _ _ v u Q I rx ry ⟨_,_,_,_,w,rfl,rfl,q1,hc,e4,p.here hr e5⟩ hs
 | _=>exact p.elim
noncomputable def za9 (K:Y00)(cv:XX):List V->Hp->VK->Prop:=λ xs H Q=>∃ x,xs=[x]/\r1 K cv qS x H Q
theorem GT:jd X (.builtin "len") (za9 X.K cv):=by
 intro pins s σ H xs us Q I r hh;obtain ⟨x,rfl,μ,h,a,Z',hr,ra,p⟩:=hh;refine OO pins s σ H _ us Q I r ⟨x,?_⟩;cases ra with
 | tup h1 h2=>exact ⟨_,rfl,.inr ⟨_,h1,h2.length⟩,p.here hr (.int _)⟩
 | @loc nn b m =>
  rw [len_loc] at p;cases e1:rd h nn with
  | none=>rw [e1] at p;exact p.elim
  | some ys =>
   rw [e1] at p;obtain ⟨vs,hs1,rs⟩:=hr.rd e1 m;exact ⟨_,rfl,.inl ⟨_,hs1,rs.length⟩,p.here hr (.int _)⟩
 | fl h1 h2=>exact ⟨_,rfl,.inl ⟨_,h1.sq,h2.length⟩,p.here hr (.int _)⟩
 | str y =>
  rw [len_str] at p;split at p
  ·rename_i c;exact ⟨_,rfl,⟨wP c,rfl⟩,p.here hr (.int _)⟩
  ·exact p.elim
 | _=>exact p.elim
noncomputable def isD (T:Nat)(d:D)(h:Hh):Res D:=match isI h d T with | some b=>.ok (.bl b) h | none=>.no
theorem jF {P:Nat->Prop}{T:Nat}(hT:T<5)(a:P 0)(b:P 1)(c:P 2)(d:P 3)(e:P 4):P T:=by
 match T,hT with | 0,_=>exact a | 1,_=>exact b | 2,_=>exact c | 3,_=>exact d | 4,_=>exact e
theorem Bx (T:Nat)(hT:T<5):jd X (.builtin "isinstance") (λ xs H Q=>∃ x,xs=[x,.ty (Vt T)]/\r1 X.K cv (isD T) x H Q):=by
 intro pins s σ H xs us Q I r hh;obtain ⟨x,rfl,μ,h,a,Z',hr,ra,p⟩:=hh;obtain ⟨u,w',rfl,rx,rw'⟩:=OM r;cases (show w'=Value.type (Vt T) from rw');unfold isD at p;have key:∀ (b:Bool),Q (.bl b) H->∀ tk,EP X pins σ Q (.bool b) { s with toks:=tk }:=λ b q tk=>⟨.bl b,H,I.tok _,rfl,q⟩;cases ra with
 | non =>
  have p1:Q (.bl false) H:=p.here hr (.bl _);refine wC I rx .non (b:=false) ?_ (key _ p1);apply jF hT<;>rfl
 | bl y =>
  have p1:Q (.bl (T==0||T==1)) H:=p.here hr (.bl _);refine wC I rx (.bl y) (b:=(T==0||T==1)) ?_ (key _ p1);apply jF hT<;>rfl
 | int y =>
  have p1:Q (.bl (T==0)) H:=p.here hr (.bl _);refine wC I rx (.int y) (b:=(T==0)) ?_ (key _ p1);apply jF hT<;>rfl
 | str y =>
  have p1:Q (.bl (T==2)) H:=p.here hr (.bl _);refine wC I rx (.str y) (b:=(T==2)) ?_ (key _ p1);apply jF hT<;>rfl
 | tup h1 h2 =>
  have p1:Q (.bl (T==3)) H:=p.here hr (.bl _);cases rx;obtain ⟨its,rv,⟨o,g1,g2,_⟩,_⟩:=I.tuple h1;refine Y1a PySem.W.kitx_tuple I.kIn ⟨_,g1,g2⟩ (b:=(T==3)) ?_ (λ z=>nomatch z) (key _ p1);apply jF hT<;>rfl
 | fl h1 h2 =>
  have p1:Q (.bl (T==4)) H:=p.here hr (.bl _);cases rx;obtain ⟨its,rv,⟨o,n',g1,g2,_⟩,_⟩:=I.list h1.sq;refine Y1a Y2x I.kIn ⟨_,g1,g2⟩ (b:=(T==4)) ?_ (λ z=>nomatch z) (key _ p1);apply jF hT<;>rfl
 | @loc nn b m =>
  cases e1:rd h nn with
  | none=>rw [show isI h (.loc nn) T=(rd h nn).map λ _=>T==4 from rfl,e1] at p;exact p.elim
  | some ys =>
   rw [show isI h (.loc nn) T=(rd h nn).map λ _=>T==4 from rfl,e1] at p;have p1:Q (.bl (T==4)) H:=p.here hr (.bl _);obtain ⟨vs,hs1,rs⟩:=hr.rd e1 m;cases rx;obtain ⟨its,rv,⟨o,n',g1,g2,_⟩,_⟩:=I.list hs1;refine Y1a Y2x I.kIn ⟨_,g1,g2⟩ (b:=(T==4)) ?_ (λ z=>nomatch z) (key _ p1);apply jF hT<;>rfl
end
section
variable {X:Cx}{Z:ZK}{k:Nat}{n:Nm}{cv:XX}{cl:136}
noncomputable def rM0 (K:Y00)(cv:XX)(m:M0):V->List V->Hp->VK->Prop:=λ x vs H Q=>vs=[]/\r1 K cv (m0D m) x H Q
noncomputable def rM1 (K:Y00)(cv:XX)(m:M1):V->List V->Hp->VK->Prop:=λ x vs H Q=>∃ y,vs=[y]/\r2 K cv (m1D m) x y H Q
theorem wu {K:Y00}{μ:XV}{H:Hp}{h:Hh}(hr:HR K μ h H){n:Nat}{a:Addr}{xs:163}(m:μ[n]?=some a)(e:h[n]?=some 210):∃ vs,H a=some (.lst vs)/\Reps K μ H xs vs:=hr.obj n a _ m e
theorem Reps.reverse {K:Y00}{μ:XV}{H:Hp}:∀ {ds:163}{vs:211},Reps K μ H ds vs->Reps K μ H ds.reverse vs.reverse
 | _,_,.nil=>.nil
 | _,_,.cons h r=>by rw [Y1d,Y1d];exact r.reverse.append (.cons h .nil)
theorem Reps.dropLast {K:Y00}{μ:XV}{H:Hp}:∀ {ds:163}{vs:211},Reps K μ H ds vs->Reps K μ H ds.dropLast vs.dropLast
 | _,_,.nil=>.nil
 | _,_,.cons h .nil=>.nil
 | _,_,.cons h (.cons h' r)=>.cons h (Reps.dropLast (.cons h' r))
theorem Reps.take {K:Y00}{μ:XV}{H:Hp}:∀ {ds:163}{vs:211} (i:Nat),Reps K μ H ds vs->Reps K μ H (ds.take i) (vs.take i)
 | _,_,0,_=>.nil
 | _,_,_+1,.nil=>.nil
 | _,_,i+1,.cons h r=>.cons h (Reps.take i r)
theorem Reps.drop {K:Y00}{μ:XV}{H:Hp}:∀ {ds:163}{vs:211} (i:Nat),Reps K μ H ds vs->Reps K μ H (ds.drop i) (vs.drop i)
 | _,_,0,r=>r
 | _,_,_+1,.nil=>.nil
 | _,_,i+1,.cons _ r=>Reps.drop i r
theorem Reps.cut {K:Y00}{μ:XV}{H:Hp}{ds:163}{vs:211}(r:Reps K μ H ds vs)(lo hi:Option Int):Reps K μ H (jp ds lo hi) (Gs vs lo hi):=by
 unfold jp Gs;rw [<- r.length];exact (r.drop _).take _
theorem z2e:MtR X "list.pop" (rM0 X.K cv .pop):=by
 intro pins s σ H x xs v us Q I rx rs hh;obtain ⟨rfl,μ,h,a,Z',hr,ra,p⟩:=hh;unfold m0D at p;cases ra with
 | @loc nn b m =>
  cases e1:h[nn]? with
  | none=>simp only [e1] at p;exact p.elim
  | some o =>
   cases o with
   | dK _=>simp only [e1] at p;exact p.elim
   | dT _=>simp only [e1] at p;exact p.elim
   | obj _ _=>simp only [e1] at p;exact p.elim
   | lst ds =>
    simp only [e1] at p;obtain ⟨vs,q1,q2⟩:=wu hr m e1;cases e2:ds.getLast? with
    | none=>simp only [e2] at p;exact p.elim
    | some d =>
     simp only [e2] at p;rw [List.getLast?_eq_getElem?] at e2;obtain ⟨w,e3,e4⟩:=q2.get e2;rw [q2.length] at e3;obtain ⟨hr',ex⟩:=hr.chg (u:=.lst vs.dropLast) (o':=.lst ds.dropLast) e1 m λ H' ex e=>⟨_,e,(q2.mono ex).dropLast⟩;exact z5r pins s σ H _ _ v us Q I rx rs ⟨b,vs,w,rfl,rfl,q1,e3,p μ _ w ex hr' (e4.mono ex)⟩
 | _=>exact p.elim
theorem Uy:MtR X "list.append" (rM1 X.K cv .append):=by
 intro pins s σ H x xs v us Q I rx rs hh;obtain ⟨y,rfl,μ,h,a,d,Z',hr,ra,rb,p⟩:=hh;unfold m1D at p;cases ra with
 | @loc nn b m =>
  cases e1:h[nn]? with
  | none=>simp only [e1] at p;exact p.elim
  | some o =>
   cases o with
   | dK _=>simp only [e1] at p;exact p.elim
   | dT _=>simp only [e1] at p;exact p.elim
   | obj _ _=>simp only [e1] at p;exact p.elim
   | lst ds =>
    simp only [e1] at p;obtain ⟨vs,q1,q2⟩:=wu hr m e1;split at p
    ·rename_i c;obtain ⟨hr',ex⟩:=hr.chg (u:=.lst (vs++[y])) (o':=.lst (ds++[d])) e1 m λ H' ex e=>⟨_,e,(q2.mono ex).append (.cons (rb.mono ex) .nil)⟩;exact Gv pins s σ H _ _ v us Q I rx rs ⟨b,vs,y,rfl,rfl,q1,by rw [<- q2.length];exact WY c,p μ _ .non ex hr' .non⟩
    ·exact p.elim
 | _=>exact p.elim
theorem Uz (l b:Addr)(xs ys:XJ)(n m:Nat)(dd:Option Addr)(ss:213)(h0:¬(!xs.isEmpty&&Builtin.List.listTooLong (xs.size+ys.size))=true)(h1:xs.size<=sizeLine)(h2:xs.size+ys.size<=sizeLine+1) :
  Meets (Builtin.«list.extend» ⟨[.ref l,.ref b],[]⟩) (λ _ R s =>
   s.heap.get? l=some { cls:=.type "list",data:=.seq xs n } /\
   s.heap.get? b=some ⟨.type "tuple",dd,.seq ys m,ss⟩ /\
   R (.ok (.ret Value.none)) { s with heap:=s.heap.update l (Obj.mapSeq λ x=>x++ys),toks:=s.toks }) :=
 .of_wp λ prog w A R s h=>by
  obtain ⟨hp,g,d,tk,os⟩:=s;obtain ⟨hl,hb,h⟩:=h;have f1:=AutoSeq1.idx_int;have f2:=AutoSeq1.sub_list_tuple;have f3:=AutoSeq1.sub_tuple_list;have f4:=AutoSeq1.sub_tuple_tuple;have f5:=AutoSeq1.sub_list_list;have hz:(xs++ys).size<=sizeLine+1:=by rw [Array.size_append];exact h2
  wp_walk using (wpAny_updateSeq hl rfl (hz:=h1) (_hz':=hz)),AutoSeq1.wpAny_loadPart' hl,AutoSeq1.wpAny_loadPart' hb
  exact ⟨_,rfl,h⟩
noncomputable def z7z (K:Y00):V->List V->Hp->VK->Prop:=λ x vs H Q=>∃ l b xs zs,x=.ref l/\vs=[.ref b]/\H l=some 210/\SqT K H b zs/\xs.length+zs.length<=sizeLine/\Q .non (upd H l (.lst (xs++zs)))
theorem z2f {X:Cx}:MtM X "list.extend" (z7z X.K):=by
 intro pins s σ H x vs v us Q I rx rv h;obtain ⟨l,b,xs,zs,rfl,rfl,hH,hB,hz,q⟩:=h;cases rx;obtain ⟨u,rfl,ru⟩:=rv.one;cases ru;obtain ⟨z,its,n,r,hl,e⟩:=I.lstM hH;obtain ⟨its2,r2,⟨o,e2,oc,m,od⟩,z2⟩:=I.tuple hB;obtain ⟨oc',dd,od',ss⟩:=o;cases oc;cases od;have hl2:=r2.length;have hsz:its.toArray.size+its2.toArray.size<=sizeLine:=by simp only [Y0e];omega
 have hlong:¬ (!its.toArray.isEmpty&&Builtin.List.listTooLong (its.toArray.size+its2.toArray.size))=true:=by rw [QR hsz,Bool.and_false];exact Y0y
 refine call_meets F.slot_list_extend ⟨_,e,rfl⟩ F.entry_list_extend (F.args_list_extend_2 _ _) (Uz l b its.toArray its2.toArray n m dd ss hlong (by simp only [Y0e];omega) 117) ⟨e,e2,?_⟩;refine ⟨.non,_,I.lset (its':=its++its2) hH e 133 (r.append r2) (by rw [Y01];omega),rfl,q⟩
theorem UA:MtR X "list.extend" (rM1 X.K cv .extend):=by
 intro pins s σ H x xs v us Q I rx rs hh;obtain ⟨y,rfl,μ,h,a,d,Z',hr,ra,rb,p⟩:=hh;unfold m1D at p;cases ra with
 | @loc nn b m =>
  cases e1:h[nn]? with
  | none=>simp only [e1] at p;exact p.elim
  | some o =>
   cases o with
   | dK _=>simp only [e1] at p;exact p.elim
   | dT _=>simp only [e1] at p;exact p.elim
   | obj _ _=>simp only [e1] at p;exact p.elim
   | lst ds =>
    simp only [e1] at p;obtain ⟨vs,q1,q2⟩:=wu hr m e1;cases rb with
    | @loc nm b2 m2 =>
     cases e2:h[nm]? with
     | none=>simp only [e2] at p;exact p.elim
     | some o2 =>
      cases o2 with
      | dK _=>simp only [e2] at p;exact p.elim
      | dT _=>simp only [e2] at p;exact p.elim
      | obj _ _=>simp only [e2] at p;exact p.elim
      | lst ds2 =>
       simp only [e2] at p;obtain ⟨vs2,q3,q4⟩:=wu hr m2 e2;split at p
       ·rename_i c;obtain ⟨hr',ex⟩:=hr.chg (u:=.lst (vs++vs2)) (o':=.lst (ds++ds2)) e1 m λ H' ex e=>⟨_,e,(q2.mono ex).append (q4.mono ex)⟩;exact Gw pins s σ H _ _ v us Q I rx rs ⟨b,b2,vs,vs2,rfl,rfl,q1,q3,by rw [<- q2.length,<- q4.length];exact wP c,p μ _ .non ex hr' .non⟩
       ·exact p.elim
    | @tup ds2 vs2 b2 q3 q4 =>
     simp only at p;split at p
     ·rename_i c;obtain ⟨hr',ex⟩:=hr.chg (u:=.lst (vs++vs2)) (o':=.lst (ds++ds2)) e1 m λ H' ex e=>⟨_,e,(q2.mono ex).append (q4.mono ex)⟩;exact z2f pins s σ H _ _ v us Q I rx rs ⟨b,b2,vs,vs2,rfl,rfl,q1,q3,by rw [<- q2.length,<- q4.length];exact wP c,p μ _ .non ex hr' .non⟩
     ·exact p.elim
    | _=>exact p.elim
 | _=>exact p.elim
noncomputable def zaa (K:Y00)(cv:XX):V->Option Int->Option Int->Hp->VK->Prop:=λ x lo hi H Q=>∃ μ h a Z,HR K μ h H/\Rep K μ H a x/\PostE K cv (Rep K) μ H (Yd a lo hi h) Q Z
theorem yt {K:Y00}{cv:XX}{μ:XV}{H:Hp}{h:Hh}{ds:163}{vs:211}{Q:VK}{Z:Value->Hp->Prop}(hr:HR K μ h H)(r:Reps K μ H ds vs)(p:PostE K cv (Rep K) μ H (new (.lst ds) h) Q Z) :
  ∀ b,H b=none->Q (.ref b) (upd H b (.lst vs)):=λ b hb=>by
 refine p _ _ _ ((zo hb).add hb) (hr.alloc hb (hr.fresh hb) λ μ' g=>⟨_,zA,(r.mono (zo hb)).mono' g⟩) (.loc ?_);rw [<- hr.len,Y09 176,Y0x];rfl
theorem z2g {xs:163}{lo hi:Option Int}{h:Hh}:Yd (.tup xs) lo hi h=if HT.sIx xs.length 0 lo=0/\HT.sIx xs.length xs.length hi=xs.length then .ok (.tup xs) h else .ok (.tup (jp xs lo hi)) h:=rfl
theorem z2h {n:Nat}{lo hi:Option Int}{h:Hh}:Yd (.loc n) lo hi h=match rd h n with | some xs=>new (.lst (jp xs lo hi)) h | none=>.no:=rfl
theorem z2i:SlR X (zaa X.K cv):=by
 intro pins s σ H x v vl vu lo hi sl Q I rx hs pl pu hh;obtain ⟨μ,h,a,Z',hr,ra,p⟩:=hh;cases ra with
 | tup h1 h2 =>
  rw [z2g] at p;split at p
  ·rename_i c;rw [h2.length] at c;exact z20 pins s σ H _ v vl vu lo hi sl Q I rx hs pl pu ⟨_,_,rfl,h1,c.1,c.2,p.here hr (.tup h1 h2)⟩
  ·rename_i c;rw [h2.length] at c;exact z5n pins s σ H _ v vl vu lo hi sl Q I rx hs pl pu ⟨_,_,rfl,h1,c,λ b hb=>p μ _ _ (zo hb) (hr.tup hb) (.tup (SqT.of zA) ((h2.cut lo hi).mono (zo hb)))⟩
 | fl h1 h2=>exact Vn pins s σ H _ v vl vu lo hi sl Q I rx hs pl pu ⟨_,_,rfl,h1.sq,yt hr (h2.cut lo hi) p⟩
 | @loc nn b m =>
  rw [z2h] at p;cases e1:rd h nn with
  | none=>simp only [e1] at p;exact p.elim
  | some xs =>
   simp only [e1] at p;obtain ⟨vs,hs1,rs⟩:=hr.rd e1 m;exact Vn pins s σ H _ v vl vu lo hi sl Q I rx hs pl pu ⟨_,_,rfl,hs1,yt hr (rs.cut lo hi) p⟩
 | _=>exact p.elim
theorem We {K:Y00}{μ:XV}{H:Hp}{h:Hh}{d:D}{v:V}{xs:163}(hr:HR K μ h H)(r:Rep K μ H d v)(e:jY d h=some xs):∃ a vs,v=.ref a/\((SqL K H a vs/\(∀ ys,d≠.tup ys))\/(SqT K H a vs/\d=.tup xs))/\Reps K μ H xs vs:=by
 unfold jY at e;cases r with
 | tup h1 h2=>cases e;exact ⟨_,_,rfl,.inr ⟨h1,rfl⟩,h2⟩
 | fl h1 h2=>cases e;exact ⟨_,_,rfl,.inl ⟨h1.sq,λ _ z=>nomatch z⟩,h2⟩
 | @loc nn b m =>
  unfold PI.rd at e;cases e1:h[nn]? with
  | none=>simp only [e1] at e;cases e
  | some o =>
   cases o with
   | dK _=>simp only [e1] at e;cases e
   | dT _=>simp only [e1] at e;cases e
   | obj _ _=>simp only [e1] at e;cases e
   | lst ds =>
    simp only [e1] at e;cases e;obtain ⟨vs,q1,q2⟩:=wu hr m e1;exact ⟨_,_,rfl,.inl ⟨SqL.of q1,λ _ z=>nomatch z⟩,q2⟩
 | _=>cases e
noncomputable def z3u (d:D)(h:Hh):Res D:=match jY d h with | some xs=>new (.lst xs) h | none=>.no
noncomputable def z80 (d:D)(h:Hh):Res D:=match jY d h with | some xs=>.ok (.tup xs) h | none=>.no
theorem UB:jd X (.type "list") (λ xs H Q=>∃ x,xs=[x]/\r1 X.K cv z3u x H Q):=by
 intro pins s σ H xs us Q I r hh;obtain ⟨x,rfl,μ,h,a,Z',hr,ra,p⟩:=hh;unfold z3u at p;cases e:jY a h with
 | none=>rw [e] at p;exact p.elim
 | some ds =>
  rw [e] at p;obtain ⟨b,vs,rfl,q1,q2⟩:=We hr ra e;exact WN pins s σ H _ us Q I r ⟨b,vs,rfl,q1.elim (λ z=>.inl z.1) (λ z=>.inr z.1),yt hr q2 p⟩
theorem GV:jd X (.type "tuple") (λ xs H Q=>∃ x,xs=[x]/\r1 X.K cv z80 x H Q):=by
 intro pins s σ H xs us Q I r hh;obtain ⟨x,rfl,μ,h,a,Z',hr,ra,p⟩:=hh;unfold z80 at p;cases e:jY a h with
 | none=>rw [e] at p;exact p.elim
 | some ds =>
  rw [e] at p;obtain ⟨b,vs,rfl,q1,q2⟩:=We hr ra e;refine JB pins s σ H _ us Q I r ⟨b,vs,rfl,?_⟩;rcases q1 with ⟨q1,_⟩ | ⟨q1,rfl⟩
  ·exact .inl ⟨q1,λ l hl=>p μ _ _ (zo hl) (hr.tup hl) (.tup (SqT.of zA) (q2.mono (zo hl)))⟩
  ·exact .inr ⟨q1,p.here hr ra⟩
noncomputable def z81 (a b:D)(h:Hh):Res D:=match a,b with | .int i,.int j=>.ok (.int (if j<i then j else i)) h | _,_=>.no
theorem GW (hc:X.calm=true):jd X (.builtin "min") (λ xs H Q=>∃ x y,xs=[x,y]/\r2 X.K cv z81 x y H Q):=by
 intro pins s σ H xs us Q I r hh;obtain ⟨x,y,rfl,μ,h,a,b,Z',hr,ra,rb,p⟩:=hh;unfold z81 at p;cases ra with
 | int i =>
  cases rb with
  | int j=>exact Go hc pins s σ H _ us Q I r ⟨i,j,rfl,p.here hr (.int _)⟩
  | _=>exact p.elim
 | _=>exact p.elim
theorem Yi {K:Y00}{μ:XV}{H:Hp}:∀ {ds:163}{vs:211}{bs:List Bool},Reps K μ H ds vs->qU ds=some bs->vs=bs.map V.bl
 | _,_,_,.nil,e=>by cases e;rfl
 | _,_,_,.cons r t,e=>by
  cases r with
  | bl b =>
   unfold qU at e;obtain ⟨bs',e1,rfl⟩:=Y37.mp e;rw [Yi t e1];rfl
  | _=>cases e
theorem jO {K:Y00}{μ:XV}{H:Hp}{h:Hh}{n:Nat}{a:Addr}{ds:163}(hr:HR K μ h H)(m:μ[n]?=some a)(e:PI.rd h n=some ds):∃ vs,H a=some (.lst vs)/\Reps K μ H ds vs:=by
 unfold PI.rd at e;cases e1:h[n]? with
 | none=>simp only [e1] at e;cases e
 | some o =>
  cases o with
  | dK _=>simp only [e1] at e;cases e
  | dT _=>simp only [e1] at e;cases e
  | obj _ _=>simp only [e1] at e;cases e
  | lst xs =>
   simp only [e1] at e;cases e;exact wu hr m e1
theorem GX:jd X (.type "int") (λ xs H Q=>∃ x,xs=[x]/\r1 X.K cv (c1D .int) x H Q):=by
 intro pins s σ H xs us Q I r hh;obtain ⟨x,rfl,μ,h,a,Z',hr,ra,p⟩:=hh;unfold c1D at p;cases ra with
 | int i=>exact JX pins s σ H _ us Q I r (.inl ⟨i,rfl,p.here hr (.int _)⟩)
 | bl b=>exact JX pins s σ H _ us Q I r (.inr ⟨b,rfl,p.here hr (.int _)⟩)
 | str z =>
  simp only at p;split at p
  ·rename_i n e;split at p
   ·rename_i c;exact GA pins s σ H _ us Q I r ⟨z,n,rfl,e,c,p.here hr (.int _)⟩
   ·exact p.elim
  ·exact p.elim
 | _=>exact p.elim
theorem GY:jd X (.builtin "abs") (λ xs H Q=>∃ x,xs=[x]/\r1 X.K cv (c1D .abs) x H Q):=by
 intro pins s σ H xs us Q I r hh;obtain ⟨x,rfl,μ,h,a,Z',hr,ra,p⟩:=hh;unfold c1D at p;cases ra with
 | int i=>exact ON pins s σ H _ us Q I r ⟨i,rfl,p.here hr (.int _)⟩
 | _=>exact p.elim
theorem By (hc:X.calm=true):jd X (.builtin "any") (λ xs H Q=>∃ (p:Addr) (bs:List Bool),xs=[.ref p]/\SqL X.K H p (bs.map V.bl)/\Q (.bl (bs.any id)) H):=by
 intro pins s σ H xs us Q I r h;obtain ⟨p,bs,rfl,hq,q⟩:=h;obtain ⟨u,rfl,ru⟩:=Z6 r;cases ru;obtain ⟨its,rv,pl,hz⟩:=I.list hq;have hb:=QW rv;have hl:s.heap.IsList p its.toArray:=pl.isList;have hlt:p<s.heap.objs.size:=by obtain ⟨_,e,_⟩:=hl;exact Y0i e
 refine call_any_walk (wpAny_pyIter_list hl ?_);refine ⟨s.heap.objs.size,[s.heap.objs.size,p],[s.heap.objs.size],its.toArray.size,_,_,λ i=>(bs[i]?).getD false,rfl,Walks.list (A:=X.A.in1) (I.ok.hd hc) _ p (Y0m hlt) its.toArray,
  ⟨240,hl.push _⟩,λ i v s' Q' E' hP hQ=>?_,λ h' tk hk=>?_⟩
 ·obtain ⟨b,e,rfl⟩:=hb.get i v (by simpa using hP);simp only [e,Option.getD_some] at hQ;exact wpAny_truthy_bool hQ
 ·have e:((List.range its.toArray.size).any λ i=>(bs[i]?).getD false)=bs.any id:=by
   rw [Y0e,hb.length];exact PyProof.Rows.LSm.range_any bs
  rw [e];exact ⟨.bl (bs.any id),H,I.kept (PyProof.Rows.LSm.kept_iter hk),rfl,q⟩
theorem GZ (hc:X.calm=true):jd X (.builtin "any") (λ xs H Q=>∃ x,xs=[x]/\r1 X.K cv (c1D .any) x H Q):=by
 intro pins s σ H xs us Q I r hh;obtain ⟨x,rfl,μ,h,a,Z',hr,ra,p⟩:=hh;unfold c1D at p;cases ra with
 | @loc nn b m =>
  simp only at p;split at p
  ·rename_i bs e;obtain ⟨ds,e1,e2⟩:=Option.bind_eq_some_iff.mp e;obtain ⟨vs,q1,q2⟩:=jO hr m e1;have ev:=Yi q2 e2;subst ev;exact By hc pins s σ H _ us Q I r ⟨b,bs,rfl,SqL.of q1,p.here hr (.bl _)⟩
  ·exact p.elim
 | _=>exact p.elim
noncomputable def zab (K:Y00):OE:=λ o i v H Q=>∃ μ h a b c h',HR K μ h H/\Rep K μ H a o/\Rep K μ H b i/\Rep K μ H c v/\Yc a b c h=some h'/\∀ μ' H',Ext K μ H μ' H'->HR K μ' h' H'->Q H'
theorem RepKs.map {κ:Type}[DecidableEq κ]{K:Y00}{μ:XV}{H:Hp}{k:κ}{d:D}{v:V}(q:Rep K μ H d v):∀ {ds:List (κ×D)}{vs:List (κ×V)},RepKs K μ H ds vs ->
  RepKs K μ H (ds.map λ kv=>if kv.1=k then (kv.1,d) else kv) (vs.map λ kv=>if kv.1=k then (kv.1,v) else kv)
 | _,_,.nil=>.nil
 | _,_,.cons (k:=k') h r=>by
  rw [Y0n,Y0n];by_cases e:k'=k
  ·rw [if_pos e,if_pos e];exact .cons q (RepKs.map q r)
  ·rw [if_neg e,if_neg e];exact .cons h (RepKs.map q r)
theorem RepKs.any {κ:Type}[DecidableEq κ]{K:Y00}{μ:XV}{H:Hp}(k:κ):∀ {ds:List (κ×D)}{vs:List (κ×V)},RepKs K μ H ds vs->(ds.any λ kv=>decide (kv.1=k))=(vs.any λ kv=>decide (kv.1=k))
 | _,_,.nil=>rfl
 | _,_,.cons h r=>by rw [Y1t,Y1t,RepKs.any k r]
theorem RepKs.snoc {κ:Type}[DecidableEq κ]{K:Y00}{μ:XV}{H:Hp}{k:κ}{d:D}{v:V}(q:Rep K μ H d v):∀ {ds:List (κ×D)}{vs:List (κ×V)},RepKs K μ H ds vs->RepKs K μ H (ds++[(k,d)]) (vs++[(k,v)])
 | _,_,.nil=>.cons q .nil
 | _,_,.cons h r=>.cons h (RepKs.snoc q r)
theorem RepKs.put {κ:Type}[DecidableEq κ]{K:Y00}{μ:XV}{H:Hp}{k:κ}{d:D}{v:V}{ds:List (κ×D)}{vs:List (κ×V)}(r:RepKs K μ H ds vs)(q:Rep K μ H d v):RepKs K μ H (wO ds k d) (jB vs k v):=by
 unfold wO jB;rw [<- r.any k]
 split
 ·exact r.map q
 ·exact r.snoc q
theorem Bz (hu:X.A.units+1<cLine):z56 X (zab X.K):=by
 intro pins s σ H o i v ov iv u Q I ro ri rv hh;obtain ⟨μ,h,a,b,c,h',hr,ra,rb,rc,e,q⟩:=hh;unfold Yc at e;cases ra with
 | @loc nn p m =>
  cases e1:h[nn]? with
  | none=>simp only [e1] at e;cases e
  | some ob =>
   cases ob with
   | lst xs=>simp only [e1] at e;cases e
   | obj _ _=>simp only [e1] at e;cases e
   | dT _=>simp only [e1] at e;cases e
   | dK kvs =>
    simp only [e1] at e;obtain ⟨vs,q1,q2⟩:=(hr.obj nn p _ m e1:RepO X.K μ H p (.dK kvs));cases e2:wn b with
    | none=>simp only [e2,Y34] at e;cases e
    | some k =>
     simp only [e2,Y2q] at e;split at e
     ·rename_i hl;cases e;have ey:=J2 rb e2;subst ey;obtain ⟨hr',ex⟩:=hr.chg (u:=.dK (jB vs k v)) (o':=.dK (wO kvs k c)) e1 m λ H' ex e=>⟨_,e,(q2.mono ex).put (rc.mono ex)⟩;cases ro;exact Gy hu I (DPut.k q1 (by rw [<- q2.length];exact WY hl)) ri rv λ s' I'=>⟨_,I',q μ _ ex hr'⟩
     ·cases e
 | _=>cases e
noncomputable def z82:OE:=λ o i v H Q=>∃ a b kvs k,o=.ref a/\i=.ref b/\DT H a kvs/\H b=some (.tup (k.map kV))/\kvs.length<sizeLine/\Q (upd H a (.dT (jB kvs k v)))
theorem z63 (hu:X.A.units+1<cLine):z56 X z82:=by
 intro pins s σ H o i v ov iv u Q I ro ri rv hh;obtain ⟨a,b,kvs,k,rfl,rfl,g,eb,hz,q⟩:=hh;cases ro;cases ri;exact GL hu I g eb hz rv λ s' I'=>⟨_,I',q⟩
theorem BA {K:Y00}{μ:XV}{H:Hp}{h h':Hh}{a c:D}{ds:163}{x v:V}{vs:211}(hr:HR K μ h H)(ra:Rep K μ H a x)(rd:Reps K μ H ds vs)(rc:Rep K μ H c v)(e:putT a ds c h=some h') :
  ∃ b kvs k,x=.ref b/\DT H b kvs/\vs=k.map kV/\kvs.length<sizeLine/\∀ H1,Ext K μ H μ H1->HR K μ h H1->DT H1 b kvs->HR K μ h' (upd H1 b (.dT (jB kvs k v)))/\Ext K μ H1 μ (upd H1 b (.dT (jB kvs k v))):=by
 unfold putT at e;cases ra with
 | @loc nn p m =>
  cases e1:h[nn]? with
  | none=>simp only [e1] at e;cases e
  | some ob =>
   cases ob with
   | lst _=>simp only [e1] at e;cases e
   | obj _ _=>simp only [e1] at e;cases e
   | dT kvs =>
    simp only [e1] at e;obtain ⟨ws,q1,q2⟩:=(hr.obj nn p _ m e1:RepO K μ H p (.dT kvs));cases e2:yr ds with
    | none=>simp only [e2,Y34] at e;cases e
    | some k =>
     simp only [e2,Y2q] at e;split at e
     ·rename_i hl;cases e;refine ⟨p,ws,k,rfl,.inl q1,qM rd e2,by rw [<- q2.length];exact WY hl,λ H1 x1 h1 _=>?_⟩;exact h1.chg (u:=.dT (jB ws k v)) (o':=.dT (wO kvs k c)) e1 m λ H' ex e=>⟨_,e,((q2.mono x1).mono ex).put ((rc.mono x1).mono ex)⟩
     ·cases e
   | dK kvs =>
    cases kvs with
    | cons _ _=>simp only [e1] at e;cases e
    | nil =>
     simp only [e1] at e;obtain ⟨ws,q1,q2⟩:=(hr.obj nn p _ m e1:RepO K μ H p (.dK []));cases q2;cases e2:yr ds with
     | none=>simp only [e2,Option.map_none] at e;cases e
     | some k =>
      simp only [e2,Y2t] at e;cases e;refine ⟨p,[],k,rfl,.inr ⟨q1,rfl⟩,qM rd e2,by decide,λ H1 x1 h1 _=>?_⟩;exact h1.chg (u:=.dT (jB [] k v)) (o':=.dT [(k,c)]) e1 m λ H' ex e=>⟨_,e,.cons ((rc.mono x1).mono ex) .nil⟩
 | _=>cases e
end
theorem jj {K:Y00}{f:α->Hh->Res γ}
  (e0:Ext K μ0 H0 μ H) (hr:HR K μ h H) (er:ER K μ ρ σ H) (p:PostE K cv R' μ0 H0 ((m ρ h).bind f) Q Zz) (hz:∀ C H',Zz C H'->Z σ C H')
  (go:∀ a h1 μ1 H1 x,m ρ h=.ok a h1->Ext K μ H μ1 H1->HR K μ1 h1 H1->ER K μ1 ρ σ H1->R μ1 H1 a x->PostE K cv R' μ0 H0 (f a h1) Q Zz->Q' x H1) :
  zy K cv R Z m σ H Q':=by
 refine ⟨μ,ρ,h,hr,er,?_⟩;cases e:m ρ h with
 | ok a h1 =>
  rw [e,bind_ok] at p;exact λ μ1 H1 x e1 r1 q1=>go a h1 μ1 H1 x e e1 r1 (er.mono e1) q1 p
 | exc c h1 =>
  rw [e,bind_exc] at p;exact p
 | no=>rw [e,bind_no] at p;exact p
noncomputable def Src (K:Y00)(μ0:XV)(H0:Hp)(c:Ck)(ds:163)(J:It):Prop:=∀ μ h H,Ext K μ0 H0 μ H->HR K μ h H->stay c h ->
 (∀ i d,ds[i]?=some d->J.go i H/\∀ x H',J.yld i H x H'->Ext K μ H μ H'/\HR K μ h H'/\Rep K μ H' d x)/\J.stop ds.length H
noncomputable def RJ (K:Y00):List Addr->Hp->(Ck×List D)->It->Prop:=λ μ H q J=>Src K μ H q.1 q.2 J
noncomputable def RL (K:Y00)(H0:Hp):List Addr->Hp->List D->V->Prop:=λ μ H ds v=>∃ p vs,v=.ref p/\H p=some (.lst vs)/\Reps K μ H ds vs/\p∉μ/\H0 p=none
abbrev BB (K:Y00)(cv:XX)(Z:ZK)(m:En->Hh->Res (List D)):TE:=λ σ H Q=>zy K cv (RL K H) Z m σ H Q
section
variable {K:Y00}{μ:XV}{H:Hp}{h:Hh}{ds:163}{vs:211}{a:Addr}
theorem yZ (k:∀ μ1 h1 H1,Ext K μ H μ1 H1->HR K μ1 h1 H1->stay c h1->(∀ i d,ds[i]?=some d->J.go i H1/\∀ x H',J.yld i H1 x H'->H'=H1/\Rep K μ1 H1 d x)/\J.stop ds.length H1):Src K μ H c ds J:=λ μ1 h1 H1 ex hr st =>
 ⟨λ i d e=>⟨((k μ1 h1 H1 ex hr st).1 i d e).1,λ x H' y=>by obtain ⟨rfl,r⟩:=((k μ1 h1 H1 ex hr st).1 i d e).2 x H' y;exact ⟨Ext.refl,hr,r⟩⟩,(k μ1 h1 H1 ex hr st).2⟩
theorem UC (k:∀ μ1 h1 H1,Ext K μ H μ1 H1->HR K μ1 h1 H1->stay c h1->∃ vs,SqL K H1 a vs/\Reps K μ1 H1 ds vs):Src K μ H c ds (Itl K a):=yZ λ μ1 h1 H1 ex hr st=>by
 obtain ⟨vs,q1,q2⟩:=k μ1 h1 H1 ex hr st;refine ⟨λ i d e=>?_,⟨vs,q1,by rw [<- q2.length];exact Y04 _⟩⟩;obtain ⟨w,e1,e2⟩:=q2.get e;refine ⟨⟨vs,w,q1,e1⟩,λ x H' y=>⟨y.1,?_⟩⟩
 have:=y.2 vs q1
 rw [e1] at this;cases this;exact e2
theorem z2j (m:μ[n]?=some a):Src K μ H [(n,ds)] ds (Itl K a):=UC λ μ1 h1 H1 ex hr st=>by
 have e:=st (n,ds) (Y07.mpr rfl);have m1:=ex.loc n a m;unfold PI.rd at e;cases e1:h1[n]? with
 | none=>simp only [e1] at e;cases e
 | some o =>
  cases o with
  | dK _=>simp only [e1] at e;cases e
  | dT _=>simp only [e1] at e;cases e
  | obj _ _=>simp only [e1] at e;cases e
  | lst xs =>
   simp only [e1] at e;cases e;obtain ⟨vs,q1,q2⟩:=wu hr m1 e1;exact ⟨vs,SqL.of q1,q2⟩
theorem z64 (f:Fz K H a vs)(r:Reps K μ H ds vs):Src K μ H [] ds (Itl K a):=UC λ μ1 h1 H1 ex hr st=>⟨vs,(ex.fz _ _ f).sq,r.mono ex⟩
theorem z2k (e:H a=some (.lst vs))(n:a∉μ)(r:Reps K μ H ds vs):Src K μ H [] ds (Itl K a):=UC λ μ1 h1 H1 ex hr st=>⟨vs,SqL.of (ex.oth _ _ e n),r.mono ex⟩
theorem z2l (f:SqT K H a vs)(r:Reps K μ H ds vs):Src K μ H [] ds (Itt K a):=yZ λ μ1 h1 H1 ex hr st=>by
 have q1:=ex.tup _ _ f;have q2:=r.mono ex;refine ⟨λ i d e=>?_,⟨vs,q1,by rw [<- q2.length];exact Y04 _⟩⟩;obtain ⟨w,e1,e2⟩:=q2.get e;refine ⟨⟨vs,w,q1,e1⟩,λ x H' y=>⟨y.1,?_⟩⟩
 have:=y.2 vs q1
 rw [e1] at this;cases this;exact e2
theorem z2m (z:Str):Src K μ H [] (z.cps.toList.map λ c=>.str ⟨#[c]⟩) (Its z):=yZ λ μ1 h1 H1 ex hr st=>by
 refine ⟨λ i d e=>?_,by show z.length<=_;rw [Y08];exact Nat.le_of_eq rfl⟩;rw [Y0u] at e;cases e1:z.cps.toList[i]? with
 | none=>rw [e1] at e;cases e
 | some c =>
  rw [e1] at e;cases e;refine ⟨?_,λ x H' y=>⟨y.1,?_⟩⟩
  ·have:=(Y0f.mp e1).1
   exact (by simpa using this:i<z.cps.size)
  ·obtain ⟨c',e2,rfl⟩:=y.2;rw [e1] at e2;cases e2;exact .str _
theorem BC (k:∀ μ1 h1 H1,Ext K μ H μ1 H1->HR K μ1 h1 H1->stay c h1->∃ vs,SqL K H1 a vs/\Reps K μ1 H1 ds vs):Src K μ H c ds.reverse (Itv K a ds.length):=yZ λ μ1 h1 H1 ex hr st=>by
 obtain ⟨vs,q1,q2⟩:=k μ1 h1 H1 ex hr st;have hl:=q2.length;refine ⟨λ i d e=>?_,by show _=_;rw [Y0l]⟩;have hi:i<ds.length:=by have:=(Y0f.mp e).1;rwa [Y0l] at this
 rw [Y3a hi] at e;obtain ⟨w,e1,e2⟩:=q2.get e;refine ⟨⟨hi,vs,q1,hl.symm⟩,λ x H' y=>⟨y.1,?_⟩⟩
 have:=y.2 vs q1
 rw [e1] at this;cases this;exact e2
theorem z2n (f:SqT K H a vs)(r:Reps K μ H ds vs):Src K μ H [] ds.reverse (Itw K a ds.length):=yZ λ μ1 h1 H1 ex hr st=>by
 have q1:=ex.tup _ _ f;have q2:=r.mono ex;have hl:=q2.length;refine ⟨λ i d e=>?_,by show _=_;rw [Y0l]⟩;have hi:i<ds.length:=by have:=(Y0f.mp e).1;rwa [Y0l] at this
 rw [Y3a hi] at e;obtain ⟨w,e1,e2⟩:=q2.get e;refine ⟨⟨hi,vs,q1,hl.symm⟩,λ x H' y=>⟨y.1,?_⟩⟩
 have:=y.2 vs q1
 rw [e1] at this;cases this;exact e2
theorem z2o (m:μ[n]?=some a):Src K μ H [(n,ds)] ds.reverse (Itv K a ds.length):=BC λ μ1 h1 H1 ex hr st=>by
 have e:=st (n,ds) (Y07.mpr rfl);obtain ⟨vs,q1,q2⟩:=jO hr (ex.loc n a m) e;exact ⟨vs,SqL.of q1,q2⟩
theorem z2p (f:Fz K H a vs)(r:Reps K μ H ds vs):Src K μ H [] ds.reverse (Itv K a ds.length):=BC λ μ1 h1 H1 ex hr st=>⟨vs,(ex.fz _ _ f).sq,r.mono ex⟩
theorem VA (r:Rep K μ H d x)(hr:HR K μ h H)(e:Bp d h=some (c,ds)):∃ l b vs,x=.ref l/\SqB K H l b vs/\vs.length=ds.length/\∀ μ1 h1 H1,Ext K μ H μ1 H1->HR K μ1 h1 H1->stay c h1->∃ vs',SqB K H1 l b vs'/\Reps K μ1 H1 ds vs':=by
 cases r with
 | @tup xs vs a f r =>
  cases e;exact ⟨a,false,vs,rfl,f,r.length.symm,λ μ1 h1 H1 ex _ _=>⟨vs,ex.tup _ _ f,r.mono ex⟩⟩
 | @fl xs vs a f r =>
  cases e;exact ⟨a,true,vs,rfl,f.sq,r.length.symm,λ μ1 h1 H1 ex _ _=>⟨vs,(ex.fz _ _ f).sq,r.mono ex⟩⟩
 | @loc n a m =>
  have e:(PI.rd h n).map (λ xs=>(([(n,xs)],xs):Ck×List D))=some (c,ds):=e;cases e1:PI.rd h n with
  | none=>rw [e1] at e;cases e
  | some xs =>
   rw [e1] at e;cases e;obtain ⟨vs,q1,q2⟩:=jO hr m e1;refine ⟨a,true,vs,rfl,SqL.of q1,q2.length.symm,λ μ1 h1 H1 ex hr1 st=>?_⟩;obtain ⟨vs',q3,q4⟩:=jO hr1 (ex.loc n a m) (st (n,ds) (Y07.mpr rfl));exact ⟨vs',SqL.of q3,q4⟩
 | _=>cases e
theorem z2q (k1:∀ μ1 h1 H1,Ext K μ H μ1 H1->HR K μ1 h1 H1->stay c1 h1->∃ vs',SqB K H1 l1 b1 vs'/\Reps K μ1 H1 ds vs')(k2:∀ μ1 h1 H1,Ext K μ H μ1 H1->HR K μ1 h1 H1->stay c2 h1->∃ vs',SqB K H1 l2 b2 vs'/\Reps K μ1 H1 es vs') :
  Src K μ H (c1++c2) ((ds.zip es).map ZY) (Itz K l1 l2 b1 b2 ds.length es.length):=λ μ1 h1 H1 ex hr st=>by
 obtain ⟨vs,q1,r1⟩:=k1 μ1 h1 H1 ex hr λ p hp=>st p (Y0v _ hp);obtain ⟨ws,q2,r2⟩:=k2 μ1 h1 H1 ex hr λ p hp=>st p (Y0q _ hp);refine ⟨λ i d e=>?_,?_,vs,ws,q1,q2,r1.length.symm,r2.length.symm⟩
 ·rw [Y0u] at e;cases e1:(ds.zip es)[i]? with
  | none=>rw [e1] at e;cases e
  | some q =>
   rw [e1] at e;cases e;obtain ⟨z1,z2⟩:=List.getElem?_zip_eq_some.mp e1;obtain ⟨w1,g1,p1⟩:=r1.get z1;obtain ⟨w2,g2,p2⟩:=r2.get z2;refine ⟨⟨(Y0f.mp z1).1,(Y0f.mp z2).1,vs,ws,q1,q2,r1.length.symm,r2.length.symm⟩,λ x H' y=>?_⟩;obtain ⟨T,rfl,hT,f⟩:=y;obtain ⟨u,v,f1,f2,rfl⟩:=f vs ws q1 q2;rw [g1] at f1;cases f1;rw [g2] at f2;cases f2;exact ⟨zo hT,hr.tup hT,.tup (SqT.of zA) (.cons (p1.mono (zo hT)) (.cons (p2.mono (zo hT)) .nil))⟩
 ·rw [Y08,List.length_zip];rcases Nat.le_total ds.length es.length with z | z
  ·exact .inl (Nat.min_eq_left z)
  ·exact .inr (Nat.min_eq_right z)
theorem Wf:∀ (xs:163) (k i:Nat),(js k xs)[i]?=(xs[i]?).map λ x=>D.tup [.int ((k+i:Nat)),x]
 | [],k,i=>by simp [js]
 | x::r,k,0=>by simp [js]
 | x::r,k,i+1=>by
  rw [js,Y1h,Y1h,Wf r (k+1) i,Nat.add_right_comm k 1 i,Y25 k i 1]
theorem Wg:∀ (xs:163) (k:Nat),(js k xs).length=xs.length
 | [],_=>rfl
 | x::r,k=>by rw [js,Y03,Y03,Wg r (k+1)]
theorem BD (m:μ[n]?=some a):Src K μ H [(n,ds)] (js 0 ds) (Ite K a ds.length):=λ μ1 h1 H1 ex hr st=>by
 obtain ⟨vs,q1,r1⟩:=jO hr (ex.loc n a m) (st (n,ds) (Y07.mpr rfl));refine ⟨λ i d e=>?_,Wg ds 0,vs,SqL.of q1,r1.length.symm⟩;rw [Wf] at e;cases e1:ds[i]? with
 | none=>rw [e1] at e;cases e
 | some q =>
  rw [e1,Y1j] at e;cases e;obtain ⟨w1,g1,p1⟩:=r1.get e1;refine ⟨⟨(Y0f.mp e1).1,vs,SqL.of q1,r1.length.symm⟩,λ x H' y=>?_⟩;obtain ⟨T,rfl,hT,f⟩:=y;obtain ⟨u,f1,rfl⟩:=f vs (SqL.of q1);rw [g1] at f1;cases f1;exact ⟨zo hT,hr.tup hT,.tup (SqT.of zA) (.cons (.int _) (.cons (p1.mono (zo hT)) .nil))⟩
theorem z2r (j:Nat):Src K μ H [] ((List.range j).map λ (k:Nat)=>.int (k:Nat)) (Itr 0 j):=yZ λ μ1 h1 H1 ex hr st=>by
 refine ⟨λ i d e=>?_,by show j<=_;rw [Y08,List.length_range];exact Y04 _⟩;rw [Y0u] at e;cases e1:(List.range j)[i]? with
 | none=>rw [e1] at e;cases e
 | some c =>
  rw [e1] at e;cases e;obtain ⟨hi,e2⟩:=Y0f.mp e1;rw [List.length_range] at hi;rw [List.getElem_range] at e2;subst e2;refine ⟨hi,λ x H' y=>⟨y.1,?_⟩⟩;rw [y.2,Int.zero_add];exact .int _
end
section
variable {X:Cx}{Z:ZK}{k:Nat}{n:Nm}{cv:XX}{cl:136}{tg:Expr}
theorem z65 (hl:PE X l tl):PI X tg l (λ σ H R=>tl σ H λ x H1=>(∃ a,x=.ref a/\(∃ xs,SqL X.K H1 a xs)/\R (Itl X.K a) H1)\/(∃ a,x=.ref a/\(∃ xs,SqT X.K H1 a xs)/\R (Itt X.K a) H1)\/∃ z,x=.str z/\R (Its z) H1):=by
 intro pins s σ H R I h;refine thn (hl pins s σ H _ I h) λ v s1 ⟨x,H1,I1,r1,q1⟩=>?_;rcases q1 with ⟨a,rfl,⟨xs,hq⟩,q⟩ | ⟨a,rfl,⟨xs,hq⟩,q⟩ | ⟨x,rfl,q⟩
 ·cases r1;obtain ⟨its,rv,p,hz⟩:=I1.list hq;refine wpAny_pyIter_list p.isList ?_;refine ⟨s1.heap.objs.size,[s1.heap.objs.size],_,_,H1,rfl,I1.kept λ b o e=>Y02 _ e,JV a _,240,λ b hb=>?_,q⟩;have e:b=s1.heap.objs.size:=by simpa using hb
  subst e;exact I1.fpOk 176 (I1.hok.fresh 176)
 ·cases r1;obtain ⟨its,rv,p,hz⟩:=I1.tuple hq;refine wpAny_pyIter_tuple (show s1.heap.IsTuple a its.toArray from p) ?_;refine ⟨s1.heap.objs.size,[s1.heap.objs.size],_,_,H1,rfl,I1.kept λ b o e=>Y02 _ e,U3 a _,240,λ b hb=>?_,q⟩;have e:b=s1.heap.objs.size:=by simpa using hb
  subst e;exact I1.fpOk 176 (I1.hok.fresh 176)
 ·obtain ⟨t,rfl⟩:=r1;have fp:∀ b∈[s1.heap.objs.size],yM X pins H1 b:=λ b hb=>by
   have e:b=s1.heap.objs.size:=by simpa using hb
   subst e;exact I1.fpOk 176 (I1.hok.fresh 176)
  cases ha:x.cps.all (·<128) with
  | false =>
   refine wpAny_pyIter_wide ha ?_;exact ⟨s1.heap.objs.size,[s1.heap.objs.size],_,_,H1,rfl,I1.kept λ b o e=>Y02 _ e,Gz _ x t,240,fp,q⟩
  | true =>
   refine wpAny_pyIter_ascii ha ?_;exact ⟨s1.heap.objs.size,[s1.heap.objs.size],_,_,H1,rfl,I1.kept λ b o e=>Y02 _ e,Ui _ x t,240,fp,q⟩
theorem PI.mono (p:L2.PI X tg iter t)(h:∀ σ H R,t' σ H R->t σ H R):L2.PI X tg iter t':=λ pins s σ H R I q=>p pins s σ H R I (h σ H R q)
noncomputable def gB (K:Y00)(t:Tg):TG:=λ v σ H Q=>∃ μ ρ d ρ' h,HR K μ h H/\ER K μ ρ σ H/\Rep K μ H d v/\jq t d ρ=some ρ' /\
 ∀ σ',ER K μ ρ' σ' H->σ'.length=σ.length->(∀ i,i∉t.idx->σ'[i]?=σ[i]?)->Q σ' H
theorem PG.mono (p:PG X tg t)(h:∀ v σ H Q,t' v σ H Q->t v σ H Q):PG X tg t':=λ pins s σ H v u Q I r q=>p pins s σ H v u Q I r (h v σ H Q q)
noncomputable def gNs:List (Nat×Pos)->TGs
 | []=>z7b
 | q::r=>z3n (Vg q.1) (gNs r)
theorem Z0 (hN:X.N.Nodup):∀ (is:List (Nat×Pos)),(∀ q∈is,q.1<X.N.length/\Loc X.env.scope (X.N.getD q.1 "")/\(X.fn (X.N.getD q.1 "")=true\/X.env.scope.names.lookup (X.N.getD q.1 "")=some .local)) ->
  PGs X (is.map λ q=>.Name (X.N.getD q.1 "") q.2) (gNs is)
 | [],_=>z15
 | q::r,h=>by
  have hq:=h q (Y0c ..);exact OF (Vh hN (by rw [Y17,Y0j hq.1];rfl) hq.2.1 hq.2.2) (Z0 hN r λ z hz=>h z (Y06 _ hz))
theorem wF (N:XY)(env:Env):∀ is:List (Nat×Pos),(assignEach (is.map λ q=>.Name (N.getD q.1 "") q.2) env).length=is.length/\(assignEach (is.map λ q=>.Name (N.getD q.1 "") q.2) env).findIdx? (·.1)=none
 | []=>⟨rfl,rfl⟩
 | q::r=>by
  have ih:=wF N env r;rw [Y0n];refine ⟨?_,?_⟩
  ·show ((false,_)::assignEach (r.map λ q=>.Name (N.getD q.1 "") q.2) env).length=_;rw [Y03,ih.1,Y03]
  ·show ((false,_)::assignEach (r.map λ q=>.Name (N.getD q.1 "") q.2) env).findIdx? (·.1)=none;rw [List.findIdx?_cons,ih.2];rfl
theorem Q2 {K:Y00}:∀ (is:List (Nat×Pos)) {ds:163}{vs:211}{ρ:En}{σ:St}{Q:St->Hp->Prop},Reps K μ H ds vs->ds.length=is.length->ER K μ ρ σ H ->
  (∀ σ',ER K μ ((is.zip ds).foldl (λ ρ q=>ρ.set q.1.1 (some q.2)) ρ) σ' H->σ'.length=σ.length->(∀ i,i∉is.map (·.1)->σ'[i]?=σ[i]?)->Q σ' H)->gNs is vs σ H Q
 | [],_,_,ρ,σ,Q,r,hl,er,q=>by
  cases r with
  | nil=>exact ⟨rfl,q σ er rfl λ _ _=>rfl⟩
  | cons _ _=>cases hl
 | p::is,_,_,ρ,σ,Q,r,hl,er,q=>by
  cases r with
  | nil=>cases hl
  | cons r1 r2 =>
   refine ⟨_,_,rfl,?_⟩;refine Q2 is r2 (by simpa using hl) (er.set r1 p.1) λ σ' e1 e2 e3=>?_;refine q σ' e1 (e2.trans Y0k) λ i hi=>?_;rw [Y0n] at hi;rw [e3 i λ z=>hi (Y06 _ z),Y1e λ z=>hi (by rw [<- z];exact Y0c ..)]
theorem z83 (hc:X.calm=true) (hN:X.N.Nodup) (t:Tg) (h:∀ i∈t.idx,i<X.N.length/\Loc X.env.scope (X.N.getD i "")/\(X.fn (X.N.getD i "")=true\/X.env.scope.names.lookup (X.N.getD i "")=some .local)):PG X (t.py X.N) (gB X.K t):=by
 cases t with
 | one i p =>
  have hq:=h i (Y07.mpr rfl);refine PG.mono (Vh hN (by rw [Y17,Y0j hq.1];rfl) hq.2.1 hq.2.2) λ v σ H Q ⟨μ,ρ,d,ρ',h,hr,er,r,e,q⟩=>?_;cases e;exact q _ (er.set r i) Y0k λ j hj=>Y1e λ z=>hj (by rw [<- z];exact Y07.mpr rfl)
 | tup is p =>
  refine PG.mono (OG hc (Z0 hN is λ q hq=>h q.1 (Y0s.mpr ⟨q,hq,rfl⟩)) (wF X.N X.env is).1 (wF X.N X.env is).2) λ v σ H Q ⟨μ,ρ,d,ρ',h,hr,er,r,e,q⟩=>?_;unfold jq at e;cases r with
  | tup h1 h2 =>
   simp only at e;split at e
   ·rename_i c;cases e;exact ⟨_,_,rfl,h1,by rw [<- h2.length];exact c,Q2 is h2 c er q⟩
   ·cases e
  | _=>cases e
end
theorem VB:(1000000:Nat)<sizeLine:=by rw [sizeLine_eq];decide
section
variable {X:Cx}{Z:ZK}{k:Nat}{n:Nm}{cv:XX}{cl:136}
theorem z84 {K:Y00}(cap:232)(er:ER K μ ρ σ H):ER K μ (jD cap ρ) (qt cap σ) H:=by
 refine ⟨by unfold jD qt;rw [Y08,Y08],λ j d e=>?_⟩;unfold jD at e;unfold qt;rw [Y0u] at e ⊢;cases e1:cap[j]? with
 | none=>rw [e1] at e;cases e
 | some o =>
  rw [e1] at e;cases o with
  | none=>cases e
  | some i =>
   have e':(ρ[i]?).bind id=some d:=Option.some.inj e;cases e2:ρ[i]? with
   | none=>rw [e2] at e';cases e'
   | some o2 =>
    rw [e2] at e';have e3:=e';subst e3;obtain ⟨v,q1,q2⟩:=er.val i d e2;exact ⟨v,by show some ((σ[i]?).bind id)=_;rw [q1];rfl,q2⟩
theorem BE {t:Tg}(cok:ji osc scope N NC cap=true)(ht:t.ok scope NC=true)(σ:St):∀ i∈t.idx,(qt cap σ)[i]?=some none:=by
 intro i hi;unfold Tg.ok at ht;have h1:=Y1l.mp ht i hi;rw [Y0t] at h1;have hl:=of_decide_eq_true h1.1;have hloc:=of_decide_eq_true h1.2;unfold ji at cok;simp only [Y0t] at cok;obtain ⟨⟨⟨⟨⟨k1,k2⟩,k3⟩,k4⟩,k5⟩,k6⟩:=cok;have hj:=Y1l.mp k6 i (Y3e.mpr hl);have hN:NC[i]?=some (NC.getD i ""):=by rw [Y17,Y0j hl];rfl
 have hc:i<cap.length:=by rw [beq_iff_eq.mp k5];exact hl
 unfold qt;rw [Y0u];cases e:cap[i]? with
 | none=>rw [List.getElem?_eq_none_iff] at e;omega
 | some o =>
  cases o with
  | none=>rfl
  | some m =>
   exfalso
   rw [e,hN] at hj;simp only [Y0t,beq_iff_eq] at hj;have hfree:=hj.2;rcases hloc with z | z<;>(rw [hfree] at z;cases z)
theorem Wh
  (cok:201) (ht:t.ok scope NC=true)
  (p:BB X.K cv Z (λ ρ h=>(mi ρ h).bind λ q h1=>if q.2.length<=1000000 then zZ q.1 (ja t (jD cap ρ) mc me) q.2 [] h1 else .no) σ H Q) :
  B7 Z cap (zy X.K cv (RJ X.K) Z mi) (gB X.K t) (λ Zc=>zy X.K cv RB Zc mc) (λ Zc=>zy X.K cv 173 Zc me) σ H Q:=by
 obtain ⟨μ,ρ,h,hr,er,p⟩:=p;refine jj Ext.refl hr er p (λ _ _ z=>z) λ q h1 μ1 H1 J _ e1 r1 vk src p1=>?_;split at p1;rotate_left
 ·exact p1.elim
 rename_i vQ;obtain ⟨c,ds⟩:=q;refine ⟨λ i m ys H2=>m=ds.length-i/\i<=ds.length/\∃ μ2 h2 acc,Ext X.K μ1 H1 μ2 H2/\HR X.K μ2 h2 H2/\Reps X.K μ2 H2 acc ys/\acc.length<=i/\PostE X.K cv (RL X.K H) μ H (zZ c (ja t (jD cap ρ) mc me) (ds.drop i) acc h2) Q (Z σ),
  ⟨ds.length,by simp,Y1w _,μ1,h1,[],Ext.refl,r1,.nil,Y04 _,p1⟩,?_⟩
 rintro i m ys H2 ⟨rfl,hi',μ2,h2,acc,e2,r2,ry,ha,p2⟩
 have hyl:ys.length<=i:=by rw [<- ry.length];exact ha
 have hll:ds.length<=1000000:=vQ;by_cases hlt:i<ds.length
 ·right;rw [Y2d hlt] at p2;unfold zZ at p2;split at p2;rotate_left
  ·exact p2.elim
  rename_i st;obtain ⟨s1,s2⟩:=src μ2 h2 H2 e2 r2 st;obtain ⟨g1,g2⟩:=s1 i ds[i] (Y0j hlt);refine ⟨g1,by have:=VB;omega,λ x H3 y=>?_⟩;obtain ⟨e2',r2',rx⟩:=g2 x H3 y;replace e2:=e2.trans e2';replace r2:=r2';replace ry:=ry.mono e2';have er2:=vk.mono e2;unfold ja at p2;cases eb:jq t ds[i] (jD cap ρ) with
  | none=>rw [eb] at p2;exact p2.elim
  | some ρ' =>
   rw [eb] at p2;refine ⟨μ2,jD cap ρ,ds[i],ρ',h2,r2,z84 cap er2,rx,eb,λ σ4 er4 hl4 hs4=>⟨⟨hl4,λ j v ej=>?_⟩,?_⟩⟩
   ·have nj:j∉t.idx:=λ z=>by rw [BE cok ht σ j z] at ej;cases ej
    rw [hs4 j nj];exact ej
   have p3:PostE X.K cv (RL X.K H) μ H ((mc ρ' h2).bind λ b h3=>(if b then (me ρ' h3).bind λ d h4=>Res.ok (some d) h4 else Res.ok none h3).bind λ o h'=>zZ c (ja t (jD cap ρ) mc me) (ds.drop (i+1)) (Bn acc o) h') Q (Z σ):=by
    have p2':=p2;rw [zq] at p2';exact p2'
   refine jj (e1.trans e2) r2 er4 p3 (λ _ _ z=>z) λ b h3 μ3 H3' bb _ e3 r3 er5 qb p4=>?_;have qb':=qb;subst qb';cases b with
   | false =>
    refine Zv ⟨ds.length-(i+1),by omega,rfl,hlt,μ3,h3,acc,e2.trans e3,r3,ry.mono e3,Nat.le_succ_of_le ha,p4⟩
   | true =>
    refine Zw ?_;have p5:PostE X.K cv (RL X.K H) μ H ((me ρ' h3).bind λ d h4=>zZ c (ja t (jD cap ρ) mc me) (ds.drop (i+1)) (acc++[d]) h4) Q (Z σ):=by
     have p4':=p4;rw [if_pos rfl,zq] at p4';exact p4'
    refine jj ((e1.trans e2).trans e3) r3 er5 p5 (λ _ _ z=>z) λ d h4 μ4 H4 v _ e4 r4 er6 qd p6=>?_;exact ⟨ds.length-(i+1),by omega,rfl,hlt,μ4,h4,acc++[d],(e2.trans e3).trans e4,r4,((ry.mono e3).mono e4).append (.cons qd .nil),by rw [Y01];exact Nat.succ_le_succ ha,p6⟩
 ·left;have ei:i=ds.length:=by omega
  subst ei;rw [List.drop_length] at p2;unfold zZ at p2;split at p2;rotate_left
  ·exact p2.elim
  rename_i st;refine ⟨(src μ2 h2 H2 e2 r2 st).2,by have:=VB;omega,λ a ha'=>?_⟩;have ex:=(e1.trans e2);have na:=r2.fresh ha';have n0:H a=none:=by
   cases e:H a with
   | none=>rfl
   | some o=>rw [ex.oth a o e λ z=>na (ex.sub z)] at ha';cases ha'
  exact p2 μ2 _ _ (ex.trans (zo ha')) (r2.tup ha') ⟨a,ys,rfl,zA,ry.mono (zo ha'),na,n0⟩
theorem BF
  (hc:X.calm=true) (th:Thr X Z) (hi:L2.PI X (t.py NC) iter (zy X.K cv (RJ X.K) Z mi)) (cok:201) (ht:t.ok scope NC=true)
  (hg:∀ C s H fp pn xe,PG 156 (t.py NC) (gB X.K t))
  (hf:∀ C s H fp pn xe Zc,Thr 156 Zc->PF 156 ifs (zy X.K cv RB Zc mc))
  (hb:∀ C s H fp pn xe Zc,Thr 156 Zc->PE 156 elt (zy X.K cv 173 Zc me))
  (hs:∀ x,foldedSetIterable iter X.env x=pure x) :
  PE X (.ListComp elt [⟨t.py NC,iter,ifs,0⟩] scope pos) (BB X.K cv Z λ ρ h=>(mi ρ h).bind λ q h1=>if q.2.length<=1000000 then zZ q.1 (ja t (jD cap ρ) mc me) q.2 [] h1 else .no) :=
 PE.mono (z1o hc th hi cok hg hf hb hs) λ σ H Q p=>Wh cok ht p
theorem Kx.comp (C:Kx X Z k n cv cl)(cok:201)(hnd:NC.Nodup)(hgood:NC.all Za=true)
  (th:Thr (zv X NC scope Cc s H fp pn xe) Zc):Kx (zv X NC scope Cc s H fp pn xe) Zc k ⟨NC,n.F,n.G⟩ cv cl:=by
 obtain ⟨c1,c2,c3,c4,c5,c6,c7⟩:=j9 cok;refine ⟨th,C.rm,rfl,hnd,rfl,c1,λ x hx=>⟨?_,Y1l.mp hgood x hx⟩,C.bm,C.gc,C.fn,C.mc,C.xc⟩;obtain ⟨j,hj⟩:=Y3d hx;have cok':=cok;unfold ji at cok';simp only [Y0t] at cok';obtain ⟨⟨⟨⟨⟨k1,k2⟩,k3⟩,k4⟩,k5⟩,k6⟩:=cok';have hl:=(Y0f.mp hj).1;have hk:=Y1l.mp k6 j (Y3e.mpr hl);have rel:(relabel scope X.env).names.lookup x=(scope.names.lookup x).map λ k=>if k=.free then .cell else k:=wM (scope:=scope) C.kd λ y hy e=>c4 y hy e;rw [hj] at hk;show Vis (relabel scope X.env) x;unfold Vis;rw [rel];cases e:cap[j]? with
 | none=>rw [e] at hk;cases hk
 | some o =>
  rw [e] at hk;cases o with
  | none =>
   have hk':scope.names.lookup x=some .local\/scope.names.lookup x=some .cell:=by simpa using hk
   rcases hk' with hk' | hk'
   ·rw [hk'];exact .inl rfl
   ·rw [hk'];exact .inr 206
  | some m =>
   simp only [Y0t,beq_iff_eq] at hk;rw [hk.2];exact .inr 206
end
theorem RepKs.merge {K:Y00}:∀ {more:237}{mv:List (Key×V)}{ds:237}{vs:List (Key×V)},RepKs K μ H more mv->RepKs K μ H ds vs->RepKs K μ H (yX ds more) (wL vs mv)
 | _,_,_,_,.nil,r=>r
 | _,_,ds,vs,@RepKs.cons _ _ _ _ k d v ds' vs' h t,r=>by
  have z:=RepKs.merge (vs:=jB vs k v) t (r.put h);exact z
theorem RepKs.zip {K:Y00}:∀ (ks:List (Str×Pos)) {ds:163}{vs:211},Reps K μ H ds vs->RepKs K μ H ((ks.map λ q=>(Sum.inr q.1:Key)).zip ds) ((ks.map λ q=>(Sum.inr q.1:Key)).zip vs)
 | [],_,_,_=>.nil
 | q::ks,_,_,.nil=>.nil
 | q::ks,_,_,.cons h t=>.cons h (RepKs.zip ks t)
theorem Wi {K:Y00}:∀ {ds:163}{vs:211}{kvs:237},Reps K μ H ds vs->wo ds=some kvs ->
  ∃ mv:List (Key×V),RepKs K μ H kvs mv/\Paired (λ (x:V) (kv:Key×V)=>∃ a,x=.ref a/\SqT K H a [kV kv.1,kv.2]) vs mv
 | _,_,_,.nil,e=>by
  unfold wo at e;cases e;exact ⟨[],.nil,.nil⟩
 | _,_,kvs,@Reps.cons _ _ _ d v ds vs h t,e=>by
  unfold wo at e;cases e1:Vu d with
  | none=>rw [e1] at e;simp at e
  | some a =>
   cases e2:wo ds with
   | none=>rw [e1,e2] at e;simp at e
   | some b =>
    rw [e1,e2] at e;simp only [Option.some.injEq] at e;subst e;obtain ⟨mv,m1,m2⟩:=Wi t e2;unfold Vu at e1;split at e1
    ·rename_i k x;cases ek:wn k with
     | none=>rw [ek] at e1;simp at e1
     | some q =>
      rw [ek] at e1;simp only [Y2t,Option.some.injEq] at e1;subst e1;cases h with
      | tup h1 h2 =>
       cases h2 with
       | cons hk ht =>
        cases ht with
        | cons hx hn =>
         cases hn
         have:=J2 hk ek
         subst this;exact ⟨_,.cons hx m1,.cons ⟨_,rfl,h1⟩ m2⟩
    ·cases e1
theorem z66:z2b X Z n cv cl .nil:=by
 intro ks pos hl;cases ks with
 | nil =>
  refine ⟨[],z1k,λ σ H Q=>ze λ μ ρ h hr er q=>?_⟩;exact q.here hr .nil
 | cons _ _=>cases hl
theorem z2s (se:PE X (e.py n) (zy X.K cv 173 Z (e.ev cl)))(sr:z2b X Z n cv cl r):z2b X Z n cv cl (.cons e r):=by
 intro ks pos hl;have hl:ks.length=(e.py n::r.py n).length:=hl;cases ks with
 | nil=>cases hl
 | cons k ks =>
  obtain ⟨trs,p1,p2⟩:=sr ks pos (by simpa using hl);refine ⟨(tC (.str k.1),zy X.K cv 173 Z (e.ev cl))::trs,B2 Ox se p1,λ σ H Q=>ze λ μ ρ h hr er q=>?_⟩;show zy X.K cv 173 Z (e.ev cl) σ H _;refine zf hr er q λ da h1 μ1 H1 x _ e1 r1 vk qa p3=>?_;refine p2 σ H1 _ (zf r1 vk p3 λ ds h2 μ2 H2 xs _ e2 r2 er2 qb p4=>?_);exact p4.here r2 (.cons (qa.mono e2) qb)
section
variable {X:Cx}{cv:XX}
theorem UD (hc:X.calm=true):jd X (.type "dict") (λ xs H Q=>∃ x,xs=[x]/\r1 X.K cv Vv x H Q):=by
 intro pins s σ H xs us Q I r hh;obtain ⟨x,rfl,μ,h,a,Z',hr,ra,p⟩:=hh;unfold Vv at p;cases ra with
 | @loc nn b mm =>
  simp only at p;cases e:rd h nn with
  | none=>rw [e] at p;exact p.elim
  | some ds =>
   rw [e] at p;simp only at p;split at p
   ·rename_i hl;cases e2:wo ds with
    | none=>rw [e2] at p;exact p.elim
    | some kvs =>
     rw [e2] at p;have e3:h[nn]?=some (.lst ds):=by
      unfold rd at e;cases e4:h[nn]? with
      | none=>rw [e4] at e;cases e
      | some o=>cases o with
       | lst xs=>rw [e4] at e;cases e;rfl
       | dK _=>rw [e4] at e;cases e
       | dT _=>rw [e4] at e;cases e
       | obj _ _=>rw [e4] at e;cases e
     obtain ⟨vs,q1,q2⟩:=wu hr mm e3;obtain ⟨mv,m1,m2⟩:=Wi q2 e2;refine Us hc pins s σ H _ us Q I r ⟨b,vs,mv,rfl,SqL.of q1,by rw [<- q2.length];exact hl,m2,λ l hb=>?_⟩;refine p _ _ _ ((zo hb).add hb) (hr.alloc hb (hr.fresh hb) λ μ' g=>⟨_,zA,((RepKs.merge m1 .nil).mono (zo hb)).mono' g⟩) (.loc ?_);rw [<- hr.len,Y09 176,Y0x];rfl
   ·exact p.elim
 | _=>exact p.elim
theorem O0 (hb:μ1[n]?=some b)(r1:HR X.K μ1 h1 H1)(qa:Reps X.K μ1 H1 xs us)(h15:ks.length<=15)(e0:Ext X.K μ0 H0 μ1 H1)(p:PostE X.K cv 173 μ0 H0 (Vw ks n xs h1) Q Z) :
  H1 b=some (.dK [])/\∃ kvs:List (Key×V),((ks.map λ q=>V.str q.1).zip us)=kvs.map (λ kv=>(kV kv.1,kv.2))/\kvs.length<=15/\Q (.ref b) (upd H1 b (.dK (wL [] kvs))):=by
 unfold Vw at p;split at p
 ·rename_i e;obtain ⟨vs,q1,q2⟩:=r1.obj n b _ hb e;cases q2;obtain ⟨hr2,ex2⟩:=r1.chg (o':=.dK (yX [] ((ks.map λ q=>(Sum.inr q.1:Key)).zip xs))) e hb λ H' ex eH=>⟨_,eH,RepKs.merge (RepKs.zip ks (qa.mono ex)) .nil⟩;refine ⟨q1,(ks.map λ q=>(Sum.inr q.1:Key)).zip us,?_,?_,p μ1 _ _ (e0.trans ex2) hr2 (.loc hb)⟩
  ·clear p hr2 ex2 qa h15 e q1
   induction ks generalizing us with
   | nil=>rfl
   | cons k ks ih =>
    cases us with
    | nil=>rfl
    | cons u us=>simp only [Y0n,List.zip_cons_cons];rw [ih];rfl
  ·rw [List.length_zip,Y08];exact Y1n (Nat.min_le_left ..) h15
 ·exact p.elim
theorem z85 (hc:X.calm=true) (hN:X.N.Nodup) (is:List (Nat×Pos)) (p1:Pos) (h:∀ i∈(Tg.tup is p1).idx,i<X.N.length/\Loc X.env.scope (X.N.getD i "")/\(X.fn (X.N.getD i "")=true\/X.env.scope.names.lookup (X.N.getD i "")=some .local)) :
  PG X ((Tg.tup is p1).py X.N) (λ v σ H Q=>∃ μ ρ d ρ' h,HR X.K μ h H/\ER X.K μ ρ σ H/\Rep X.K μ H d v/\jq (.tup is p1) (ZX d h) ρ=some ρ'/\∀ σ',ER X.K μ ρ' σ' H->Q σ' H):=by
 refine PG.mono (z21 hc (Z0 hN is λ q hq=>h q.1 (Y0s.mpr ⟨q,hq,rfl⟩)) (wF X.N X.env is).1 (wF X.N X.env is).2) λ v σ H Q ⟨μ,ρ,d,ρ',h,hr,er,r,e,q⟩=>?_;have fin:∀ (ds:163) (vs:211),Reps X.K μ H ds vs->jq (.tup is p1) (.tup ds) ρ=some ρ'->vs.length=is.length/\gNs is vs σ H Q:=λ ds vs h2 e=>by
  unfold jq at e;simp only at e;split at e
  ·rename_i c;cases e;exact ⟨by rw [<- h2.length];exact c,Q2 is h2 c er λ σ' e1 _ _=>q σ' e1⟩
  ·cases e
 cases r with
 | tup h1 h2 =>
  obtain ⟨a,b⟩:=fin _ _ h2 e;exact ⟨_,_,rfl,.inl h1,a,b⟩
 | @loc nn b mm =>
  unfold ZX at e;simp only at e;cases e1:rd h nn with
  | none=>rw [e1] at e;simp [jq] at e
  | some ds =>
   rw [e1] at e;obtain ⟨vs,hs1,rs⟩:=hr.rd e1 mm;obtain ⟨a,b⟩:=fin _ _ rs e;exact ⟨_,_,rfl,.inr hs1,a,b⟩
 | _=>simp [jq,ZX] at e
end
end PI
namespace PI
open PySem PySem.Spec PyProof.Rows L2
end PI
namespace PI
open PySem L2 PySem.Spec
open PyProof.Rows hiding St
section
variable {X:Cx}{Z:ZK}{k:Nat}{n:Nm}{cv:XX}{cl:136}
theorem z67 (T:Nat)(h:T<5):bootBuiltins (ye T)=some (.type (Vt T))/\ye T≠"__name__"/\(ye T==("__debug__":Str))=false/\ye T∈Q0:=by
 match T,h with
 | 0,_=>exact ⟨rfl,by decide,by decide,by decide⟩
 | 1,_=>exact ⟨rfl,by decide,by decide,by decide⟩
 | 2,_=>exact ⟨rfl,by decide,by decide,by decide⟩
 | 3,_=>exact ⟨rfl,by decide,by decide,by decide⟩
 | 4,_=>exact ⟨rfl,by decide,by decide,by decide⟩
theorem getD_some {α:Type}{xs:List α}{i:Nat}{d:α}(h:i<xs.length):xs[i]?=some (xs.getD i d):=by
 rw [Y17,Y0j h];rfl
theorem yu {α:Type}{xs:List α}{i:Nat}{d:α}(h:i<xs.length):xs.getD i d∈xs:=Y1i (getD_some h)
theorem PO.mono {X:Cx}{e:Option Expr}{t t':TO}(p:PO X e t)(h:∀ σ H Q,t' σ H Q->t σ H Q):PO X e t':=λ pins s σ H Q I q=>p pins s σ H Q I (h σ H Q q)
theorem yg (o:E)(x:Str)(env:Env):attributeBase (o.py n) x env (eval (o.py n) env)=eval (o.py n) env:=by
 cases o with
 | ofL l=>cases l<;>(rfl)
 | _=>rfl
theorem VC (a : E)(pos : Pos)(env : Env) : ((backTo pos (starEach [a.py n] env)).all (λ x => !x.1)&&(backToKw pos (keywordEach [] env)).all (λ x => x.1.isSome)
      && decide (([a.py n]:List Expr).length+([]:List Keyword).length+(if ([]:List Keyword).isEmpty then 0 else 1)<30))=true:=by
  rw [zh];rfl
theorem z86 {K:Y00}{μ:XV}{H:Hp}{h:Hh}{m:M0}{d:D}{v:V}(hr:HR K μ h H)(r:Rep K μ H d v)(e:m0D m d h≠.no):tyV K "list" v H:=by
 unfold m0D at e;cases r with
 | @loc nn b mm =>
  cases e1:h[nn]? with
  | none=>simp only [e1] at e;exact absurd rfl e
  | some o =>
   cases o with
   | dK _=>simp only [e1] at e;exact absurd rfl e
   | dT _=>simp only [e1] at e;exact absurd rfl e
   | obj _ _=>simp only [e1] at e;exact absurd rfl e
   | lst ds=>obtain ⟨vs,q1,q2⟩:=wu hr mm e1;exact .inl ⟨rfl,vs,SqL.of q1⟩
 | _=>exact absurd rfl e
theorem Reps.isEmpty {K:Y00}{μ:XV}{H:Hp}{ds:163}{vs:211}(r:Reps K μ H ds vs):ds.isEmpty=vs.isEmpty:=by cases r<;>rfl
theorem BG {K:Y00}{cv:XX}{R:List Addr->Hp->D->V->Prop}{μ:XV}{H:Hp}{h:Hh}{d:D}{v:V}{r:Res D}{Q:VK}{Z:Value->Hp->Prop}(hr:HR K μ h H)(q:Rep K μ H d v)(p:PostE K cv R μ H (onL d h r) Q Z):tyV K "list" v H/\PostE K cv R μ H r Q Z:=by
 unfold onL at p;cases q with
 | @loc nn b mm =>
  cases e1:h[nn]? with
  | none=>simp only [e1] at p;exact p.elim
  | some o =>
   cases o with
   | dK _=>simp only [e1] at p;exact p.elim
   | dT _=>simp only [e1] at p;exact p.elim
   | obj _ _=>simp only [e1] at p;exact p.elim
   | lst ds=>simp only [e1] at p;obtain ⟨vs,q1,q2⟩:=wu hr mm e1;exact ⟨.inl ⟨rfl,vs,SqL.of q1⟩,p⟩
 | _=>exact p.elim
theorem yh (it:I){env:Env}:∀ x,foldedSetIterable (it.py n) env x=pure x:=by
 intro x;cases it with
 | seq e =>
  cases e with
  | ofL l=>cases l<;>(rfl)
  | _=>rfl
 | lst l=>cases l<;>(rfl)
 | enum e p0 p=>rfl
 | rng a p0 p=>rfl
 | rev e p0 p=>rfl
 | zip a b p0 p=>rfl
theorem VD {elt:E}{t:Tg}{it:I}{c:Es}{NC:XY}{cap:232}{csc:Scope}{p:Pos}(C:Kx X Z k n cv cl)(h:(L.comp elt t it c NC cap csc p).ok X.env.scope n=true) :
  (it.ok X.env.scope n=true/\t.forI it=true)/\ji X.env.scope csc X.N NC cap=true/\NC.Nodup/\NC.all Za=true/\t.ok csc NC=true/\elt.ok (Vy csc X.env.scope) ⟨NC,n.F,n.G⟩=true/\c.ok (Vy csc X.env.scope) ⟨NC,n.F,n.G⟩=true/\c.okT=true/\c.short=true:=by
 have h:(_&&_)=true:=h;simp only [Y0t,decide_eq_true_eq] at h;obtain ⟨⟨⟨⟨⟨⟨⟨⟨k1,k2⟩,k3⟩,k4⟩,k5⟩,k6⟩,k7⟩,k8⟩,k9⟩:=h;exact ⟨k1,by rw [C.nN];exact k2,k3,k4,k5,k6,k7,k8,k9⟩
theorem VE {Zc:ZK}{m:Nm}:PF X (Es.nil.py m) (zy X.K cv RB Zc (Es.nil.evC cl)):=by
 refine λ pins s σ H Q I q=>z5x pins s σ H Q I ?_;obtain ⟨μ,ρ,h,hr,er,q⟩:=q;exact q.here hr rfl
theorem VF {scope:Scope}{NC:XY}{cap:232}{t:Tg}(kd:X.env.scope.kind=.function)(cok:201)(hnd:NC.Nodup)(ht:t.ok scope NC=true){Cc:Addr}{s:170}{H:Hp}{fp:XV}{pn:132}{xe:XQ} :
  PG (zv X NC scope Cc s H fp pn xe) (t.py NC) (gB X.K t):=by
 refine z83 (X:=zv X NC scope Cc s H fp pn xe) rfl hnd t λ i hi=>?_;unfold Tg.ok at ht;have h1:=Y1l.mp ht i hi;rw [Y0t] at h1;have h2:scope.names.lookup (NC.getD i "")=some .local\/scope.names.lookup (NC.getD i "")=some .cell:=of_decide_eq_true h1.2;obtain ⟨c1,c2,c3,c4,c5,c6,c7⟩:=j9 cok;have rel:∀ x,(relabel scope X.env).names.lookup x=(scope.names.lookup x).map λ k=>if k=.free then .cell else k:=λ x=>wM (scope:=scope) kd λ y hy e=>c4 y hy e;refine ⟨of_decide_eq_true h1.1,?_,?_⟩
 ·show Loc (relabel scope X.env) _;unfold L2.Loc;rw [rel];rcases h2 with h2 | h2
  ·rw [h2];exact .inl rfl
  ·rw [h2];exact .inr rfl
 ·rcases h2 with h2 | h2
  ·refine .inr ?_;show (relabel scope X.env).names.lookup _=_;rw [rel,h2];rfl
  ·refine .inl ?_;show (scope.names.lookup _==some NameKind.cell)=true;rw [h2];rfl
theorem BH {X:Cx}{d:Addr}:jd X (.builtin "isinstance") (λ xs H Q=>∃ a C b dx vs,xs=[.ref a,.ref d]/\H a=some (.ins C dx vs)/\Cls X.K C/\IsK X.K C/\PySem.W.kitOne X.K (.ref C) (.ref d)=some b/\Q (.bl b) H):=by
 intro pins s σ H xs us Q I r h;obtain ⟨a,C,b,dx,vs,rfl,ea,cl,Z,e,q⟩:=h;obtain ⟨u,w',rfl,rx,rw'⟩:=OM r;cases (show w'=Value.ref d from rw');exact wC I rx (.ins ea cl Z.ha Z.hn Z.ht Z.hm) e λ tk=>⟨.bl b,H,I.tok _,rfl,q⟩
mutual
theorem sE:∀ (e:E) (X:Cx) (Z:ZK) (k:Nat) (n:Nm) (cv:XX) (cl:136),Kx X Z k n cv cl->e.ok X.env.scope n=true->SE X Z n cv cl e
 | .non p,X,Z,k,n,cv,cl,C,_=>⟨PE.mono z4z λ σ H Q q=>Q1 (λ _ _ _=>.non) q,λ z=>nomatch z⟩
 | .bl b p,X,Z,k,n,cv,cl,C,_=>⟨PE.mono z74 λ σ H Q q=>Q1 (λ _ _ _=>.bl b) q,λ z=>nomatch z⟩
 | .int i p,X,Z,k,n,cv,cl,C,_=>⟨PE.mono z4y λ σ H Q q=>Q1 (λ _ _ _=>.int i) q,λ z=>nomatch z⟩
 | .str x p,X,Z,k,n,cv,cl,C,_=>⟨PE.mono Ox λ σ H Q q=>Q1 (λ _ _ _=>.str x) q,λ z=>nomatch z⟩
 | .var i p,X,Z,k,n,cv,cl,C,h=>by
  have hi:i<n.N.length:=of_decide_eq_true h;have hm:=C.nm _ (yu (d:=("":Str)) hi);have hv:=hm.1;have hg:=Bt hm.2;have pe:PE X ((E.var i p).py n) (zy X.K cv 173 Z ((E.var i p).ev cl)):=by
   refine PE.mono (Ow (i:=i) (by rw [C.nN];exact getD_some hi) hv hg.1 hg.2) λ σ H Q=>ze λ μ ρ h hr er q=>?_;have q:PostE X.K cv 173 μ H (match ρ[i]? with | some (some d)=>.ok d h | _=>.no) Q (Z σ):=q
   cases e:ρ[i]? with
   | none=>rw [e] at q;exact q.elim
   | some o =>
    cases o with
    | none=>rw [e] at q;exact q.elim
    | some d =>
     rw [e] at q;obtain ⟨v,e1,r1⟩:=er.val i d e;exact ⟨v,e1,q.here hr r1⟩
  exact 131
 | .bin op a b p,X,Z,k,n,cv,cl,C,h=>by
  have h':a.ok X.env.scope n=true/\b.ok X.env.scope n=true:=by have h:(_&&_)=true:=h;simpa using h
  have sa:=sE a X Z k n cv cl C h'.1;have sb:=sE b X Z k n cv cl C h'.2;have pe:PE X ((E.bin op a b p).py n) (zy X.K cv 173 Z ((E.bin op a b p).ev cl)):=by
   refine PE.mono (z7e (z62 (cv:=cv) op) sa.pe sb.pe) λ σ H Q q=>?_;exact Bv q
  exact 131
 | .un op a p,X,Z,k,n,cv,cl,C,h=>by
  have h':a.ok X.env.scope n=true:=by have h:(_&&_)=true:=h;simp at h;exact h.1
  have sa:=sE a X Z k n cv cl C h';cases op with
  | Not =>
   refine ⟨?_,λ z=>?_⟩
   ·skip;refine PE.mono (z53 sa.pe) λ σ H Q=>ze λ μ ρ h hr er q=>?_;refine zf (m:=a.ev cl) hr er q λ d h1 μ1 H1 x _ e1 r1 vk qa p1=>?_;unfold unD at p1;cases qa with
    | bl b=>exact ⟨b,rfl,p1.here r1 (.bl _)⟩
    | _=>exact p1.elim
   ·skip;have z':a.okT=true:=by exact z
    refine PT.mono (z52 (sa.pt z')) λ σ H Q=>ze λ μ ρ h hr er q=>?_;refine ⟨μ,ρ,h,hr,er,?_⟩;have e1:(E.un .Not a p).evT cl ρ h=(a.evT cl ρ h).bind λ b h1=>.ok (!b) h1:=by
     rw [wQ,wQ,zq];show ((a.ev cl ρ h).bind λ x h1=>unD .Not x h1).bind toB=_;rw [zq]
     congr 1
     funext d h1
     unfold unD toB;cases d<;>rfl
    rw [e1] at q;cases e2:a.evT cl ρ h with
    | ok b h1 =>
     rw [e2] at q;intro μ1 H1 v x1 x2 x3;have x3':b=v:=x3;subst x3';exact q μ1 H1 (!b) x1 x2 rfl
    | exc c h1=>rw [e2] at q;exact q
    | no=>rw [e2] at q;exact q
  | Invert =>
   have pe:PE X ((E.un .Invert a p).py n) (zy X.K cv 173 Z ((E.un .Invert a p).ev cl)):=by
    refine PE.mono (OK (z3t (cv:=cv) .Invert 206) sa.pe) λ σ H Q q=>?_;exact z3s q
   exact 131
  | USub =>
   have pe:PE X ((E.un .USub a p).py n) (zy X.K cv 173 Z ((E.un .USub a p).ev cl)):=by
    refine PE.mono (OK (z3t (cv:=cv) .USub (.inr rfl)) sa.pe) λ σ H Q q=>?_;exact z3s q
   exact 131
  | UAdd =>
   have no:∀ {β:Type}{σ:St}{H:Hp}{R:List Addr->Hp->D->β->Prop}{Q:β->Hp->Prop},zy X.K cv R Z ((E.un .UAdd a p).ev cl) σ H Q->zy X.K cv 173 Z (a.ev cl) σ H (λ _ _=>False):=by
    intro β σ H R Q ⟨μ,ρ,h,hr,er,q⟩;refine zf (m:=a.ev cl) hr er q λ d h1 μ1 H1 x _ e1 r1 vk qa p1=>?_;unfold unD at p1;cases d<;>exact p1.elim
   have pe:PE X ((E.un .UAdd a p).py n) (zy X.K cv 173 Z ((E.un .UAdd a p).ev cl)):=by
    refine PE.mono (OK (r:=λ _ _ _=>False) (λ _ _ _ _ _ _ _ _ _ z=>z.elim) sa.pe) λ σ H Q q=>no q
   exact 131
 | .cmp op a b p,X,Z,k,n,cv,cl,C,h=>by
  have h':(a.ok X.env.scope n=true/\b.ok X.env.scope n=true)/\behindInMarks op (b.py n)=false:=by have h:(_&&_)=true:=h;simpa using h
  have sa:=sE a X Z k n cv cl C h'.1.1;have sb:=sE b X Z k n cv cl C h'.1.2;refine ⟨?_,λ _=>?_⟩
  ·skip;refine PE.mono (Vi (Bs (cv:=cv) C.rm.units op) sa.pe sb.pe h'.2) λ σ H Q q=>?_;exact Bv q
  ·skip;refine PT.mono (Vj (Bs (cv:=cv) C.rm.units op) sa.pe sb.pe h'.2) λ σ H Q=>ze λ μ ρ h hr er q=>?_;have q:PostE X.K cv RB μ H (((a.ev cl ρ h).bind λ x h1=>(b.ev cl ρ h1).bind λ y h2=>je op x y h2).bind toB) Q (Z σ):=q;rw [zq] at q;unfold OL;refine zf (m:=a.ev cl) hr er q λ da h1 μ1 H1 x _ e1 r1 vk qa p1=>?_;rw [zq] at p1;refine zf (m:=b.ev cl) r1 vk p1 λ db h2 μ2 H2 y _ e2 r2 er2 qb p2=>?_;refine ⟨μ2,h2,da,db,Z σ,r2,qa.mono e2,qb,?_⟩;cases e3:je op da db h2 with
   | ok d h3 =>
    rw [e3] at p2;intro μ3 H3 v x1 x2 x3;unfold Res.bind toB at p2;cases x3 with
    | bl c=>exact ⟨c,rfl,p2 μ3 H3 c x1 x2 rfl⟩
    | _=>exact p2.elim
   | exc c h3=>rw [e3] at p2;exact p2
   | no=>rw [e3] at p2;exact p2
 | .and a b r p,X,Z,k,n,cv,cl,C,h=>by
  have h':((((a.ok X.env.scope n=true/\b.ok X.env.scope n=true)/\r.ok X.env.scope n=true)/\a.okT=true)/\b.okT=true)/\r.okT=true:=by have h:(_&&_)=true:=h;simpa using h
  have sa:=sE a X Z k n cv cl C h'.1.1.1.1.1;have sb:=sE b X Z k n cv cl C h'.1.1.1.1.2;have sr:=sEs r X Z k n cv cl C h'.1.1.1.2;refine ⟨?_,λ _=>?_⟩
  ·skip;refine PE.mono (OA sa.pe (sr.an b p sb)) λ σ H Q=>ze λ μ ρ h hr er q=>?_;refine zf (m:=a.ev cl) hr er q λ d h1 μ1 H1 x _ e1 r1 vk qa p1=>?_;unfold tru at p1;cases qa with
   | bl c =>
    refine ⟨c,rfl,?_⟩;cases c with
    | true=>exact Zw 203
    | false=>exact Zv (p1.here r1 (.bl _))
   | _=>exact p1.elim
  ·skip;refine PT.mono (PW.pt (Oy (sa.pt h'.1.1.2) (sr.anT b p sb h'.1.2 h'.2))) λ σ H Q=>ze λ μ ρ h hr er q=>?_;have e0:(E.and a b r p).evT cl ρ h=(a.evT cl ρ h).bind λ c h1=>if c then (b.evT cl ρ h1).bind λ c' h2=>r.evAndT cl ρ c' h2 else .ok false h1:=by
    rw [wQ,wQ,zq];show ((a.ev cl ρ h).bind λ x h1=>tru x h1 λ c h1=>if c then (b.ev cl ρ h1).bind λ y h2=>r.evAnd cl ρ y h2 else .ok (.bl false) h1).bind toB=_;rw [zq]
    congr 1
    funext d h1
    unfold tru;cases d with
    | bl c =>
     cases c with
     | false=>rfl
     | true =>
      show ((b.ev cl ρ h1).bind λ y h2=>r.evAnd cl ρ y h2).bind toB=(b.evT cl ρ h1).bind λ c' h2=>r.evAndT cl ρ c' h2;rw [wQ,zq,zq]
      congr 1
      funext y h2
      exact Vz r ρ y h2
    | _=>rfl
   rw [e0] at q;refine zf (m:=a.evT cl) (R:=RB) hr er q λ c h1 μ1 H1 x _ e1 r1 vk qa p1=>?_;have qa':c=x:=qa;subst qa';cases c with
   | true=>exact Zw 203
   | false=>exact Zv (p1.here r1 rfl)
 | .or a b r p,X,Z,k,n,cv,cl,C,h=>by
  have h':((((a.ok X.env.scope n=true/\b.ok X.env.scope n=true)/\r.ok X.env.scope n=true)/\a.okT=true)/\b.okT=true)/\r.okT=true:=by have h:(_&&_)=true:=h;simpa using h
  have sa:=sE a X Z k n cv cl C h'.1.1.1.1.1;have sb:=sE b X Z k n cv cl C h'.1.1.1.1.2;have sr:=sEs r X Z k n cv cl C h'.1.1.1.2;refine ⟨?_,λ _=>?_⟩
  ·skip;refine PE.mono (z3l sa.pe (sr.orr b p sb)) λ σ H Q=>ze λ μ ρ h hr er q=>?_;refine zf (m:=a.ev cl) hr er q λ d h1 μ1 H1 x _ e1 r1 vk qa p1=>?_;unfold tru at p1;cases qa with
   | bl c =>
    refine ⟨c,rfl,?_⟩;cases c with
    | true=>exact Zw (p1.here r1 (.bl _))
    | false=>exact Zv 203
   | _=>exact p1.elim
  ·skip;refine PT.mono (PW.pt (z3k (sa.pt h'.1.1.2) (sr.orT b p sb h'.1.2 h'.2))) λ σ H Q=>ze λ μ ρ h hr er q=>?_;have e0:(E.or a b r p).evT cl ρ h=(a.evT cl ρ h).bind λ c h1=>if c then .ok true h1 else (b.evT cl ρ h1).bind λ c' h2=>r.evOrT cl ρ c' h2:=by
    rw [wQ,wQ,zq];show ((a.ev cl ρ h).bind λ x h1=>tru x h1 λ c h1=>if c then .ok (.bl true) h1 else (b.ev cl ρ h1).bind λ y h2=>r.evOr cl ρ y h2).bind toB=_;rw [zq]
    congr 1
    funext d h1
    unfold tru;cases d with
    | bl c =>
     cases c with
     | true=>rfl
     | false =>
      show ((b.ev cl ρ h1).bind λ y h2=>r.evOr cl ρ y h2).bind toB=(b.evT cl ρ h1).bind λ c' h2=>r.evOrT cl ρ c' h2;rw [wQ,zq,zq]
      congr 1
      funext y h2
      exact Bu r ρ y h2
    | _=>rfl
   rw [e0] at q;refine zf (m:=a.evT cl) (R:=RB) hr er q λ c h1 μ1 H1 x _ e1 r1 vk qa p1=>?_;have qa':c=x:=qa;subst qa';cases c with
   | true=>exact Zw (p1.here r1 rfl)
   | false=>exact Zv 203
 | .ite c a b p,X,Z,k,n,cv,cl,C,h=>by
  have h':((c.ok X.env.scope n=true/\a.ok X.env.scope n=true)/\b.ok X.env.scope n=true)/\c.okT=true:=by have h:(_&&_)=true:=h;simpa using h
  have sc:=sE c X Z k n cv cl C h'.1.1.1;have sa:=sE a X Z k n cv cl C h'.1.1.2;have sb:=sE b X Z k n cv cl C h'.1.2;refine ⟨?_,λ z=>nomatch z⟩;refine PE.mono (OB (sc.pt h'.2) sa.pe sb.pe) λ σ H Q=>ze λ μ ρ h hr er q=>?_;have e0:((c.ev cl ρ h).bind λ x h1=>tru x h1 λ t h1=>if t then a.ev cl ρ h1 else b.ev cl ρ h1)=(c.evT cl ρ h).bind λ t h1=>if t then a.ev cl ρ h1 else b.ev cl ρ h1:=by
   rw [wQ,zq]
   congr 1
   funext d h1
   unfold tru toB;cases d<;>rfl
  have q:PostE X.K cv 173 μ H ((c.ev cl ρ h).bind λ x h1=>tru x h1 λ t h1=>if t then a.ev cl ρ h1 else b.ev cl ρ h1) Q (Z σ):=q;rw [e0] at q;refine zf (m:=c.evT cl) (R:=RB) hr er q λ t h1 μ1 H1 x _ e1 r1 vk qa p1=>?_;have qa':t=x:=qa;subst qa';cases t with
  | true=>exact Zw 203
  | false=>exact Zv 203
 | .call f a r p0 p,X,Z,k,n,cv,cl,C,h=>by
  have h':((f<n.F.length/\gOf X.env.scope (n.F.getD f "")=true)/\a.ok X.env.scope n=true)/\r.ok X.env.scope n=true:=by have h:(_&&_)=true:=h;simp only [Y0t,decide_eq_true_eq] at h;exact ⟨⟨⟨h.1.1.1.1,h.1.1.2⟩,h.1.2⟩,h.2⟩
  have hnc:(n.G.any λ q=>decide (q.2=Cn.cls f))=false:=by have h:(_&&_)=true:=h;simp only [Y0t,Bool.not_eq_true'] at h;exact h.1.1.1.2
  have sa:=sE a X Z k n cv cl C h'.1.2;have sr:=sEs r X Z k n cv cl C h'.2;obtain ⟨hdb,fa,fd,ps,hm,_,hk,hb,hl,F⟩:=C.fn f _ (getD_some (d:=("":Str)) h'.1.1.1) hnc;have pe:PE X ((E.call f a r p0 p).py n) (zy X.K cv 173 Z ((E.call f a r p0 p).ev cl)):=by
   refine PE.mono (B4 F (C.rm.mono 117) (C.gl h'.1.1.2) hm hk hb .nil C.th (zC sa.pe sr.pa 231) hdb 231 (wR r p X.env)) λ σ H Q=>ze λ μ ρ h hr er q=>?_;unfold B3 OQ;refine zf (m:=a.ev cl) hr er q λ da h1 μ1 H1 x _ e1 r1 vk qa p1=>?_;refine zf (m:=r.ev cl) r1 vk p1 λ ds h2 μ2 H2 xs _ e2 r2 er2 qb p2=>?_;show spI X.K cv ps.length (cl f) ((x::xs)++[]) H2 Q λ C _ H'=>Z σ C H';rw [Y0a];have z:=hl (da::ds) h2 λ z=>by rw [z] at p2;exact p2
   exact ⟨by rw [Y03,<- qb.length,<- Y03 (a:=da)];exact z,μ2,h2,da::ds,r2,.cons (qa.mono e2) qb,p2⟩
  exact 131
 | .callG x kvs key a r p0 p1 p,X,Z,k,n,cv,cl,C,h=>by
  have h:(_&&_)=true:=h;simp only [Y0t,decide_eq_true_eq] at h;obtain ⟨⟨⟨⟨⟨hg,hG⟩,hk⟩,ha⟩,hr⟩,hall⟩:=h;have sk:=sE key X Z k n cv cl C hk;have sa:=sE a X Z k n cv cl C ha;have sr:=sEs r X Z k n cv cl C hr;obtain ⟨hd,v,hm,ok⟩:=C.gc x _ hG;have pe:PE X ((E.callG x kvs key a r p0 p1 p).py n) (zy X.K cv 173 Z ((E.callG x kvs key a r p0 p1 p).ev cl)):=by
   have ok':=ok;obtain ⟨d,o,es,ep,vs,rfl,_⟩:=ok';refine PE.mono (Bm (OU (Bw (kvs:=kvs)) (jz (v:=.ref d) (C.gl hg) hm rfl hd) sk.pe (J0 key)) C.th (zC sa.pe sr.pa 231) 231 (wR r p X.env)) λ σ H Q=>ze λ μ ρ h hr er q=>?_;refine zf (m:=key.ev cl) hr er q λ y h1 μ1 H1 z _ e1 r1 vk qa q1=>?_;cases qa with
   | str kk =>
    unfold fnOf at q1;simp only at q1;cases l:kvs.lookup kk with
    | none=>rw [l] at q1;exact q1.elim
    | some c =>
     rw [l] at q1;cases c with
     | tup _=>exact q1.elim
     | int _=>exact q1.elim
     | oth=>exact q1.elim
     | fn i y =>
      simp only at q1;have hm2:(kk,Cv.fn i y)∈kvs:=J1 l;have hf:=Y1l.mp hall _ hm2;simp only [Y0t,decide_eq_true_eq,Bool.not_eq_true'] at hf;obtain ⟨hdb,fa,fd,ps,hm3,hns,hkp,hb,hl,F⟩:=C.fn i _ hf.1 hf.2;refine ⟨d,kk,_,rfl,rfl,ok,l,λ b tk=>?_⟩;obtain ⟨f,rfl,tk⟩:=tk;rw [hns] at tk;cases tk;refine ⟨fa,_,fd,ps,_,rfl,F,C.rm.mono 117,hkp,hb,?_⟩;refine zf (m:=a.ev cl) r1 vk q1 λ da h2 μ2 H2 w _ e2 r2 er2 qb q2=>?_;refine zf (m:=r.ev cl) r2 er2 q2 λ ds h3 μ3 H3 ws _ e3 r3 er3 qc q3=>?_;have z:=hl (da::ds) h3 λ z=>by rw [z] at q3;exact q3
      exact ⟨by rw [Y03,<- qc.length,<- Y03 (a:=da)];exact z,μ3,h3,da::ds,r3,.cons (qb.mono e3) qc,q3⟩
   | _=>exact q1.elim
  exact 131
 | .fld a f p,X,Z,k,n,cv,cl,C,h=>by
  have h':a.ok X.env.scope n=true/\f∈j4:=by have h:(_&&_)=true:=h;simpa using h
  have sa:=sE a X Z k n cv cl C h'.1;have pe:PE X ((E.fld a f p).py n) (zy X.K cv 173 Z ((E.fld a f p).ev cl)):=by
   refine PE.mono (z5i sa.pe (Ux a f _ _)) λ σ H Q=>ze λ μ ρ h hr er q=>?_;refine zf (m:=a.ev cl) hr er q λ da h1 μ1 H1 x _ e1 r1 vk qa p1=>?_;unfold yW at p1;cases qa with
   | @loc nn b m =>
    cases e2:h1[nn]? with
    | none=>simp only [e2] at p1;exact p1.elim
    | some o =>
     have q:=r1.obj nn b o m e2;cases o with
     | lst _=>simp only [e2] at p1;exact p1.elim
     | dK _=>simp only [e2] at p1;exact p1.elim
     | dT _=>simp only [e2] at p1;exact p1.elim
     | obj y fs =>
      simp only [e2] at p1;obtain ⟨Cc,dx,vs,q1,q2,q3⟩:=q;cases e3:fs.lookup f with
      | none=>rw [e3] at p1;exact p1.elim
      | some d =>
       rw [e3] at p1;obtain ⟨v,e4,e5⟩:=q3.get e3;exact ⟨b,Cc,dx,vs,v,rfl,q1,q2.cl,q2.na f h'.2,e4,p1.here r1 e5⟩
   | _=>exact p1.elim
  exact 131
 | .mk i x a r p0 p,X,Z,k,n,cv,cl,C,h=>by
  have h':((gOf X.env.scope x=true/\(x,Cn.cls i)∈n.G)/\a.ok X.env.scope n=true)/\r.ok X.env.scope n=true:=by have h:(_&&_)=true:=h;simpa using h
  have sa:=sE a X Z k n cv cl C h'.1.2;have sr:=sEs r X Z k n cv cl C h'.2;obtain ⟨hdb,Ca,f,fd,ps,hm,M,CN,hb,hl,F⟩:=C.mc x i h'.1.1.2;have pe:PE X ((E.mk i x a r p0 p).py n) (zy X.K cv 173 Z ((E.mk i x a r p0 p).ev cl)):=by
   refine PE.mono (Bl M F C.rm (C.gl h'.1.1.1) hm hb C.th (zC sa.pe sr.pa 231) hdb 231 (wR r p X.env)) λ σ H Q=>ze λ μ ρ h hr er q=>?_;unfold Bj OQ;refine zf (m:=a.ev cl) hr er q λ da h1 μ1 H1 y _ e1 r1 vk qa p1=>?_;refine zf (m:=r.ev cl) r1 vk p1 λ ds h2 μ2 H2 ys _ e2 r2 er2 qb p2=>?_;intro b dx hb1 hb2 ne;have e3:Ext X.K μ2 H2 μ2 (upd H2 dx (.own b)):=zo hb2;have hb3:upd H2 dx (.own b) b=none:=by rw [zp (Ne.symm ne)];exact hb1
   have r3:HR X.K μ2 h2 (upd H2 dx (.own b)):=r2.tup hb2;have nb:b∉μ2:=r3.fresh hb3;have r4:=r3.alloc (o:=.obj x []) (u:=.ins Ca dx []) hb3 nb λ μ' _=>⟨Ca,dx,[],zA,CN,.nil⟩;have e4:Ext X.K μ2 H2 (μ2++[b]) (upd (upd H2 dx (.own b)) b (.ins Ca dx [])):=e3.trans ((zo hb3).add hb3);have lb:(μ2++[b])[h2.length]?=some b:=by rw [<- r2.len];simp
   have ne0:cl i (.loc h2.length::da::ds) (h2++[.obj x []])≠.no:=λ z=>by rw [z] at p2;exact p2
   have z:=hl _ _ ne0;refine ⟨by rw [Y03,Y03,<- qb.length,<- Y03 (a:=da),<- Y03 (a:=D.loc h2.length)];exact z,μ2++[b],h2++[.obj x []],.loc h2.length::da::ds,r4,.cons (.loc lb) (.cons ((qa.mono e2).mono e4) (qb.mono e4)),?_⟩;cases ec:cl i (.loc h2.length::da::ds) (h2++[.obj x []]) with
   | no=>exact absurd ec ne0
   | exc c h3 =>
    rw [ec] at p2;exact p2
   | ok d h3 =>
    rw [ec] at p2;cases d with
    | non =>
     intro μ3 H3 v e5 r5 q5;cases q5;exact ⟨rfl,p2 μ3 H3 (.ref b) (e4.trans e5) r5 (.loc (e5.loc _ _ lb))⟩
    | _=>exact p2.elim
  exact 131
 | .len a p0 p,X,Z,k,n,cv,cl,C,h=>by
  have h':gOf X.env.scope "len"=true/\a.ok X.env.scope n=true:=by have h:(_&&_)=true:=h;simpa using h
  have sa:=sE a X Z k n cv cl C h'.2;have pe:PE X ((E.len a p0 p).py n) (zy X.K cv 173 Z ((E.len a p0 p).ev cl)):=by
   refine PE.mono (wD (GT (cv:=cv)) (C.gl h'.1) (C.bm _ 123) PySem.boot_len (zC sa.pe zW 231) 123 123 231 rfl) λ σ H Q=>ze λ μ ρ h hr er q=>?_;refine zf (m:=a.ev cl) hr er q λ da h1 μ1 H1 x _ e1 r1 vk qa p1=>?_;exact ⟨x,rfl,μ1,h1,da,_,r1,qa,p1⟩
  exact 131
 | .isi T a p0 p1 p,X,Z,k,n,cv,cl,C,h=>by
  have h':((gOf X.env.scope "isinstance"=true/\gOf X.env.scope (ye T)=true)/\T<5)/\a.ok X.env.scope n=true:=by have h:(_&&_)=true:=h;simpa using h
  have sa:=sE a X Z k n cv cl C h'.2;obtain ⟨b1,b2,b3,b4⟩:=z67 T h'.1.2;have pe:PE X ((E.isi T a p0 p1 p).py n) (zy X.K cv 173 Z ((E.isi T a p0 p1 p).ev cl)):=by
   refine PE.mono (wD (Bx (cv:=cv) T h'.1.2) (C.gl h'.1.1.1) (C.bm _ 123) PyProof.Rows.boot_isinstance (zC sa.pe (zC (z0z (v:=.ty (Vt T)) (C.gl h'.1.1.2) (C.bm _ b4) b1 rfl b2 b3) zW) 231) 123 123 231 rfl) λ σ H Q=>ze λ μ ρ h hr er q=>?_;refine zf (m:=a.ev cl) hr er q λ da h1 μ1 H1 x _ e1 r1 vk qa p1=>?_;exact ⟨x,rfl,μ1,h1,da,_,r1,qa,p1⟩
  exact 131
 | .isC x ys a p0 p1 p,X,Z,k,n,cv,cl,C,h=>by
  have h':((gOf X.env.scope "isinstance"=true/\gOf X.env.scope x=true)/\(x,Cn.isc x ys)∈n.G)/\a.ok X.env.scope n=true:=by have h:(_&&_)=true:=h;simpa using h
  have sa:=sE a X Z k n cv cl C h'.2;obtain ⟨hd,v,hm,Dd,rfl,ok⟩:=C.gc x _ h'.1.2;have pe:PE X ((E.isC x ys a p0 p1 p).py n) (zy X.K cv 173 Z ((E.isC x ys a p0 p1 p).ev cl)):=by
   refine PE.mono (wD (BH (d:=Dd)) (C.gl h'.1.1.1) (C.bm _ 123) PyProof.Rows.boot_isinstance (zC sa.pe (zC (jz (v:=.ref Dd) (C.gl h'.1.1.2) hm rfl hd) zW) 231) 123 123 231 rfl) λ σ H Q=>ze λ μ ρ h hr er q=>?_;refine zf (m:=a.ev cl) hr er q λ da h1 μ1 H1 y _ e1 r1 vk qa p1=>?_;unfold JG at p1;cases qa with
   | @loc nn b m =>
    cases e2:h1[nn]? with
    | none=>simp only [e2] at p1;exact p1.elim
    | some o =>
     have q:=r1.obj nn b o m e2;cases o with
     | lst _=>simp only [e2] at p1;exact p1.elim
     | dK _=>simp only [e2] at p1;exact p1.elim
     | dT _=>simp only [e2] at p1;exact p1.elim
     | obj y fs =>
      simp only [e2] at p1;obtain ⟨Cc,dx,vs,q1,q2,q3⟩:=q;by_cases hy:y∈ys
      ·rw [if_pos hy] at p1;obtain ⟨C',g1,g2,g3⟩:=ok y hy;have e4:=q2.nm.symm.trans g1;cases e4;exact ⟨b,Cc,_,dx,vs,rfl,q1,q2.cl,g2,g3,p1.here r1 (.bl _)⟩
      ·rw [if_neg hy] at p1;exact p1.elim
   | _=>exact p1.elim
  exact 131
 | .sub a i p,X,Z,k,n,cv,cl,C,h=>by
  have h':a.ok X.env.scope n=true/\i.ok X.env.scope n=true:=by have h:(_&&_)=true:=h;simpa using h
  have sa:=sE a X Z k n cv cl C h'.1;have sb:=sE i X Z k n cv cl C h'.2;have pe:PE X ((E.sub a i p).py n) (zy X.K cv 173 Z ((E.sub a i p).ev cl)):=by
   refine PE.mono (OU (z2d (cv:=cv) (OY C.rm)) sa.pe sb.pe (J0 i)) λ σ H Q q=>?_;exact Bv q
  exact 131
 | .tup es p,X,Z,k,n,cv,cl,C,h=>by
  have h':es.ok X.env.scope n=true:=by exact h
  have sr:=sEs es X Z k n cv cl C h';have pe:PE X ((E.tup es p).py n) (zy X.K cv 173 Z ((E.tup es p).ev cl)):=by
   refine PE.mono (OR sr.pa) λ σ H Q=>ze λ μ ρ h hr er q=>?_;refine zf (m:=es.ev cl) hr er q λ ds h1 μ1 H1 xs _ e1 r1 vk qa p1=>?_;split at p1
   ·rename_i c;refine ⟨by rw [<- qa.length];exact Y1z (yQ c),λ a ha=>?_⟩;exact p1 μ1 _ (.ref a) (zo ha) (r1.tup ha) (.tup (SqT.of zA) (qa.mono (zo ha)))
   ·exact p1.elim
  exact 131
 | .ofL l,X,Z,k,n,cv,cl,C,h=>by
  have sl:=sL l X Z k n cv cl C (by exact h);refine ⟨?_,λ z=>nomatch z⟩;refine PE.mono sl λ σ H Q=>ze λ μ ρ h hr er q=>?_;refine jj (m:=l.ev cl) Ext.refl hr er q (λ _ _ z=>z) λ ds h1 μ1 H1 x _ e1 r1 vk qa p1=>?_;obtain ⟨p,vs,rfl,g1,g2,g3,g4⟩:=qa;refine p1 (μ1++[p]) H1 _ (e1.add g4) (r1.add g3 λ μ' gr=>⟨vs,g1,g2.mono' gr⟩) (.loc ?_);rw [<- r1.len,Y09 176,Y0x];rfl
 | .tupE e p0 p,X,Z,k,n,cv,cl,C,h=>by
  have h':gOf X.env.scope "tuple"=true/\e.ok X.env.scope n=true:=by have h:(_&&_)=true:=h;simpa using h
  have se:=sE e X Z k n cv cl C h'.2;have pe:PE X ((E.tupE e p0 p).py n) (zy X.K cv 173 Z ((E.tupE e p0 p).ev cl)):=by
   refine PE.mono (qK (GV (cv:=cv)) (C.gl h'.1) (C.bm _ 123) PyProof.Rows.boot_tuple (zC se.pe zW (zh e _ _)) 123 123 (zh e _ _) rfl) λ σ H Q=>ze λ μ ρ h hr er q=>?_;refine zf (m:=e.ev cl) hr er q λ da h1 μ1 H1 x _ e1 r1 vk qa p1=>?_;exact ⟨x,rfl,μ1,h1,da,_,r1,qa,p1⟩
  exact 131
 | .listE e p0 p,X,Z,k,n,cv,cl,C,h=>by
  have h':gOf X.env.scope "list"=true/\e.ok X.env.scope n=true:=by have h:(_&&_)=true:=h;simpa using h
  have se:=sE e X Z k n cv cl C h'.2;have pe:PE X ((E.listE e p0 p).py n) (zy X.K cv 173 Z ((E.listE e p0 p).ev cl)):=by
   refine PE.mono (qK (UB (cv:=cv)) (C.gl h'.1) (C.bm _ 123) PyProof.Rows.boot_list (zC se.pe zW (zh e _ _)) 123 123 (zh e _ _) rfl) λ σ H Q=>ze λ μ ρ h hr er q=>?_;refine zf (m:=e.ev cl) hr er q λ da h1 μ1 H1 x _ e1 r1 vk qa p1=>?_;exact ⟨x,rfl,μ1,h1,da,_,r1,qa,p1⟩
  exact 131
 | .dicP e p0 p,X,Z,k,n,cv,cl,C,h=>by
  have h':gOf X.env.scope "dict"=true/\e.ok X.env.scope n=true:=by have h:(_&&_)=true:=h;simpa using h
  have se:=sE e X Z k n cv cl C h'.2;have pe:PE X ((E.dicP e p0 p).py n) (zy X.K cv 173 Z ((E.dicP e p0 p).ev cl)):=by
   refine PE.mono (qK (UD (cv:=cv) C.cm) (C.gl h'.1) (C.bm _ 123) rfl (zC se.pe zW (zh e _ _)) 123 123 (zh e _ _) rfl) λ σ H Q=>ze λ μ ρ h hr er q=>?_;refine zf (m:=e.ev cl) hr er q λ da h1 μ1 H1 x _ e1 r1 vk qa p1=>?_;exact ⟨x,rfl,μ1,h1,da,_,r1,qa,p1⟩
  exact 131
 | .dispD ks vs p,X,Z,k,n,cv,cl,C,h=>by
  have h':((vs.ok X.env.scope n=true/\ks.length=(vs.py n).length)/\ks.length<=15)/\0<ks.length:=by have h:(_&&_)=true:=h;simpa using h
  have sv:=sEs vs X Z k n cv cl C h'.1.1.1;obtain ⟨trs,pp,go⟩:=sv.ps ks p h'.1.1.2;refine ⟨?_,λ z=>nomatch z⟩;refine PE.mono (z1l pp 133 (by rw [Y08];exact h'.1.1.2) (λ z=>by have:=congrArg List.length z;rw [Y08] at this;have:=h'.2;simp_all) (by rw [Y08];exact h'.1.2)) λ σ H Q=>ze λ μ ρ h hr er q=>?_;intro b hb;have hr':HR X.K (μ++[b]) (h++[.dK []]) (upd H b (.dK [])):=hr.alloc hb (hr.fresh hb) λ μ' g=>⟨_,zA,.nil⟩;have e0:Ext X.K μ H (μ++[b]) (upd H b (.dK [])):=(zo hb).add hb;refine go σ _ _ (jj (m:=vs.ev cl) e0 hr' (er.mono e0) q (λ _ _ z=>z) λ ds h1 μ1 H1 us _ e1 r1 vk qa p1=>?_);refine O0 (e1.loc h.length b ?_) r1 qa h'.1.2 (e0.trans e1) p1;rw [<- hr.len,Y09 176,Y0x];rfl
 | .cut a lo hi p2 p,X,Z,k,n,cv,cl,C,h=>by
  have h':(a.ok X.env.scope n=true/\lo.ok X.env.scope n=true)/\hi.ok X.env.scope n=true:=by have h:(_&&_)=true:=h;simpa using h
  have sa:=sE a X Z k n cv cl C h'.1.1;have sl:=sEo lo X Z k n cv cl C h'.1.2;have sh:=sEo hi X Z k n cv cl C h'.2;have pe:PE X ((E.cut a lo hi p2 p).py n) (zy X.K cv 173 Z ((E.cut a lo hi p2 p).ev cl)):=by
   refine PE.mono (OT (z2i (cv:=cv)) sa.pe sl sh) λ σ H Q=>ze λ μ ρ h hr er q=>?_;refine zf (m:=a.ev cl) hr er q λ da h1 μ1 H1 x _ e1 r1 vk qa p1=>?_;refine zf (m:=lo.ev cl) (R:=λ _ _ a b=>a=b) r1 vk p1 λ l h2 μ2 H2 l' _ e2 r2 er2 ql p2=>?_;have ql':l=l':=ql;subst ql';refine zf (m:=hi.ev cl) (R:=λ _ _ a b=>a=b) r2 er2 p2 λ u h3 μ3 H3 u' _ e3 r3 er3 qu p3=>?_;have qu':u=u':=qu;subst qu';exact ⟨μ3,h3,da,_,r3,(qa.mono e2).mono e3,p3⟩
  exact 131
 | .dic p,X,Z,k,n,cv,cl,C,h=>by
  refine ⟨?_,λ z=>nomatch z⟩;refine PE.mono B1 λ σ H Q=>ze λ μ ρ h hr er q=>?_;intro b hb;refine q _ _ _ ((zo hb).add hb) (hr.alloc hb (hr.fresh hb) λ μ' g=>⟨_,zA,.nil⟩) (.loc ?_);rw [<- hr.len,Y09 176,Y0x];rfl
 | .m0 m o p1 p,X,Z,k,n,cv,cl,C,h=>by
  have h':o.ok X.env.scope n=true/\p1.endLine=p.line:=by have h:(_&&_)=true:=h;simpa using h
  have so:=sE o X Z k n cv cl C h'.1;have hl:(p1.endLine==p.line)=true:=beq_iff_eq.mpr h'.2;have pe:PE X ((E.m0 m o p1 p).py n) (zy X.K cv 173 Z ((E.m0 m o p1 p).ev cl)):=by
   cases m with
   | pop =>
    refine PE.mono (z5q Y31 PySem.F.slot_list_pop PySem.F.type_list_pop (z2e (cv:=cv)) so.pe (yg o _ _) hl) λ σ H Q=>ze λ μ ρ h hr er q=>?_;refine zf (m:=o.ev cl) hr er q λ da h1 μ1 H1 x _ e1 r1 vk qa p1=>?_;exact ⟨z86 r1 qa λ z=>by rw [z] at p1;exact p1,rfl,μ1,h1,da,_,r1,qa,p1⟩
  exact 131
 | .m1 m o a p1 p,X,Z,k,n,cv,cl,C,h=>by
  have h':(o.ok X.env.scope n=true/\a.ok X.env.scope n=true)/\p1.endLine=p.line:=by have h:(_&&_)=true:=h;simpa using h
  have so:=sE o X Z k n cv cl C h'.1.1;have sa:=sE a X Z k n cv cl C h'.1.2;have hl:(p1.endLine==p.line)=true:=beq_iff_eq.mpr h'.2;have pe:PE X ((E.m1 m o a p1 p).py n) (zy X.K cv 173 Z ((E.m1 m o a p1 p).ev cl)):=by
   cases m with
   | append =>
    refine PE.mono (z3o Y31 PySem.F.slot_list_append PySem.F.type_list_append (Uy (cv:=cv)) so.pe (zC sa.pe zW 231) (yg o _ _) (VC a _ _) hl 231 rfl) λ σ H Q=>ze λ μ ρ h hr er q=>?_;refine zf (m:=o.ev cl) hr er q λ da h1 μ1 H1 x _ e1 r1 vk qa p1=>?_;obtain ⟨ty,p1⟩:=BG r1 qa p1;refine ⟨ty,?_⟩;refine zf (m:=a.ev cl) r1 vk p1 λ db h2 μ2 H2 y _ e2 r2 er2 qb p2=>?_;exact ⟨y,rfl,μ2,h2,da,db,_,r2,qa.mono e2,qb,p2⟩
   | extend =>
    refine PE.mono (z3o Y31 PySem.F.slot_list_extend PySem.F.type_list_extend (UA (cv:=cv)) so.pe (zC sa.pe zW 231) (yg o _ _) (VC a _ _) hl 231 rfl) λ σ H Q=>ze λ μ ρ h hr er q=>?_;refine zf (m:=o.ev cl) hr er q λ da h1 μ1 H1 x _ e1 r1 vk qa p1=>?_;obtain ⟨ty,p1⟩:=BG r1 qa p1;refine ⟨ty,?_⟩;refine zf (m:=a.ev cl) r1 vk p1 λ db h2 μ2 H2 y _ e2 r2 er2 qb p2=>?_;exact ⟨y,rfl,μ2,h2,da,db,_,r2,qa.mono e2,qb,p2⟩
  exact 131
 | .min2 a b p0 p,X,Z,k,n,cv,cl,C,h=>by
  have h':(gOf X.env.scope "min"=true/\a.ok X.env.scope n=true)/\b.ok X.env.scope n=true:=by have h:(_&&_)=true:=h;simpa using h
  have sa:=sE a X Z k n cv cl C h'.1.2;have sb:=sE b X Z k n cv cl C h'.2;have pe:PE X ((E.min2 a b p0 p).py n) (zy X.K cv 173 Z ((E.min2 a b p0 p).ev cl)):=by
   refine PE.mono (wD (GW (cv:=cv) C.cm) (C.gl h'.1.1) (C.bm _ 123) PyProof.Rows.boot_min (zC sa.pe (zC sb.pe zW (zh b _ _)) 231) 123 123 231 (by rw [zh];rfl)) λ σ H Q=>ze λ μ ρ h hr er q=>?_;refine zf (m:=a.ev cl) hr er q λ da h1 μ1 H1 x _ e1 r1 vk qa p1=>?_;refine zf (m:=b.ev cl) r1 vk p1 λ db h2 μ2 H2 y _ e2 r2 er2 qb p2=>?_;exact ⟨x,y,rfl,μ2,h2,da,db,_,r2,qa.mono e2,qb,p2⟩
  exact 131
 | .gcon x c p,X,Z,k,n,cv,cl,C,h=>by
  have h':gOf X.env.scope x=true/\(x,c)∈n.G:=by have h:(_&&_)=true:=h;simpa using h
  obtain ⟨hd,v,hm,ok⟩:=C.gc x c h'.2;have pe:PE X ((E.gcon x c p).py n) (zy X.K cv 173 Z ((E.gcon x c p).ev cl)):=by
   cases c with
   | int i =>
    obtain ⟨t,rfl⟩:=ok;refine PE.mono (jz (v:=.int i) (C.gl h'.1) hm ⟨t,rfl⟩ hd) λ σ H Q=>ze λ μ ρ h hr er q=>?_;exact q.here hr 222
   | str z =>
    obtain ⟨t,rfl⟩:=ok;refine PE.mono (jz (v:=.str z) (C.gl h'.1) hm ⟨t,rfl⟩ hd) λ σ H Q=>ze λ μ ρ h hr er q=>?_;exact q.here hr (.str z)
   | tup xs =>
    obtain ⟨a,rfl,tk⟩:=ok;refine PE.mono (jz (v:=.ref a) (C.gl h'.1) hm rfl hd) λ σ H Q=>ze λ μ ρ h hr er q=>?_;exact q.here hr tk.rep
   | dic kvs =>
    obtain ⟨a,o,es,ep,vs,rfl,_⟩:=ok;refine PE.mono (jz (v:=.ref a) (C.gl h'.1) hm rfl hd) λ σ H Q=>ze λ μ ρ h hr er q=>?_;exact q.elim
   | cls i =>
    obtain ⟨a,rfl⟩:=ok;refine PE.mono (jz (v:=.ref a) (C.gl h'.1) hm rfl hd) λ σ H Q=>ze λ μ ρ h hr er q=>?_;exact q.elim
   | isc x' ys =>
    obtain ⟨a,rfl,_⟩:=ok;refine PE.mono (jz (v:=.ref a) (C.gl h'.1) hm rfl hd) λ σ H Q=>ze λ μ ρ h hr er q=>?_;exact q.elim
   | exc c u =>
    obtain ⟨a,_,_,_,_,rfl,_⟩:=ok;refine PE.mono (jz (v:=.ref a) (C.gl h'.1) hm rfl hd) λ σ H Q=>ze λ μ ρ h hr er q=>?_;exact q.elim
  exact ⟨pe,λ z=>by cases z⟩
 | .gsub x kvs i p0 p,X,Z,k,n,cv,cl,C,h=>by
  have h':(gOf X.env.scope x=true/\(x,Cn.dic kvs)∈n.G)/\i.ok X.env.scope n=true:=by have h:(_&&_)=true:=h;simpa using h
  obtain ⟨hd,v,hm,ok⟩:=C.gc x _ h'.1.2;have si:=sE i X Z k n cv cl C h'.2;have pe:PE X ((E.gsub x kvs i p0 p).py n) (zy X.K cv 173 Z ((E.gsub x kvs i p0 p).ev cl)):=by
   have ok':=ok;obtain ⟨a,o,es,ep,vs,rfl,_⟩:=ok';refine PE.mono (OU (Bw (kvs:=kvs)) (jz (v:=.ref a) (C.gl h'.1.1) hm rfl hd) si.pe (J0 i)) λ σ H Q=>ze λ μ ρ h hr er q=>?_;refine zf (m:=i.ev cl) hr er q λ d h1 μ1 H1 y _ e1 r1 vk qa p1=>?_;unfold z7x at p1;cases qa with
   | str kk =>
    simp only at p1;split at p1
    ·rename_i xs l;split at p1
     ·exact p1.elim
     ·rename_i nf;exact ⟨a,kk,xs,rfl,rfl,ok,l,λ b tk=>p1.here r1 (tk.rep ((Bool.not_eq_true _).mp nf))⟩
    ·exact p1.elim
   | _=>exact p1.elim
  exact 131
 | .c1 f a p0 p,X,Z,k,n,cv,cl,C,h=>by
  have h':gOf X.env.scope f.name=true/\a.ok X.env.scope n=true:=by have h:(_&&_)=true:=h;simpa using h
  have sa:=sE a X Z k n cv cl C h'.2;have fin:∀ {σ H Q},zy X.K cv 173 Z ((E.c1 f a p0 p).ev cl) σ H Q->zy X.K cv 173 Z (a.ev cl) σ H λ x H1=>∃ y,[x]=[y]/\r1 X.K cv (c1D f) y H1 Q:=λ {σ H Q} ⟨μ,ρ,h,hr,er,q⟩=>by
   refine zf (m:=a.ev cl) hr er q λ da h1 μ1 H1 x _ e1 r1 vk qa p1=>?_;exact ⟨x,rfl,μ1,h1,da,_,r1,qa,p1⟩
  have pe:PE X ((E.c1 f a p0 p).py n) (zy X.K cv 173 Z ((E.c1 f a p0 p).ev cl)):=by
   cases f with
   | int=>exact PE.mono (qK (GX (cv:=cv)) (C.gl h'.1) (C.bm _ 123) PyProof.Rows.boot_int (zC sa.pe zW 231) 123 123 231 rfl) λ σ H Q q=>fin q
   | any=>exact PE.mono (wD (GZ (cv:=cv) C.cm) (C.gl h'.1) (C.bm _ 123) PyProof.Rows.boot_any (zC sa.pe zW 231) 123 123 231 rfl) λ σ H Q q=>fin q
   | abs=>exact PE.mono (wD (GY (cv:=cv)) (C.gl h'.1) (C.bm _ 123) PyProof.Rows.boot_abs (zC sa.pe zW 231) 123 123 231 rfl) λ σ H Q q=>fin q
  exact 131
 | .listR e p0 p1 p2 p,X,Z,k,n,cv,cl,C,h=>by
  have h':(gOf X.env.scope "list"=true/\gOf X.env.scope "reversed"=true)/\e.ok X.env.scope n=true:=by have h:(_&&_)=true:=h;simpa using h
  have se:=sE e X Z k n cv cl C h'.2;have pe:PE X ((E.listR e p0 p1 p2 p).py n) (zy X.K cv 173 Z ((E.listR e p0 p1 p2 p).ev cl)):=by
   refine PE.mono (Uk C.cm (C.gl h'.1.2) (C.bm _ 123) (C.gl h'.1.1) (C.bm _ 123) (zC se.pe zW (zh e _ _)) (zh e _ _)) λ σ H Q=>ze λ μ ρ h hr er q=>?_;refine zf (m:=e.ev cl) hr er q λ d h1 μ1 H1 x _ e1 r1 vk qa p1=>?_;unfold lrD at p1;cases qa with
   | @fl ds vs a f r=>exact ⟨a,vs,rfl,f.sq,yt r1 r.reverse p1⟩
   | @loc nn b m =>
    cases e2:PI.rd h1 nn with
    | none=>simp only [e2] at p1;exact p1.elim
    | some ds =>
     simp only [e2] at p1;obtain ⟨vs,q1,q2⟩:=jO r1 m e2;exact ⟨b,vs,rfl,SqL.of q1,yt r1 q2.reverse p1⟩
   | _=>exact p1.elim
  exact 131
 | .cmpN neg a p1 p,X,Z,k,n,cv,cl,C,h=>by
  have h':a.ok X.env.scope n=true:=by exact h
  have sa:=sE a X Z k n cv cl C h';have hu:X.A.units<cLine:=by have:=C.rm.units;omega
  have hop:OpR X (compareOp (if neg then .NotEq else .Eq)) (z1p X.K neg):=by cases neg with | true=>exact B9 hu | false=>exact B8 hu
  have hb:behindInMarks (if neg then .NotEq else .Eq) (.List [] p1)=false:=by cases neg<;>rfl
  have fin:∀ {μ1:XV}{h1:Hh}{H1:Hp}{x:V}{da:D}{Q:VK}{Z1:Value->Hp->Prop},HR X.K μ1 h1 H1->Rep X.K μ1 H1 da x->PostE X.K cv 173 μ1 H1 (WV neg da h1) Q Z1->∀ b,H1 b=none->z1p X.K neg x (.ref b) (upd H1 b (.lst [])) Q:=λ {μ1 h1 H1 x da Q Z1} r1 qa p1 b hb'=>by
   unfold WV at p1;have q2:=SqL.of (K:=X.K) (zA (H:=H1) (a:=b) (o:=.lst []));cases qa with
   | @fl ds vs a f r =>
    refine ⟨a,b,vs,rfl,rfl,((zo (μ:=μ1) hb').fz _ _ f).sq,q2,?_⟩;have z:=p1 μ1 (upd H1 b (.lst [])) _ (zo hb') (r1.tup hb') (.bl _);rw [r.isEmpty] at z;exact z
   | @loc nn a m =>
    cases e2:PI.rd h1 nn with
    | none=>simp only [e2] at p1;exact p1.elim
    | some ds =>
     simp only [e2] at p1;obtain ⟨vs,q1,r⟩:=jO r1 m e2;refine ⟨a,b,vs,rfl,rfl,SqL.of (by rw [zp (by intro z;rw [z,hb'] at q1;cases q1)];exact q1),q2,?_⟩;have z:=p1 μ1 (upd H1 b (.lst [])) _ (zo hb') (r1.tup hb') (.bl _);rw [r.isEmpty] at z;exact z
   | _=>exact p1.elim
  have pe:PE X ((E.cmpN neg a p1 p).py n) (zy X.K cv 173 Z ((E.cmpN neg a p1 p).ev cl)):=by
   refine PE.mono (Vi hop sa.pe (Ua zW) hb) λ σ H Q=>ze λ μ ρ h hr er q=>?_;refine zf (m:=a.ev cl) hr er q λ da h1 μ1 H1 x _ e1 r1 vk qa p1=>?_;exact ⟨Y1w _,λ b hb'=>fin r1 qa p1 b hb'⟩
  refine ⟨pe,λ _=>?_⟩;refine PT.mono (Vj hop sa.pe (Ua zW) hb) λ σ H Q=>ze λ μ ρ h hr er q=>?_;have q:PostE X.K cv RB μ H (((a.ev cl ρ h).bind λ x h1=>WV neg x h1).bind toB) Q (Z σ):=q;rw [zq] at q;unfold OL;refine zf (m:=a.ev cl) hr er q λ da h1 μ1 H1 x _ e1 r1 vk qa p1=>?_;refine ⟨Y1w _,λ b hb'=>fin (Z1:=Z σ) r1 qa ?_ b hb'⟩;cases e3:WV neg da h1 with
  | ok d h3 =>
   rw [e3] at p1;intro μ3 H3 v x1 x2 x3;unfold Res.bind toB at p1;cases x3 with
   | bl c=>exact ⟨c,rfl,p1 μ3 H3 c x1 x2 rfl⟩
   | _=>exact p1.elim
  | exc c h3=>rw [e3] at p1;exact p1
  | no=>rw [e3] at p1;exact p1
theorem sEo:∀ (e:Eo) (X:Cx) (Z:ZK) (k:Nat) (n:Nm) (cv:XX) (cl:136),Kx X Z k n cv cl->e.ok X.env.scope n=true->PO X (e.py n) (zy X.K cv (λ _ _ a b=>a=b) Z (e.ev cl))
 | .none,X,Z,k,n,cv,cl,C,h=>by
  refine PO.mono z1d λ σ H Q=>ze λ μ ρ h hr er q=>?_;exact q.here hr rfl
 | .some e,X,Z,k,n,cv,cl,C,h=>by
  have se:=sE e X Z k n cv cl C (by exact h);refine PO.mono (z1e se.pe) λ σ H Q=>ze λ μ ρ h hr er q=>?_;refine zf (m:=e.ev cl) hr er q λ d h1 μ1 H1 x _ e1 r1 vk qa p1=>?_;unfold z7w at p1;cases qa with
  | int i=>exact ⟨i,rfl,p1.here r1 rfl⟩
  | _=>exact p1.elim
theorem sL:∀ (l:L) (X:Cx) (Z:ZK) (k:Nat) (n:Nm) (cv:XX) (cl:136),Kx X Z k n cv cl->l.ok X.env.scope n=true->PE X (l.py n) (BB X.K cv Z (l.ev cl))
 | .disp es p,X,Z,k,n,cv,cl,C,h=>by
  have sr:=sEs es X Z k n cv cl C (by exact h);refine PE.mono (Ua sr.pa) λ σ H Q=>ze λ μ ρ h hr er q=>?_;refine jj (m:=es.ev cl) Ext.refl hr er q (λ _ _ z=>z) λ ds h1 μ1 H1 xs _ e1 r1 vk qa p1=>?_;split at p1
  ·rename_i c;refine ⟨by rw [<- qa.length];exact Y1z (yQ c),λ a ha=>?_⟩;have na:=r1.fresh ha;have n0:H a=none:=by
    cases e:H a with
    | none=>rfl
    | some o=>rw [e1.oth a o e λ z=>na (e1.sub z)] at ha;cases ha
   exact p1 μ1 _ _ (e1.trans (zo ha)) (r1.tup ha) ⟨a,xs,rfl,zA,qa.mono (zo ha),na,n0⟩
  ·exact p1.elim
 | .comp elt t it c NC cap csc p,X,Z,k,n,cv,cl,C,h=>by
  obtain ⟨k1,k2',k3,k4,k5,k6,k7,k8,k9⟩:=VD C h;have hit:=sI it X Z k n cv cl C k1.1 t k1.2 NC;exact BF (X:=X) (Z:=Z) (cv:=cv) (mi:=it.ev cl) (mc:=c.evC cl) (me:=elt.ev cl) (pos:=p) (elt:=elt.py ⟨NC,n.F,n.G⟩) (iter:=it.py n) (ifs:=c.py ⟨NC,n.F,n.G⟩) C.cm C.th hit k2' k5
   (λ Cc s H fp pn xe=>VF C.kd k2' k3 k5)
   (λ Cc s H fp pn xe Zc th=>by
    have Cc':=C.comp k2' k3 k4 th;cases c with
    | nil=>exact VE
    | cons e r =>
     cases r with
     | cons _ _=>cases k9
     | nil =>
      have se:=sE e _ Zc k ⟨NC,n.F,n.G⟩ cv cl Cc' (by have k7:(_&&_)=true:=k7;simp at k7;exact k7.1);have ht:=se.pt (by have k8:(_&&_)=true:=k8;simp at k8;exact k8.1);exact B6 ht)
   (λ Cc s H fp pn xe Zc th=>(sE elt _ Zc k ⟨NC,n.F,n.G⟩ cv cl (C.comp k2' k3 k4 th) k6).pe) (yh it)
theorem sI:∀ (it:I) (X:Cx) (Z:ZK) (k:Nat) (n:Nm) (cv:XX) (cl:136),Kx X Z k n cv cl->it.ok X.env.scope n=true->∀ t:Tg,t.forI it=true->∀ N,L2.PI X (t.py N) (it.py n) (zy X.K cv (RJ X.K) Z (it.ev cl))
 | .seq e,X,Z,k,n,cv,cl,C,h=>λ t ht N=>by
  have se:=sE e X Z k n cv cl C (by exact h);refine PI.mono (z65 se.pe) λ σ H Q=>ze λ μ ρ h hr er q=>?_;refine zf (m:=e.ev cl) hr er q λ d h1 μ1 H1 x _ e1 r1 vk qa p1=>?_;cases qa with
  | tup g1 g2=>exact .inr (.inl ⟨_,rfl,⟨_,g1⟩,p1.here r1 (z2l g1 g2)⟩)
  | fl g1 g2=>exact .inl ⟨_,rfl,⟨_,g1.sq⟩,p1.here r1 (z64 g1 g2)⟩
  | str z=>exact .inr (.inr ⟨_,rfl,p1.here r1 (z2m z)⟩)
  | @loc nn a m =>
   cases e2:rd h1 nn with
   | none=>simp only [e2] at p1;exact p1.elim
   | some xs =>
    simp only [e2] at p1;obtain ⟨vs,hs1,rs⟩:=r1.rd e2 m;exact .inl ⟨_,rfl,⟨_,hs1⟩,p1.here r1 (z2j m)⟩
  | _=>exact p1.elim
 | .lst l,X,Z,k,n,cv,cl,C,h=>λ t ht N=>by
  have sl:=sL l X Z k n cv cl C (by exact h);refine PI.mono (z16 sl) λ σ H Q=>ze λ μ ρ h hr er q=>?_;refine jj (m:=l.ev cl) Ext.refl hr er q (λ _ _ z=>z) λ ds h1 μ1 H1 x _ e1 r1 vk qa p1=>?_;obtain ⟨p,vs,rfl,g1,g2,g3,g4⟩:=qa;exact ⟨p,rfl,⟨vs,SqL.of g1⟩,p1 μ1 H1 _ e1 r1 (z2k g1 g3 g2)⟩
 | .rng a p0 p,X,Z,k,n,cv,cl,C,h=>λ t ht N=>by
  have h':gOf X.env.scope "range"=true/\a.ok X.env.scope n=true:=by have h:(_&&_)=true:=h;simpa using h
  have sa:=sE a X Z k n cv cl C h'.2;refine PI.mono (Gm (C.gl h'.1) (C.bm _ 123) (zC sa.pe zW 231) 231) λ σ H Q=>ze λ μ ρ h hr er q=>?_;refine zf (m:=a.ev cl) hr er q λ d h1 μ1 H1 x _ e1 r1 vk qa p1=>?_;cases qa with
  | int j =>
   simp only at p1;split at p1
   ·rename_i c;exact ⟨j,rfl,by have:=c.1;omega,by have:=c.2;omega,p1.here r1 (z2r j.toNat)⟩
   ·exact p1.elim
  | _=>exact p1.elim
 | .rev e p0 p,X,Z,k,n,cv,cl,C,h=>λ t ht N=>by
  have h':gOf X.env.scope "reversed"=true/\e.ok X.env.scope n=true:=by have h:(_&&_)=true:=h;simpa using h
  have sa:=sE e X Z k n cv cl C h'.2;refine PI.mono (z1y (C.gl h'.1) (C.bm _ 123) (zC sa.pe zW (zh e _ _)) (zh e _ _)) λ σ H Q=>ze λ μ ρ h hr er q=>?_;refine zf (m:=e.ev cl) hr er q λ d h1 μ1 H1 x _ e1 r1 vk qa p1=>?_;unfold GO at p1;cases qa with
  | @fl ds vs a f r =>
   simp only at p1;refine ⟨a,vs,rfl,.inl ⟨f.sq,?_⟩⟩;rw [<- r.length];exact p1.here r1 (z2p f r)
  | @tup ds vs a f r =>
   simp only at p1;refine ⟨a,vs,rfl,.inr ⟨f,?_⟩⟩;rw [<- r.length];exact p1.here r1 (z2n f r)
  | @loc nn b m =>
   cases e2:PI.rd h1 nn with
   | none=>simp only [e2] at p1;exact p1.elim
   | some ds =>
    simp only [e2] at p1;obtain ⟨vs,q1,q2⟩:=jO r1 m e2;refine ⟨b,vs,rfl,.inl ⟨SqL.of q1,?_⟩⟩;rw [<- q2.length];exact p1.here r1 (z2o m)
  | _=>exact p1.elim
 | .zip a b p0 p,X,Z,k,n,cv,cl,C,h=>λ t ht N=>by
  have h':(gOf X.env.scope "zip"=true/\a.ok X.env.scope n=true)/\b.ok X.env.scope n=true:=by have h:(_&&_)=true:=h;simpa using h
  have sa:=sE a X Z k n cv cl C h'.1.2;have sb:=sE b X Z k n cv cl C h'.2;refine PI.mono (z22 (C.gl h'.1.1) (C.bm _ 123) (zC sa.pe (zC sb.pe zW (zh b _ _)) 231) 231 (by rw [zh];rfl)) λ σ H Q=>ze λ μ ρ h hr er q=>?_;refine zf (m:=a.ev cl) hr er q λ d h1 μ1 H1 x _ e1 r1 vk qa p1=>?_;refine zf (m:=b.ev cl) r1 vk p1 λ d2 h2 μ2 H2 y _ e2 r2 er2 qb p2=>?_;unfold Uw at p2;cases g1:Bp d h2 with
  | none=>rw [g1] at p2;exact p2.elim
  | some s1 =>
   cases g2:Bp d2 h2 with
   | none=>simp only [g1,g2] at p2;exact p2.elim
   | some s2 =>
    simp only [g1,g2] at p2;obtain ⟨l1,b1,vs,rfl,u1,v1,w1⟩:=VA (qa.mono e2) r2 g1;obtain ⟨l2,b2,ws,rfl,u2,v2,w2⟩:=VA qb r2 g2;refine ⟨l1,l2,b1,b2,vs,ws,rfl,u1,u2,?_⟩;rw [v1,v2];exact p2.here r2 (z2q w1 w2)
 | .enum e p0 p,X,Z,k,n,cv,cl,C,h=>λ t ht N=>by
  cases t with
  | one i q=>cases ht
  | tup is q =>
   have h':gOf X.env.scope "enumerate"=true/\e.ok X.env.scope n=true:=by have h:(_&&_)=true:=h;simpa using h
   have sa:=sE e X Z k n cv cl C h'.2;refine PI.mono (z23 (C.gl h'.1) (C.bm _ 123) (zC sa.pe zW (zh e _ _)) (zh e _ _) rfl) λ σ H Q=>ze λ μ ρ h hr er q=>?_;refine zf (m:=e.ev cl) hr er q λ d h1 μ1 H1 x _ e1 r1 vk qa p1=>?_;unfold Vx at p1;cases qa with
   | @loc nn a m =>
    cases g1:PI.rd h1 nn with
    | none=>simp only [g1] at p1;exact p1.elim
    | some ds =>
     simp only [g1] at p1;obtain ⟨vs,q1,q2⟩:=jO r1 m g1;refine ⟨a,vs,rfl,SqL.of q1,?_⟩;rw [<- q2.length];exact p1.here r1 (BD m)
   | _=>exact p1.elim
theorem sEs:∀ (r:Es) (X:Cx) (Z:ZK) (k:Nat) (n:Nm) (cv:XX) (cl:136),Kx X Z k n cv cl->r.ok X.env.scope n=true->SEs X Z n cv cl r
 | .nil,X,Z,k,n,cv,cl,C,_=>by
  refine ⟨?_,λ b p sb=>?_,λ b p sb hb _=>?_,λ b p sb=>?_,λ b p sb hb _=>?_,z66⟩
  ·skip;refine PA.mono zW λ σ H Q=>ze λ μ ρ h hr er q=>?_;exact q.here hr .nil
  ·skip;refine PE.mono (Oz sb.pe) λ σ H Q=>ze λ μ ρ h hr er q=>⟨μ,ρ,h,hr,er,?_⟩;have q:PostE X.K cv 173 μ H ((b.ev cl ρ h).bind λ a h1=>.ok a h1) Q (Z σ):=q
   rwa [jS] at q
  ·skip;refine PW.mono (z10 (sb.pt hb)) λ σ H Q=>ze λ μ ρ h hr er q=>⟨μ,ρ,h,hr,er,?_⟩;have q:PostE X.K cv RB μ H ((b.evT cl ρ h).bind λ a h1=>.ok a h1) Q (Z σ):=q
   rwa [jS] at q
  ·skip;refine PE.mono (Oz sb.pe) λ σ H Q=>ze λ μ ρ h hr er q=>⟨μ,ρ,h,hr,er,?_⟩;have q:PostE X.K cv 173 μ H ((b.ev cl ρ h).bind λ a h1=>.ok a h1) Q (Z σ):=q
   rwa [jS] at q
  ·skip;refine PW.mono (z51 (sb.pt hb)) λ σ H Q=>ze λ μ ρ h hr er q=>⟨μ,ρ,h,hr,er,?_⟩;have q:PostE X.K cv RB μ H ((b.evT cl ρ h).bind λ a h1=>.ok a h1) Q (Z σ):=q
   rwa [jS] at q
 | .cons e r,X,Z,k,n,cv,cl,C,h=>by
  have h':e.ok X.env.scope n=true/\r.ok X.env.scope n=true:=by have h:(_&&_)=true:=h;simpa using h
  have se:=sE e X Z k n cv cl C h'.1;have sr:=sEs r X Z k n cv cl C h'.2;refine ⟨?_,λ b p sb=>?_,λ b p sb hb hr'=>?_,λ b p sb=>?_,λ b p sb hb hr'=>?_,z2s se.pe sr.ps⟩
  ·skip;refine PA.mono (zC se.pe sr.pa (zh e _ _)) λ σ H Q=>ze λ μ ρ h hr er q=>?_;refine zf (m:=e.ev cl) hr er q λ da h1 μ1 H1 x _ e1 r1 vk qa p1=>?_;refine zf (m:=r.ev cl) r1 vk p1 λ ds h2 μ2 H2 xs _ e2 r2 er2 qb p2=>?_;exact p2.here r2 (.cons (qa.mono e2) qb)
  ·skip;refine PE.mono (OA sb.pe (sr.an e p se)) λ σ H Q=>ze λ μ ρ h hr er q=>?_;refine zf (m:=b.ev cl) hr er q λ d h1 μ1 H1 x _ e1 r1 vk qa p1=>?_;cases qa with
   | bl c =>
    refine ⟨c,rfl,?_⟩;cases c with
    | true=>exact Zw 203
    | false=>exact Zv (p1.here r1 (.bl _))
   | _=>exact p1.elim
  ·skip;have hr2:e.okT=true/\r.okT=true:=by have hr':(_&&_)=true:=hr';simpa using hr'
   refine PW.mono (Oy (sb.pt hb) (sr.anT e p se hr2.1 hr2.2)) λ σ H Q=>ze λ μ ρ h hr er q=>?_;refine zf (m:=b.evT cl) (R:=RB) hr er q λ c h1 μ1 H1 x _ e1 r1 vk qa p1=>?_;have qa':c=x:=qa;subst qa';cases c with
   | true=>exact Zw 203
   | false=>exact Zv (p1.here r1 rfl)
  ·skip;refine PE.mono (z3l sb.pe (sr.orr e p se)) λ σ H Q=>ze λ μ ρ h hr er q=>?_;refine zf (m:=b.ev cl) hr er q λ d h1 μ1 H1 x _ e1 r1 vk qa p1=>?_;cases qa with
   | bl c =>
    refine ⟨c,rfl,?_⟩;cases c with
    | true=>exact Zw (p1.here r1 (.bl _))
    | false=>exact Zv 203
   | _=>exact p1.elim
  ·skip;have hr2:e.okT=true/\r.okT=true:=by have hr':(_&&_)=true:=hr';simpa using hr'
   refine PW.mono (z3k (sb.pt hb) (sr.orT e p se hr2.1 hr2.2)) λ σ H Q=>ze λ μ ρ h hr er q=>?_;refine zf (m:=b.evT cl) (R:=RB) hr er q λ c h1 μ1 H1 x _ e1 r1 vk qa p1=>?_;have qa':c=x:=qa;subst qa';cases c with
   | true=>exact Zw (p1.here r1 rfl)
   | false=>exact Zv 203
end
end
noncomputable def PostS (K:Y00)(cv:XX)(μ:XV)(H:Hp)(r:RS)(En:Ends)(Z:ZK):Prop :=
 match r with
 | .nx ρ h'=>∀ μ' H' σ',Ext K μ H μ' H'->HR K μ' h' H'->ER K μ' ρ σ' H'->En.nx σ' H'
 | .bk ρ h'=>∀ μ' H' σ',Ext K μ H μ' H'->HR K μ' h' H'->ER K μ' ρ σ' H'->En.bk σ' H'
 | .ct ρ h'=>∀ μ' H' σ',Ext K μ H μ' H'->HR K μ' h' H'->ER K μ' ρ σ' H'->En.ct σ' H'
 | .rt d h'=>∀ μ' H' v,Ext K μ H μ' H'->HR K μ' h' H'->Rep K μ' H' d v->En.rt v H'
 | .ex c ρ h'=>False
 | .no=>False
noncomputable def J5 (K:Y00)(cv:XX)(Z:ZK)(m:En->Hh->RS):TS:=λ En σ H=>∃ μ ρ h,HR K μ h H/\ER K μ ρ σ H/\PostS K cv μ H (m ρ h) En Z
theorem zw {K:Y00}{cv:XX}{Z:ZK}{m:En->Hh->RS}{En:Ends}{σ:St}{H:Hp}{G:Prop}(f:∀ μ ρ h,HR K μ h H->ER K μ ρ σ H->PostS K cv μ H (m ρ h) En Z->G)(x:J5 K cv Z m En σ H):G:=by
 obtain ⟨μ,ρ,h,hr,er,q⟩:=x;exact f μ ρ h hr er q
theorem PostS.ext {K:Y00}{cv:XX}{μ μ1:XV}{H H1:Hp}{r:RS}{En:Ends}{Z:ZK}(p:PostS K cv μ H r En Z)(e:Ext K μ H μ1 H1):PostS K cv μ1 H1 r En Z:=by
 unfold PostS at p ⊢;cases r with
 | nx ρ h=>exact λ μ' H' σ' e1 r1 q1=>p μ' H' σ' (e.trans e1) r1 q1
 | bk ρ h=>exact λ μ' H' σ' e1 r1 q1=>p μ' H' σ' (e.trans e1) r1 q1
 | ct ρ h=>exact λ μ' H' σ' e1 r1 q1=>p μ' H' σ' (e.trans e1) r1 q1
 | rt d h=>exact λ μ' H' σ' e1 r1 q1=>p μ' H' σ' (e.trans e1) r1 q1
 | ex c ρ h=>exact p
 | no=>exact p
theorem zG {α β:Type}{K:Y00}{cv:XX}{R:List Addr->Hp->α->β->Prop}{μ:XV}{ρ:En}{h:Hh}{σ:St}{H:Hp}{Z:ZK}{m:En->Hh->Res α}{f:α->Hh->RS}{En:Ends}{Q':β->Hp->Prop}
  (hr:HR K μ h H) (er:ER K μ ρ σ H) (p:PostS K cv μ H (j2 ρ (m ρ h) f) En Z)
  (go:∀ a h1 μ1 H1 x,m ρ h=.ok a h1->Ext K μ H μ1 H1->HR K μ1 h1 H1->ER K μ1 ρ σ H1->R μ1 H1 a x->PostS K cv μ1 H1 (f a h1) En Z->Q' x H1) :
  zy K cv R Z m σ H Q':=by
 refine ⟨μ,ρ,h,hr,er,?_⟩;unfold j2 at p;cases e:m ρ h with
 | ok a h1 =>
  rw [e] at p;exact λ μ1 H1 x e1 r1 q1=>go a h1 μ1 H1 x e e1 r1 (er.mono e1) q1 (PostS.ext p e1)
 | exc c h1 =>
  rw [e] at p;exact p
 | no=>rw [e] at p;exact p
noncomputable def Xt.ok (sc:Scope)(n:Nm)(t:Xt):Bool:=gOf sc t.x&&!(t.x==("__debug__":Str))&&(match t.d with
 | some d=>n.G.any λ q=>q.1==t.x&&(match q.2 with | .exc d' _=>d'==d | _=>false)
 | none=>t.x==("ValueError":Str))
noncomputable def Xv.ok (sc:Scope)(n:Nm):Xv->Bool
 | .and a b r _=>a.ok sc n&&b.ok sc n&&r.all (Xt.ok sc n)
 | .lst ts _=>ts.all (Xt.ok sc n)&&decide (ts.length<=1000)
 | .one t=>t.ok sc n
structure XK' (X:Cx)(n:Nm)(cv:XX)(j:Nat):Prop where
 is:Gl X "isinstance"
 mi:X.mg "isinstance"=none
 mv:X.mg "ValueError"=none
 hj:X.N[j]?=some (n.N.getD j "")
 vi:Vis X.env.scope (n.N.getD j "")
 nd:(n.N.getD j ""==("__debug__":Str))=false
 nc:(n.N.getD j ""==("__classdict__":Str))=false
 gc:∀ x c u,(x,Cn.exc c u)∈n.G->∃ a,X.mg x=some (.ref a)/\cv c=.ref a
noncomputable def E.noT:E->Bool
 | .tup _ _=>false
 | .ofL _=>false
 | _=>true
noncomputable def E.noC:E->Bool
 | .ofL (.comp _ _ _ _ _ _ _ _)=>false
 | _=>true
noncomputable def Fp.ok (n:Nm):Fp->Bool
 | .c _ _=>true
 | .r i _ _=>decide (i<n.N.length)
noncomputable def Ms.ok (n:Nm):Ms->Bool
 | .s _ _=>true
 | .f a b r _=>a.ok n&&b.ok n&&r.all (λ q=>q.ok n)
mutual
noncomputable def S.ok (sc:Scope)(n:Nm):S->Bool
 | .set i e _ _=>decide (i<n.N.length)&&e.ok sc n
 | .ret e _=>e.ok sc n
 | .iff c a b _=>c.ok sc n&&c.okT&&a.ok sc n&&b.ok sc n
 | .ex e _=>e.ok sc n&&e.noC
 | .retN _=>true
 | .setF o f v _ _=>o.ok sc n&&v.ok sc n&&decide (f∈j4)&&v.noC
 | .put o i v _ _=>o.ok sc n&&i.ok sc n&&v.ok sc n
 | .putT o es v _ _ _=>o.ok sc n&&es.ok sc n&&v.ok sc n
 | .forr t it b _=>t.okS n.N&&(it.ok sc n&&t.forI it)&&b.ok sc n
 | .whil c b _=>c.ok sc n&&c.okT&&b.ok sc n
 | .pass _ | .brk _ | .cnt _=>true
 | .raw _=>true
 | .setT is e p1 _=>(Tg.tup is p1).okS n.N&&e.ok sc n&&e.noT
noncomputable def Ss.ok (sc:Scope)(n:Nm):Ss->Bool
 | .nil=>true
 | .cons s r=>s.ok sc n&&r.ok sc n
end
theorem PS.mono {X:Cx}{e:Stmt}{t t':TS}(p:PS X e t)(h:∀ En σ H,t' En σ H->t En σ H):PS X e t':=λ pins s σ H En I q=>p pins s σ H En I (h En σ H q)
theorem PSs.mono {X:Cx}{e:List Stmt}{t t':TS}(p:PSs X e t)(h:∀ En σ H,t' En σ H->t En σ H):PSs X e t':=λ pins s σ H En I q=>p pins s σ H En I (h En σ H q)
structure KxS (X:Cx)(Z:ZK)(k:Nat)(n:Nm)(cv:XX)(cl:136):Prop extends Kx X Z k n cv cl where
 lo:∀ x∈n.N,Loc X.env.scope x/\(X.fn x=true\/X.env.scope.names.lookup x=some .local)
theorem KxS.wish {X:Cx}{Z:ZK}{k:Nat}{n:Nm}{cv:XX}{cl:136}(C:KxS X Z k n cv cl):KxS (X.wish (XE X Z)) Z k n cv cl :=
 ⟨⟨C.th.wished,C.rm,C.nN,C.nd,C.cm,C.kd,C.nm,C.bm,C.gc,C.fn,C.mc,C.xc⟩,C.lo⟩
section
variable {X:Cx}{Z:ZK}{k:Nat}{n:Nm}{cv:XX}{cl:136}
theorem Zb (e:E)(h:e.noC=true)(t:Option Expr)(l:Nat)(env:Env):swapsWith (e.py n) t l env=pure false:=by
 cases e with
 | ofL l =>
  cases l with
  | disp es p=>rfl
  | comp=>cases h
 | _=>rfl
theorem J7 (o i : E)(p1 : Pos)(env : Env) : ∀ v, assign (.Subscript (o.py n) (i.py n) p1) env v = (do
      let ov <- holding [v] (eval (o.py n) env)
      let iv <- holding [v,ov] (eval (i.py n) env)
      standAt p1
      holding [v,ov,iv] (setItem ov iv v)
      release [v,ov,iv] []):=by
  intro v;generalize o.py n=oo;cases i with
  | ofL l=>cases l<;>(rfl)
  | _=>rfl
theorem J8 (o i e:E)(p1:Pos)(l:Nat)(env:Env):swapsWithSole [.Subscript (o.py n) (i.py n) p1] (e.py n) l env=pure false:=by
 generalize o.py n=oo;generalize i.py n=ii;cases e with
 | ofL l=>cases l<;>(rfl)
 | _=>rfl
theorem yv (o i e:E)(p1:Pos)(env:Env):swappedStores [.Subscript (o.py n) (i.py n) p1] (e.py n) env=pure none:=by
 generalize o.py n=oo;generalize i.py n=ii;cases e with
 | ofL l=>cases l<;>(rfl)
 | _=>rfl
theorem z2t (ts:List Expr)(e:E)(h:e.noT=true)(k:Nat)(p1:Pos)(l:Nat)(env:Env):swapsWithSole [.Tuple ts k p1] (e.py n) l env=pure false:=by
 cases e with
 | ofL l=>cases h
 | tup es p=>cases h
 | _=>rfl
theorem UE (e:E)(h:e.noC=true)(t:Option Expr)(l:Nat)(env:Env):swapsWith (e.py n) t l env=pure false:=by
 cases e with
 | ofL l=>cases l with
  | disp es p=>rfl
  | comp _ _ _ _ _ _ _ _=>cases h
 | _=>rfl
theorem O1 (ts:List Expr)(e:E)(h:e.noT=true)(k:Nat)(p1:Pos)(env:Env):swappedStores [.Tuple ts k p1] (e.py n) env=pure none:=by
 cases e with
 | ofL l=>cases h
 | tup es p=>cases h
 | _=>rfl
theorem UF {c:E}{b:Ss}{p:Pos}{En:Ends}{σ:St}{H:Hp}{μ:XV}{ρ:PI.En}{h:Hh}(hr:HR X.K μ h H)(er:ER X.K μ ρ σ H)(q:PostS X.K cv μ H ((S.whil c b p).run cl ρ h) En Z) :
  U2 (zy X.K cv RB Z (c.evT cl)) (J5 X.K cv Z (b.run cl)) En σ H:=by
 have q:PostS X.K cv μ H (whR (λ ρ' h'=>c.evT cl ρ' h') (λ ρ' h'=>b.run cl ρ' h') ρ h) En Z:=q;have nz:whR (λ ρ' h'=>c.evT cl ρ' h') (λ ρ' h'=>b.run cl ρ' h') ρ h≠.no:=λ z=>by rw [z] at q;exact q
 obtain ⟨n0,e0⟩:=WU nz;rw [<- e0] at q;refine ⟨λ m σ H=>∃ μ ρ h,HR X.K μ h H/\ER X.K μ ρ σ H/\PostS X.K cv μ H (whL (λ ρ' h'=>c.evT cl ρ' h') (λ ρ' h'=>b.run cl ρ' h') m ρ h) En Z,⟨n0,μ,ρ,h,hr,er,q⟩,?_⟩
 rintro m σ1 H1 ⟨μ1,ρ1,h1,hr1,vk,q1⟩
 cases m with
 | zero=>exact q1.elim
 | succ m =>
  rw [whL] at q1;refine ⟨μ1,ρ1,h1,hr1,vk,?_⟩;cases ec:c.evT cl ρ1 h1 with
  | ok t h2 =>
   rw [ec] at q1;intro μ2 H2 x e2 r2 hx;have hx':t=x:=hx;subst hx';cases t with
   | false=>exact Zv (q1 μ2 H2 σ1 e2 r2 (vk.mono e2))
   | true =>
    refine Zw ⟨λ σ' H'=>∃ μ ρ h,HR X.K μ h H'/\ER X.K μ ρ σ' H'/\PostS X.K cv μ H' (whL (λ ρ' h'=>c.evT cl ρ' h') (λ ρ' h'=>b.run cl ρ' h') m ρ h) En Z,λ σ' H' z=>⟨m,Y2e m,z⟩,μ2,ρ1,h2,r2,vk.mono e2,?_⟩;simp only at q1;have q2:=PostS.ext q1 e2;cases eb:b.run cl ρ1 h2 with
    | nx ρ4 h4=>simp only [eb] at q2;exact λ μ4 H4 σ4 e4 r4 er4=>⟨μ4,ρ4,h4,r4,er4,PostS.ext q2 e4⟩
    | ct ρ4 h4=>simp only [eb] at q2;exact λ μ4 H4 σ4 e4 r4 er4=>⟨μ4,ρ4,h4,r4,er4,PostS.ext q2 e4⟩
    | bk ρ4 h4=>simp only [eb] at q2;exact q2
    | rt d h4=>simp only [eb] at q2;exact q2
    | ex c' ρ4 h4=>simp only [eb] at q2;exact q2
    | no=>simp only [eb] at q2;exact q2
  | exc k h2 =>
   rw [ec] at q1;exact q1
  | no=>rw [ec] at q1;exact q1
theorem O2 {c:Expr}{body:List Stmt}{tc:TT}{tb:TS}{pos:Pos}(th:Thr X Z)(hc:PT (X.wish (XE X Z)) c tc)(hb:PSs (X.wish (XE X Z)) body tb):PS X (.While c body [] pos) (U2 tc tb):=by
 intro pins s σ H D I h;refine wpAny_mono (OI (X:=X.wish (XE X Z)) (W7 (X:=X) (Z:=Z) th.toXOk) hc hb pins s σ H D (I.wish _) h) (λ f s' q=>q.unwish) λ e s' x=>th.thr e s' x
theorem BI {t:Tg}{it:I}{b:Ss}{En:Ends}{σ:St}{H:Hp}{μ:XV}{ρ:PI.En}{h:Hh}(hr:HR X.K μ h H)(er:ER X.K μ ρ σ H)(q:PostS X.K cv μ H ((S.forr t it b p).run cl ρ h) En Z) :
  z59 (zy X.K cv (RJ X.K) Z (it.ev cl)) (gB X.K t) (J5 X.K cv Z (b.run cl)) En σ H:=by
 refine zG (m:=it.ev cl) hr er q λ qq h1 μ1 H1 J _ e1 r1 vk src p1=>?_;obtain ⟨c,ds⟩:=qq;refine ⟨λ i m σ' H'=>m=ds.length-i/\i<=ds.length/\∃ μ2 ρ2 h2,Ext X.K μ1 H1 μ2 H'/\HR X.K μ2 h2 H'/\ER X.K μ2 ρ2 σ' H'/\PostS X.K cv μ2 H' (jb c (zJ t λ ρ' h'=>b.run cl ρ' h') (ds.drop i) ρ2 h2) En Z,
  ⟨ds.length,by simp,Y1w _,μ1,ρ,h1,Ext.refl,r1,vk,p1⟩,?_⟩
 rintro i m σ' H' ⟨rfl,hi,μ2,ρ2,h2,e2,r2,er2,p2⟩
 by_cases hlt:i<ds.length
 ·right;rw [Y2d hlt] at p2;unfold jb at p2;split at p2;rotate_left
  ·exact p2.elim
  rename_i st;obtain ⟨s1,s2⟩:=src μ2 h2 H' e2 r2 st;obtain ⟨g1,g2⟩:=s1 i ds[i] (Y0j hlt);refine ⟨g1,λ σ3 H3=>ds.length-(i+1)=ds.length-(i+1)/\i+1<=ds.length/\∃ μ3 ρ3 h3,Ext X.K μ1 H1 μ3 H3/\HR X.K μ3 h3 H3/\ER X.K μ3 ρ3 σ3 H3/\PostS X.K cv μ3 H3 (jb c (zJ t λ ρ' h'=>b.run cl ρ' h') (ds.drop (i+1)) ρ3 h3) En Z,
   λ σ3 H3 z=>⟨ds.length-(i+1),by omega,z⟩,λ x H3 y=>?_⟩
  obtain ⟨e2',r2',rx⟩:=g2 x H3 y;replace p2:=PostS.ext p2 e2';replace e2:=e2.trans e2';replace r2:=r2';replace er2:=er2.mono e2';unfold zJ at p2;cases eb:jq t ds[i] ρ2 with
  | none=>rw [eb] at p2;exact p2.elim
  | some ρ3 =>
   rw [eb] at p2;refine ⟨μ2,ρ2,ds[i],ρ3,h2,r2,er2,rx,eb,λ σ3 er3 _ _=>⟨μ2,ρ3,h2,r2,er3,?_⟩⟩;cases eo:b.run cl ρ3 h2 with
   | nx ρ4 h4 =>
    simp only [eo] at p2;exact λ μ4 H4 σ4 e4 r4 er4=>⟨rfl,hlt,μ4,ρ4,h4,e2.trans e4,r4,er4,PostS.ext p2 e4⟩
   | ct ρ4 h4 =>
    simp only [eo] at p2;exact λ μ4 H4 σ4 e4 r4 er4=>⟨rfl,hlt,μ4,ρ4,h4,e2.trans e4,r4,er4,PostS.ext p2 e4⟩
   | bk ρ4 h4=>simp only [eo] at p2;exact p2
   | rt d h4=>simp only [eo] at p2;exact p2
   | ex c' ρ4 h4=>simp only [eo] at p2;exact p2
   | no=>simp only [eo] at p2;exact p2
 ·left;have ei:i=ds.length:=by omega
  subst ei;rw [List.drop_length] at p2;unfold jb at p2;split at p2;rotate_left
  ·exact p2.elim
  rename_i st;exact ⟨(src μ2 h2 H' e2 r2 st).2,p2 μ2 H' σ' Ext.refl r2 er2⟩
mutual
theorem sS:∀ (s:S) (X:Cx) (Z:ZK) (k:Nat) (n:Nm) (cv:XX) (cl:136),KxS X Z k n cv cl->s.ok X.env.scope n=true->PS X (s.py n) (J5 X.K cv Z (s.run cl))
 | .set i e p1 p,X,Z,k,n,cv,cl,C,h=>by
  have h':i<n.N.length/\e.ok X.env.scope n=true:=by have h:(_&&_)=true:=h;simpa using h
  have hm:=C.lo _ (yu (d:=("":Str)) h'.1);have hN:X.N[i]?=some (n.N.getD i ""):=by rw [C.nN];exact getD_some h'.1
  have plain:swapsWith (e.py n) (some (.Name (n.N.getD i "") p1)) p.line X.env=pure false->PS X ((S.set i e p1 p).py n) (J5 X.K cv Z ((S.set i e p1 p).run cl)):=λ hs=>by
   have se:=sE e X Z k n cv cl C.toKx h'.2;refine PS.mono (z58 (i:=i) C.nd hN hm.1 se.pe hs hm.2) λ En σ H=>zw λ μ ρ h hr er q=>?_;refine zG (m:=e.ev cl) hr er q λ d h1 μ1 H1 x _ e1 r1 vk qa p1=>?_;exact p1 μ1 H1 _ Ext.refl r1 (vk.set qa i)
  cases hn:e.noC with
  | true=>exact plain (Zb e hn _ _ _)
  | false =>
   cases e with
   | ofL l =>
    cases l with
    | disp es pp=>cases hn
    | comp elt t it c NC cap csc pp =>
     have hL:(L.comp elt t it c NC cap csc pp).ok X.env.scope n=true:=by exact h'.2
     obtain ⟨b,eb,hb⟩:∃ b,swapsWith ((E.ofL (.comp elt t it c NC cap csc pp)).py n) (some (.Name (n.N.getD i "") p1)) p.line X.env=pure b/\(b=true->X.env.scope.names.lookup (n.N.getD i "")=some .local):=by
      refine ⟨_,by rfl,λ z=>?_⟩;simp only [Y0t,beq_iff_eq] at z;exact z.1.1.2
     cases b with
     | false=>exact plain eb
     | true =>
      obtain ⟨k1,k2,k3,k4,k5,k6,k7,k8,k9⟩:=VD C.toKx hL;have hit:=sI it X Z k n cv cl C.toKx k1.1 t k1.2 NC;have hff:∀ Cc s H fp pn xe Zc,Thr (zv X NC csc Cc s H fp pn xe) Zc->PF (zv X NC csc Cc s H fp pn xe) (c.py ⟨NC,n.F,n.G⟩) (zy X.K cv RB Zc (c.evC cl)):=λ Cc s H fp pn xe Zc th=>by
       have Cc':=C.toKx.comp k2 k3 k4 th;cases c with
       | nil=>exact VE
       | cons e r =>
        cases r with
        | cons _ _=>cases k9
        | nil =>
         have se:=sE e _ Zc k ⟨NC,n.F,n.G⟩ cv cl Cc' (by have k7:(_&&_)=true:=k7;simp at k7;exact k7.1);have ht:=se.pt (by have k8:(_&&_)=true:=k8;simp at k8;exact k8.1);exact B6 ht
      have key:=z1v (X:=X) (i:=i) (cap:=cap) (pos:=pp) (pos':=p1) (spos:=p) (g:=gB X.K t) (tf:=λ Zc=>zy X.K cv RB Zc (c.evC cl)) (te:=λ Zc=>zy X.K cv 173 Zc (elt.ev cl)) C.cm C.th hit k2 (λ Cc s H fp pn xe=>VF C.kd k2 k3 k5) hff
       (λ Cc s H fp pn xe Zc th=>(sE elt _ Zc k ⟨NC,n.F,n.G⟩ cv cl (C.toKx.comp k2 k3 k4 th) k6).pe) (yh it) C.nd hN (hb rfl) eb
      refine PS.mono key λ En σ H=>zw λ μ ρ h hr er q=>Wh k2 k5 ⟨μ,ρ,h,hr,er,?_⟩;have q:PostS X.K cv μ H (j2 ρ (((L.comp elt t it c NC cap csc pp).ev cl ρ h).bind λ xs h1=>new 210 h1) λ d h1=>.nx (ρ.set i (some d)) h1) En Z:=q;show PostE X.K cv (RL X.K H) μ H ((L.comp elt t it c NC cap csc pp).ev cl ρ h) _ (Z σ);cases el:(L.comp elt t it c NC cap csc pp).ev cl ρ h with
      | ok ds h1 =>
       rw [el] at q;intro μ1 H1 x e1 r1 ⟨pa,vs,ex,g1,g2,g3,g4⟩;subst ex;have vk:ER X.K (μ1++[pa]) ρ σ H1:=er.mono (e1.add g4);refine q (μ1++[pa]) H1 _ (e1.add g4) (r1.add g3 λ μ' gr=>⟨vs,g1,g2.mono' gr⟩) (vk.set (.loc ?_) i);rw [<- r1.len,Y09 176,Y0x];rfl
      | exc cc h1=>rw [el] at q;exact q
      | no=>rw [el] at q;exact q
   | _=>cases hn
 | .ret e p,X,Z,k,n,cv,cl,C,h=>by
  have se:=sE e X Z k n cv cl C.toKx (by exact h);refine PS.mono (z55 se.pe) λ En σ H=>zw λ μ ρ h hr er q=>?_;refine zG (m:=e.ev cl) hr er q λ d h1 μ1 H1 x _ e1 r1 vk qa p1=>?_;exact p1 μ1 H1 x Ext.refl r1 qa
 | .iff c a b p,X,Z,k,n,cv,cl,C,h=>by
  have h':((c.ok X.env.scope n=true/\c.okT=true)/\a.ok X.env.scope n=true)/\b.ok X.env.scope n=true:=by have h:(_&&_)=true:=h;simpa using h
  have sc:=sE c X Z k n cv cl C.toKx h'.1.1.1;have sa:=sSs a X Z k n cv cl C h'.1.2;have sb:=sSs b X Z k n cv cl C h'.2;refine PS.mono (z7a (sc.pt h'.1.1.2) sa sb) λ En σ H=>zw λ μ ρ h hr er q=>?_;refine zG (m:=c.evT cl) (R:=RB) hr er q λ t h1 μ1 H1 x _ e1 r1 vk qa p1=>?_;have qa':t=x:=qa;subst qa';cases t with
  | true=>exact Zw 203
  | false=>exact Zv 203
 | .ex e p,X,Z,k,n,cv,cl,C,h=>by
  have h':e.ok X.env.scope n=true/\e.noC=true:=by have h:(_&&_)=true:=h;simpa using h
  have se:=sE e X Z k n cv cl C.toKx h'.1;refine PS.mono (z13 se.pe (Zb e h'.2 _ _ _)) λ En σ H=>zw λ μ ρ h hr er q=>?_;refine zG (m:=e.ev cl) hr er q λ d h1 μ1 H1 x _ e1 r1 vk qa p1=>?_;exact p1 μ1 H1 _ Ext.refl r1 vk
 | .retN p,X,Z,k,n,cv,cl,C,h=>by
  refine PS.mono z14 λ En σ H=>zw λ μ ρ h hr er q=>?_;exact q μ H .non Ext.refl hr .non
 | .setF o f v p1 p,X,Z,k,n,cv,cl,C,h=>by
  have h':((o.ok X.env.scope n=true/\v.ok X.env.scope n=true)/\f∈j4)/\v.noC=true:=by have h:(_&&_)=true:=h;simpa using h
  have so:=sE o X Z k n cv cl C.toKx h'.1.1.1;have sv:=sE v X Z k n cv cl C.toKx h'.1.1.2;refine PS.mono (z5j so.pe sv.pe (UE v h'.2 _ _ _)) λ En σ H=>zw λ μ ρ h hr er q=>?_;refine zG (m:=v.ev cl) hr er q λ z h1 μ1 H1 x _ e1 r1 vk qz p1=>?_;refine zG (m:=o.ev cl) r1 vk p1 λ a h2 μ2 H2 y _ e2 r2 er2 qa p2=>?_;unfold qe at p2;cases qa with
  | @loc nn b m =>
   cases e3:h2[nn]? with
   | none=>simp only [e3] at p2;exact p2.elim
   | some ob =>
    have q:=r2.obj nn b ob m e3;cases ob with
    | lst _=>simp only [e3] at p2;exact p2.elim
    | dK _=>simp only [e3] at p2;exact p2.elim
    | dT _=>simp only [e3] at p2;exact p2.elim
    | obj w fs =>
     simp only [e3] at p2;obtain ⟨Cc,dx,vs,q1,q2,q3⟩:=q;split at p2
     ·rename_i hlt e4;split at e4
      ·rename_i hl;cases e4;obtain ⟨hr',ex⟩:=r2.chg (u:=.ins Cc dx (wK f x vs)) (o':=.obj w (Ye f z fs)) e3 m λ H' ex e=>⟨Cc,dx,_,e,q2,(q3.mono ex).put ((qz.mono e2).mono ex)⟩;exact ⟨b,Cc,dx,vs,rfl,q1,q2.cl,q2.na f h'.1.2,by rw [<- q3.length];exact hl,p2 μ2 _ σ ex hr' (er2.mono ex)⟩
      ·cases e4
     ·exact p2.elim
  | _=>exact p2.elim
 | .put o i v p1 p,X,Z,k,n,cv,cl,C,h=>by
  have h':(o.ok X.env.scope n=true/\i.ok X.env.scope n=true)/\v.ok X.env.scope n=true:=by have h:(_&&_)=true:=h;simpa using h
  have so:=sE o X Z k n cv cl C.toKx h'.1.1;have si:=sE i X Z k n cv cl C.toKx h'.1.2;have sv:=sE v X Z k n cv cl C.toKx h'.2;refine PS.mono (U1 sv.pe (OH so.pe si.pe (Bz (OY C.rm)) (J7 o i p1 _)) (J8 o i v p1 _ _) (yv o i v p1 _) rfl) λ En σ H=>zw λ μ ρ h hr er q=>?_;refine zG (m:=v.ev cl) hr er q λ z h1 μ1 H1 x _ e1 r1 vk qz p1=>?_;refine zG (m:=o.ev cl) r1 vk p1 λ a h2 μ2 H2 y _ e2 r2 er2 qa p2=>?_;refine zG (m:=i.ev cl) r2 er2 p2 λ b h3 μ3 H3 w _ e3 r3 er3 qb p3=>?_;cases e:Yc a b z h3 with
  | none=>rw [e] at p3;exact p3.elim
  | some h4 =>
   rw [e] at p3;exact ⟨μ3,h3,a,b,z,h4,r3,qa.mono e3,qb,(qz.mono e2).mono e3,e,λ μ4 H4 e4 r4=>p3 μ4 H4 σ e4 r4 (er3.mono e4)⟩
 | .putT o es v p2 p1 p,X,Z,k,n,cv,cl,C,h=>by
  have h':(o.ok X.env.scope n=true/\es.ok X.env.scope n=true)/\v.ok X.env.scope n=true:=by have h:(_&&_)=true:=h;simpa using h
  have so:=sE o X Z k n cv cl C.toKx h'.1.1;have si:=sEs es X Z k n cv cl C.toKx h'.1.2;have sv:=sE v X Z k n cv cl C.toKx h'.2;refine PS.mono (U1 sv.pe (OH so.pe (OR si.pa) (z63 (OY C.rm)) (J7 o (.tup es p2) p1 _)) (J8 o (.tup es p2) v p1 _ _) (yv o (.tup es p2) v p1 _) rfl) λ En σ H=>zw λ μ ρ h hr er q=>?_;refine zG (m:=v.ev cl) hr er q λ z h1 μ1 H1 x _ e1 r1 vk qz p1=>?_;refine zG (m:=o.ev cl) r1 vk p1 λ a h2 μ2 H2 y _ e2 r2 er2 qa p2=>?_;refine zG (m:=es.ev cl) r2 er2 p2 λ ds h3 μ3 H3 ws _ e3 r3 er3 qb p3=>?_;by_cases c:ds.length<1000
  ·rw [if_pos c] at p3;refine ⟨by rw [<- qb.length];exact Y1z (yQ (Y1z c)),λ t ht=>?_⟩;cases e:putT a ds z h3 with
   | none=>rw [e] at p3;exact p3.elim
   | some h4 =>
    rw [e] at p3;obtain ⟨b,kvs,kk,eb,g,ev,hz,G⟩:=BA r3 (qa.mono e3) qb ((qz.mono e2).mono e3) e;have nb:b≠t:=λ z=>by
     subst z;rcases g with g | ⟨g,_⟩<;>(rw [ht] at g;cases g)
    have g':DT (upd H3 t (.tup ws)) b kvs:=by
     rcases g with g | ⟨g,w⟩
     ·exact .inl (by rw [zp nb];exact g)
     ·exact .inr ⟨by rw [zp nb];exact g,w⟩
    obtain ⟨r4,e4⟩:=G _ (zo ht) (r3.tup ht) g';refine ⟨b,t,kvs,kk,eb,rfl,g',by rw [<- ev];exact zA,hz,?_⟩;exact p3 μ3 _ σ ((zo ht).trans e4) r4 (er3.mono ((zo ht).trans e4))
  ·rw [if_neg c] at p3;exact p3.elim
 | .forr t it b p,X,Z,k,n,cv,cl,C,h=>by
  have h':(t.okS n.N=true/\it.ok X.env.scope n=true/\t.forI it=true)/\b.ok X.env.scope n=true:=by have h:(_&&_)=true:=h;simpa using h
  have hi:=sI it _ Z k n cv cl C.wish.toKx h'.1.2.1 t h'.1.2.2 n.N;have hb:=sSs b _ Z k n cv cl C.wish h'.2;have hg:PG (X.wish (XE X Z)) (t.py n.N) (gB X.K t):=by
   have z:=z83 (X:=X.wish (XE X Z)) C.cm C.nd t λ i hi=>by
    have h1:=Y1l.mp h'.1.1 i hi;have hl:i<n.N.length:=of_decide_eq_true h1;have hm:=C.lo _ (yu (d:=("":Str)) hl);have eN:(X.wish (XE X Z)).N=n.N:=C.nN;rw [eN];exact ⟨hl,hm⟩
   rw [show (X.wish (XE X Z)).N=n.N from C.nN] at z;exact z
  exact PS.mono (z1u C.th C.cm hi hg hb (yh it)) λ En σ H=>zw λ μ ρ h hr er q=>BI (p:=p) hr er q
 | .whil c b p,X,Z,k,n,cv,cl,C,h=>by
  have h':(c.ok X.env.scope n=true/\c.okT=true)/\b.ok X.env.scope n=true:=by have h:(_&&_)=true:=h;simpa using h
  have sc:=sE c _ Z k n cv cl C.wish.toKx h'.1.1;have hb:=sSs b _ Z k n cv cl C.wish h'.2;exact PS.mono (O2 C.th (sc.pt h'.1.2) hb) λ En σ H=>zw λ μ ρ h hr er q=>UF (p:=p) hr er q
 | .raw st,X,Z,k,n,cv,cl,C,h=>by
  refine λ pins s σ H En I q=>?_;obtain ⟨μ,ρ,h,hr,er,q⟩:=q;exact q.elim
 | .pass p,X,Z,k,n,cv,cl,C,h=>by
  refine PS.mono z12 λ En σ H=>zw λ μ ρ h hr er q=>?_;exact q μ H σ Ext.refl hr er
 | .brk p,X,Z,k,n,cv,cl,C,h=>by
  refine PS.mono OD λ En σ H=>zw λ μ ρ h hr er q=>?_;exact q μ H σ Ext.refl hr er
 | .cnt p,X,Z,k,n,cv,cl,C,h=>by
  refine PS.mono QP λ En σ H=>zw λ μ ρ h hr er q=>?_;exact q μ H σ Ext.refl hr er
 | .setT is e p1 p,X,Z,k,n,cv,cl,C,h=>by
  have h':((Tg.tup is p1).okS n.N=true/\e.ok X.env.scope n=true)/\e.noT=true:=by have h:(_&&_)=true:=h;simpa using h
  have se:=sE e X Z k n cv cl C.toKx h'.1.2;have hg:PG X ((Tg.tup is p1).py n.N) (λ v σ H Q=>∃ μ ρ d ρ' h,HR X.K μ h H/\ER X.K μ ρ σ H/\Rep X.K μ H d v/\jq (.tup is p1) (ZX d h) ρ=some ρ'/\∀ σ',ER X.K μ ρ' σ' H->Q σ' H):=by
   have z:=z85 (X:=X) C.cm C.nd is p1 λ i hi=>by
    have h1:=Y1l.mp h'.1.1 i hi;have hl:i<n.N.length:=of_decide_eq_true h1;have hm:=C.lo _ (yu (d:=("":Str)) hl);rw [C.nN];exact ⟨hl,hm⟩
   rw [C.nN] at z;exact z
  refine PS.mono (U1 se.pe hg (z2t _ e h'.2 _ _ _ _) (O1 _ e h'.2 _ _ _) rfl) λ En σ H=>zw λ μ ρ h hr er q=>?_;refine zG (m:=e.ev cl) hr er q λ d h1 μ1 H1 x _ e1 r1 vk qa q1=>?_;cases eb:jq (.tup is p1) (ZX d h1) ρ with
  | none=>rw [eb] at q1;exact q1.elim
  | some ρ' =>
   rw [eb] at q1;exact ⟨μ1,ρ,d,ρ',h1,r1,vk,qa,eb,λ σ' er'=>q1 μ1 H1 σ' Ext.refl r1 er'⟩
theorem sSs:∀ (s:Ss) (X:Cx) (Z:ZK) (k:Nat) (n:Nm) (cv:XX) (cl:136),KxS X Z k n cv cl->s.ok X.env.scope n=true->PSs X (s.py n) (J5 X.K cv Z (s.run cl))
 | .nil,X,Z,k,n,cv,cl,C,_=>by
  refine PSs.mono z11 λ En σ H=>zw λ μ ρ h hr er q=>?_;exact q μ H σ Ext.refl hr er
 | .cons s r,X,Z,k,n,cv,cl,C,h=>by
  have h':s.ok X.env.scope n=true/\r.ok X.env.scope n=true:=by have h:(_&&_)=true:=h;simpa using h
  have ss:=sS s X Z k n cv cl C h'.1;have sr:=sSs r X Z k n cv cl C h'.2;refine PSs.mono (OC ss sr) λ En σ H=>zw λ μ ρ h hr er q=>?_;have q:PostS X.K cv μ H (wq (s.run cl ρ h) λ ρ' h'=>r.run cl ρ' h') En Z:=q;refine ⟨μ,ρ,h,hr,er,?_⟩;cases e:s.run cl ρ h with
  | nx ρ' h1 =>
   rw [e] at q;exact λ μ1 H1 σ1 e1 r1 vk=>⟨μ1,ρ',h1,r1,vk,PostS.ext q e1⟩
  | bk ρ' h1=>rw [e] at q;exact q
  | ct ρ' h1=>rw [e] at q;exact q
  | rt d h1=>rw [e] at q;exact q
  | ex c ρ' h1=>rw [e] at q;exact q
  | no=>rw [e] at q;exact q
end
end
section
variable {X:Cx}{Z:ZK}{k:Nat}{n:Nm}{cv:XX}{cl:136}
noncomputable def okD (b:Ss)(sc:Scope)(n:Nm)(ps:XY):Bool:=b.ok sc n
end
structure DefOk (st:Stmt)(d:Df)(F:XY)(G:List (Str×Cn))(nm q:Str):Prop where
 body:zV st=d.body.py ⟨d.N,F,G⟩
 sc:FnScope d.N d.ps (zu st)
 ok:okD d.body (zu st) ⟨d.N,F,G⟩ d.ps=true
 nms:∀ x∈d.N,((zu st).names.lookup x=some .local\/(zu st).names.lookup x=some .cell)/\Za x=true
 bd:∀ (kV doc pm:Value) (an:Option Addr) (vw ct:Value) (us:XU),us.length=d.ps.length ->
  bindArgs (PySem.W.fnOf nm q (j8 st) (zV st) (zu st) .none kV doc pm an vw ct) ⟨us,[]⟩=pure (d.ps.zip us)
structure Tab (P:XZ)(w:World)(K:Y00)(mg:XW)(ds:List Df)(G:List (Str×Cn)):Prop where
 bm:∀ x,x∈Q0->mg x=none
 gc:∀ x c,(x,c)∈G->175=false/\∃ v,mg x=some v/\z2a P w K v c
 fn:∀ (i:Nat) d,ds[i]?=some d->(G.any λ q=>decide (q.2=Cn.cls i))=false->(d.name==("__debug__":Str))=false/\∃ st f fd,mg d.name=some (.ref f)/\PySem.W.nsIn K mainGlobals d.name=some (some (.ref f))/\Fun K d.name d.name st f fd/\DefOk st d (ds.map (·.name)) G d.name d.name
 mc:∀ x i,(x,Cn.cls i)∈G->175=false/\∃ d st C f fd nm q,ds[i]?=some d/\mg x=some (.ref C)/\Mk K C f/\ClsN K x C/\Fun K nm q st f fd/\DefOk st d (ds.map (·.name)) G nm q
theorem BJ {K:Y00}(N:XY)(r:Reps K μ H as vs):ER K μ (as.map some++List.replicate (N.length-as.length) none) (L2.start N vs) H:=by
 unfold L2.start;refine ⟨by simp [r.length],λ i d h=>?_⟩;rw [List.getElem?_append] at h ⊢;rw [Y08] at h ⊢;rw [<- r.length];split at h
 ·rename_i c;rw [if_pos c];rw [Y0u] at h ⊢;cases e:as[i]? with
  | none=>rw [e] at h;cases h
  | some a =>
   rw [e] at h;cases h;obtain ⟨v,e1,e2⟩:=r.get e;rw [e1];exact ⟨v,rfl,e2⟩
 ·exfalso
  rw [List.getElem?_replicate] at h;split at h<;>cases h
theorem Wj (hd:ds[i]?=some d):∀ as h,callI ds k i as h≠.no->as.length=d.ps.length:=by
 intro as h q;cases k with
 | zero=>exact absurd rfl q
 | succ k =>
  unfold callI at q;rw [hd] at q;by_cases c:as.length=d.ps.length
  ·exact c
  ·exact absurd (if_neg c) q
section
variable {P:XZ}{w:World}{K:Y00}{mg:XW}{base:Heap}{ds:List Df}{G:List (Str×Cn)}{cv:XX}
noncomputable def z3v (K:Y00)(mg:XW)(cv:XX)(G:List (Str×Cn)):Prop:=∀ x c u,(x,Cn.exc c u)∈G->mg x=some (cv c)/\(∀ D∈u,∃ a d,cv c=.ref a/\cv D=.ref d/\z3q K a d)/\∃ a,cv c=.ref a/\TstK K G cv a u
noncomputable def z87:Cn->Bool
 | .exc _ _=>true
 | _=>false
theorem z68 (h:(G.all λ q=>!z87 q.2)=true):z3v K mg cv G:=λ x c u hm=>by
 have:=Y1l.mp h _ hm
 cases this
theorem UG (T:Tab P w K mg ds G)(XC:z3v K mg cv G):∀ (k i:Nat) (d:Df) (nm qn:Str) (st:Stmt) (f:Addr) (fd:FuncData),ds[i]?=some d->Fun K nm qn st f fd->DefOk st d (ds.map (·.name)) G nm qn ->
  FnOk P w K mg base (CXs P w) (2*k) f fd d.ps (spI K cv d.ps.length (callI ds k i))
 | 0,i,d,nm,qn,st,f,fd,hd,F,o=>by
  have no:∀ vs H Q E,¬ spI K cv d.ps.length (callI ds 0 i) vs H Q E:=λ vs H Q E ⟨_,_,_,_,_,_,z⟩=>z;exact ⟨λ vs H Q E h=>absurd h (no vs H Q E),λ A outer s H args us vs Q E _ _ _ _ h=>absurd h (no vs H Q E)⟩
 | k+1,i,d,nm,qn,st,f,fd,hd,F,o=>by
  have KC:∀ (vw:Value) (A:Around) (outer:List Env) (s:170) (H:Hp) (E:XK),Room (2*k+1) (A.deeper (envOfC qn (zu st) s.heap.objs.size f vw))->KxS (Ub (CXs P w) P w K mg base d.N qn (zu st) f vw A outer s H E) (λ _ C H'=>E C none H') k ⟨d.N,ds.map (·.name),G⟩ cv (callI ds k):=λ vw A outer s H E hr=>by
   refine ⟨⟨z1m,hr,rfl,o.sc.nd,rfl,o.sc.kind,λ x hx=>⟨(o.nms x hx).1.elim .inl λ z=>.inr (.inl z),(o.nms x hx).2⟩,T.bm,T.gc,λ j x hj hnc=>?_,λ x j hx=>?_,λ x c u hm=>XC x c u hm⟩,λ x hx=>⟨(o.nms x hx).1,.inl rfl⟩⟩;rotate_left
   ·obtain ⟨h1,d',st',C',f',fd',nm',q',e',m',M',N',F',o'⟩:=T.mc x j hx;exact ⟨h1,C',f',fd',d'.ps,m',M',N',F'.binds o'.bd,Wj e',UG T XC k j d' nm' q' st' f' fd' e' F' o'⟩
   have hj':=hj;rw [Y0u] at hj';cases e:ds[j]? with
   | none=>rw [e] at hj';cases hj'
   | some d' =>
    rw [e] at hj';cases hj';obtain ⟨h1,st',f',fd',m',s',F',o'⟩:=T.fn j d' e hnc;exact ⟨h1,f',fd',d'.ps,m',s',F'.kp,F'.binds o'.bd,Wj e,UG T XC k j d' _ _ st' f' fd' e F' o'⟩
  have fin:∀ {H:Hp}{vs:211}{Q:VK}{E:XK},spI K cv d.ps.length (callI ds (k+1) i) vs H Q E->J5 K cv (λ _ C H'=>E C none H') (d.body.run (callI ds k)) { nx:=λ _ H'=>Q .non H',rt:=Q } (L2.start d.N vs) H:=λ {H vs Q E} h=>by
   obtain ⟨hl,μ,h,as,hH,hv,p⟩:=h;refine ⟨μ,_,h,hH,BJ d.N hv,?_⟩;have c:as.length=d.ps.length:=by rw [hv.length];exact hl
   rw [zb hd c] at p;have p1:=p;unfold Df.run WW at p1;cases e:d.body.run (callI ds k) (as.map some++List.replicate (d.N.length-as.length) none) h with
   | nx ρ h1=>rw [e] at p1;exact λ μ1 H1 σ1 e1 r1 vk=>p1 μ1 H1 .non e1 r1 .non
   | rt v h1=>rw [e] at p1;exact p1
   | ex c ρ h1=>rw [e] at p1;exact p1
   | bk ρ h1=>rw [e] at p1;exact p1.elim
   | ct ρ h1=>rw [e] at p1;exact p1.elim
   | no=>rw [e] at p1;exact p1.elim
  exact F.okX o.sc (λ vs H Q E h=>h.1) λ vw A outer s H vs Q E hr h=>⟨_,by rw [o.body];exact sSs d.body _ _ _ _ _ _ (KC vw A outer s H E hr) o.ok,fin h⟩
end
theorem qN {K:Y00}{C E:Addr} (l:K.lookup E=some ⟨o,dd,.cls cd,sl⟩) (ty:PySem.W.typeIn K (.ref E)=some (.type "type")) (m:PySem.W.mroIn K C (.ref E)=some b) (hb:b=true\/C≠E):PySem.W.kitOne K (.ref C) (.ref E)=some b:=by
 unfold PySem.W.kitOne;by_cases q:C=E
 ·subst q;rw [if_pos 133];rcases hb with rfl | z
  ·rfl
  ·exact absurd rfl z
 ·rw [if_neg (λ z=>q (Value.ref.inj (eq_of_beq z)))];show (if ((PySem.W.clsIn K E).isSome&&PySem.W.typeIn K (.ref E)==some (.type "type"))=true then PySem.W.subIn K (.ref C) (.ref E) else none)=_;rw [if_pos (by rw [ty,Y0t];exact ⟨by unfold PySem.W.clsIn;rw [l];rfl,by decide⟩)];exact m
noncomputable def J9 (w:World)(K:Y00):List DictEntry->List (Str×Cv)->Prop
 | [],[]=>True
 | e::r,kx::s=>(e.hash=hashStr w kx.1/\(∃ t,e.key=.str kx.1 t)/\CvOk K e.val kx.2)/\J9 w K r s
 | _,_=>False
theorem tupK_mk {K:Y00} (l:K.lookup a=some ⟨.type "tuple",d,.seq its n,sl⟩) (z:its.size<=sizeLine) (v:Vals (xs.map V.str) its.toList):TupK K a xs :=
 ⟨_,its,n,l,rfl,rfl,z,v⟩
theorem Ja {K:Y00}:∀ {es:List DictEntry}{kvs:List (Str×Cv)},J9 w K es kvs->∃ vs,Pairs (zB P w) es vs/\DicV K kvs vs/\vs.map (·.1)=kvs.map (λ kx=>(Sum.inr kx.1:Key))/\∀ e∈es,∃ k,(zB P w).is k e.key=true/\e.hash=(zB P w).hash k
 | [],[],_=>⟨[],.nil,trivial,rfl,λ e h=>absurd h 133⟩
 | [],_::_,h=>h.elim
 | _::_,[],h=>h.elim
 | e::r,(k,xs)::s,⟨⟨h1,⟨t,h2⟩,h4⟩,h5⟩=>by
  obtain ⟨vs,p,d,n,ks⟩:=Ja h5;have ik:(zB P w).is (.inr k) e.key=true:=yo ⟨t,h2⟩;refine ⟨(.inr k,e.val)::vs,.cons ik rfl p,⟨rfl,h4,d⟩,by simp [n],λ e' he=>?_⟩;rcases Y0g.mp he with rfl | he
  ·exact ⟨_,ik,h1⟩
  ·exact ks e' he
theorem BK {K:Y00} (l:K.lookup a=some { cls:=.type "dict",data:=.dict es ep }) (h:J9 w K es.toList kvs) (nd:(kvs.map (·.1)).Nodup) :
  z2a P w K (.ref a) (.dic kvs):=by
 obtain ⟨vs,p,d,n,ks⟩:=Ja h;refine ⟨a,_,es,ep,vs,rfl,l,⟨rfl,rfl,rfl⟩,rfl,λ e he=>ks e (by simpa using he),p,?_,d⟩;rw [n];have e:kvs.map (λ kx=>(Sum.inr kx.1:Key))=(kvs.map (·.1)).map λ k=>(Sum.inr k:Key):=by simp
 rw [e];exact List.Pairwise.map _ (λ x y hxy z=>hxy (Sum.inr.inj z)) nd
theorem Wk:∀ {ns:List Int},PySem.W.WData.weightAll (ns.map PySem.W.WData.int)<=2 ^ 20->∀ n∈ns,Builtin.Int.intBits n<=2 ^ 20
 | [],_,n,hn=>absurd hn 133
 | m::r,h,n,hn=>by
  rw [Y0n,PySem.W.WData.weightAll] at h;rcases Y0g.mp hn with rfl | hn
  ·have e:PySem.W.WData.weight (.int n)=Builtin.Int.intBits n:=by rw [PySem.W.WData.weight];rfl
   omega
  ·exact Wk 117 n hn
noncomputable def BL (K:Y00)(cv:XX)(c:List D->Hh->Res D):Sp:=spI K cv 1 c
theorem z69 {K:Y00}{ns:List Int}(hO:z5t H)(hS:SqL K H a (ns.map V.int))(e:c [.fl (ns.map D.int)] []=.ok (.bl true) h') :
  BL K cv c [.ref a] H (λ v _=>v=.bl true) (λ _ _ _=>False):=by
 have rp:∀ ms:List Int,Reps K [] H (ms.map D.int) (ms.map V.int):=λ ms=>by
  induction ms with
  | nil=>exact .nil
  | cons m r ih=>exact .cons (.int m) ih
 have fz:Fz K H a (ns.map V.int):=by
  rcases hS with h | h
  ·left;rcases h with h | h
   ·rcases hO a with z | ⟨o,xs,z⟩
    ·rw [h] at z;cases z
    ·rw [h] at z;cases z
   ·exact h
  ·exact .inr λ H'=>.inr h
 refine ⟨rfl,[],[],[.fl (ns.map D.int)],⟨rfl,λ n m b e1=>by simp at e1,λ n b o e1=>by simp at e1⟩,.cons (.fl fz (rp ns)) .nil,?_⟩
 ·rw [e];intro μ1 H1 v e1 r1 q1;cases q1;rfl
theorem walk_ofB {l:PySem.W.OpenLaw}{loose:XY}{K:Params->Y00}
  (hn:l.most=some 63) (hdf:d.params.defaults=[]) (hr:Room k callerA)
  (hY:∀ (w:World) (h:Heap),YP w h->(K w.params).In h)
  (F:∀ (w:World) (mg:XW) (fa:Addr) (h:Heap),(K w.params).In h->h.Ns mainGlobals mg->mg d.name=some (.ref fa) ->
   ∃ (cv:XX) (fd:FuncData),(∀ (s:170) (u:Value),BindsTo s fd ⟨[u],[]⟩ [(x,u)]) /\
    ∀ base:Heap,(K w.params).In base->base.Ns mainGlobals mg->FnOk l.prog w (K w.params) mg base (CXs l.prog w) k fa fd [x] (BL (K w.params) cv c))
  (hc:∀ ns:List Int,ns.length<=63->(∀ n∈ns,Builtin.Int.intBits n<=2 ^ 20)->∃ h',c [.fl (ns.map D.int)] []=.ok (.bl true) h') :
  PySem.W.WalkO q loose XP YP l.row.toRowW d [] (λ f vs=>PySem.call f vs):=by
 intro w s₀ s₁ mg mb G Y fa o pm cd doc dV kV ho hd hcd hD hmg hg args vals as hpre hlay hrd hwl hlo;obtain rfl:dV=.none:=PySem.W.Dflts.none hD hdf;obtain rfl:kV=.none:=PySem.W.Dflts.noKw hD;obtain ⟨a,vs,ns,rfl,rfl,hobj,hints,vQ⟩:=Att.script_of hn hpre hwl;have hbits:∀ n∈ns,Builtin.Int.intBits n<=2 ^ 20:=by
  have h1:PySem.W.WData.layable (.list (ns.map .int))=true:=by
   have:=hlay
   unfold PySem.W.WData.layableAll at this;simpa using this
  have h2:=(PySem.W.layableW_iff.mp h1).2.2;exact Wk (by simpa [PySem.W.WData.weight] using h2)
 have KX:=hY w _ Y;obtain ⟨cv,fd,hb,hF⟩:=F w mg fa _ KX G.T.g hmg;obtain ⟨h',e⟩:=hc ns vQ hbits;refine PySem.W.enter_call (codeAny_mono (OX KX G.T.g G.T.b G.T.builtins G.T.nolimit hg hobj hints (Y1n vQ 123) hr hF hb (λ H hO hS=>z69 hO hS e) (λ H e' s' z=>False.elim z)) λ r s' hq=>?_);obtain ⟨rfl,h2,h3,h4⟩:=hq;exact ⟨.inl ⟨.bool true,.bool true,[],rfl,λ _=>rfl,.bool true,Att.post_true l _,λ _=>⟨List.Pairwise.nil,λ _ hm=>(nomatch hm)⟩⟩,h2,h3,h4⟩
end PI
namespace PI
open PySem L2
section
variable {cl:136}
theorem zac {z0 z1 h}:E.ev cl (.non z0) z1 h=.ok .non h:=rfl
theorem O3 {i z0 z1 h}:E.ev cl (.int i z0) z1 h=.ok 222 h:=rfl
theorem wv {i z0 ρ h}:E.ev cl (.var i z0) ρ h=match ρ[i]? with | some (some d)=>.ok d h | _=>.no:=rfl
theorem vun {op a z0 ρ h}:E.ev cl (.un op a z0) ρ h=(a.ev cl ρ h).bind λ x h1=>unD op x h1:=rfl
theorem z2u {op a b z0 ρ h}:E.ev cl (.cmp op a b z0) ρ h=(a.ev cl ρ h).bind λ x h1=>(b.ev cl ρ h1).bind λ y h2=>je op x y h2:=rfl
theorem z88 {c a b z0 ρ h}:E.ev cl (.ite c a b z0) ρ h=(c.ev cl ρ h).bind λ x h1=>tru x h1 λ t h1=>if t then a.ev cl ρ h1 else b.ev cl ρ h1:=rfl
theorem zad {a z0 z1 ρ h}:E.ev cl (.len a z0 z1) ρ h=(a.ev cl ρ h).bind λ x h1=>qS x h1:=rfl
theorem zae {T a z0 z1 z2 ρ h}:E.ev cl (.isi T a z0 z1 z2) ρ h=(a.ev cl ρ h).bind λ x h1=>match isI h1 x T with | some b=>.ok (.bl b) h1 | none=>.no:=rfl
theorem BM {a i z0 ρ h}:E.ev cl (.sub a i z0) ρ h=(a.ev cl ρ h).bind λ x h1=>(i.ev cl ρ h1).bind λ y h2=>jf x y h2:=rfl
theorem zaf {es z0 ρ h}:E.ev cl (.tup es z0) ρ h=(es.ev cl ρ h).bind λ xs h1=>if xs.length<=1000 then .ok (.tup xs) h1 else .no:=rfl
theorem vofL {l ρ h}:E.ev cl (.ofL l) ρ h=(l.ev cl ρ h).bind λ xs h1=>new 210 h1:=rfl
theorem vtupE {e z0 z1 ρ h}:E.ev cl (.tupE e z0 z1) ρ h=(e.ev cl ρ h).bind λ x h1=>match jY x h1 with | some xs=>.ok (.tup xs) h1 | none=>.no:=rfl
theorem vlistE {e z0 z1 ρ h}:E.ev cl (.listE e z0 z1) ρ h=(e.ev cl ρ h).bind λ x h1=>match jY x h1 with | some xs=>new (.lst xs) h1 | none=>.no:=rfl
theorem vdicP {e z0 z1 ρ h}:E.ev cl (.dicP e z0 z1) ρ h=(e.ev cl ρ h).bind λ x h1=>Vv x h1:=rfl
theorem z6a {ks vs z0 ρ h}:E.ev cl (.dispD ks vs z0) ρ h=(vs.ev cl ρ (h++[.dK []])).bind λ xs h1=>Vw ks h.length xs h1:=rfl
theorem vcut {a lo hi z0 z1 ρ h}:E.ev cl (.cut a lo hi z0 z1) ρ h=(a.ev cl ρ h).bind λ x h1=>(lo.ev cl ρ h1).bind λ l h2=>(hi.ev cl ρ h2).bind λ u h3=>Yd x l u h3:=rfl
theorem vm0 {m o z0 z1 ρ h}:E.ev cl (.m0 m o z0 z1) ρ h=(o.ev cl ρ h).bind λ x h1=>m0D m x h1:=rfl
theorem vm1 {m o a z0 z1 ρ h}:E.ev cl (.m1 m o a z0 z1) ρ h=(o.ev cl ρ h).bind λ x h1=>onL x h1 ((a.ev cl ρ h1).bind λ y h2=>m1D m x y h2):=rfl
theorem vmin2 {a b z0 z1 ρ h}:E.ev cl (.min2 a b z0 z1) ρ h=(a.ev cl ρ h).bind λ x h1=>(b.ev cl ρ h1).bind λ y h2=>match x,y with | .int i,.int j=>.ok (.int (if j<i then j else i)) h2 | _,_=>.no:=rfl
theorem vc1 {f a z0 z1 ρ h}:E.ev cl (.c1 f a z0 z1) ρ h=(a.ev cl ρ h).bind λ x h1=>c1D f x h1:=rfl
theorem UH {e z0 z1 z2 z3 ρ h}:E.ev cl (.listR e z0 z1 z2 z3) ρ h=(e.ev cl ρ h).bind λ x h1=>lrD x h1:=rfl
theorem z89 {z0 c z1 z2 h}:E.ev cl (.gcon z0 c z1) z2 h=match c with | .int i=>.ok (.int i) h | .str x=>.ok 248 h | .tup xs=>.ok (.tup (xs.map .str)) h | .dic _=>.no | .exc _ _=>.no | .cls _=>.no | .isc _ _=>.no:=rfl
theorem z6b {z0 kvs key a r z1 z2 z3 ρ h}:E.ev cl (.callG z0 kvs key a r z1 z2 z3) ρ h=(key.ev cl ρ h).bind λ y h1=>match fnOf kvs y with | some i=>(a.ev cl ρ h1).bind λ x h2=>(r.ev cl ρ h2).bind λ xs h3=>cl i (x::xs) h3 | none=>.no:=rfl
theorem z8a {a f z0 ρ h}:E.ev cl (.fld a f z0) ρ h=(a.ev cl ρ h).bind λ x h1=>yW x f h1:=rfl
theorem vmk {i x a r z0 z1 ρ h}:E.ev cl (.mk i x a r z0 z1) ρ h=(a.ev cl ρ h).bind λ y h1=>(r.ev cl ρ h1).bind λ ys h2=>mkR h2.length (cl i (.loc h2.length::y::ys) (h2++[.obj x []])):=rfl
theorem ldisp {es z0 ρ h}:L.ev cl (.disp es z0) ρ h=(es.ev cl ρ h).bind λ xs h1=>if xs.length<=1000 then .ok xs h1 else .no:=rfl
theorem irev {e z0 z1 ρ h}:I.ev cl (.rev e z0 z1) ρ h=(e.ev cl ρ h).bind λ x h1=>GO x h1:=rfl
theorem izip {a b z0 z1 ρ h}:I.ev cl (.zip a b z0 z1) ρ h=(a.ev cl ρ h).bind λ x h1=>(b.ev cl ρ h1).bind λ y h2=>Uw x y h2:=rfl
theorem ienum {e z0 z1 ρ h}:I.ev cl (.enum e z0 z1) ρ h=(e.ev cl ρ h).bind λ x h1=>Vx x h1:=rfl
theorem ccons {e z0 ρ h}:Es.evC cl (.cons e z0) ρ h=(e.ev cl ρ h).bind λ d h1=>match d with | .bl b=>.ok b h1 | _=>.no:=rfl
theorem z6c {z0 h}:Es.ev cl .nil z0 h=.ok [] h:=rfl
theorem econs {e r ρ h}:Es.ev cl (.cons e r) ρ h=(e.ev cl ρ h).bind λ x h1=>(r.ev cl ρ h1).bind λ xs h2=>.ok (x::xs) h2:=rfl
theorem z2v {i e z0 z1 ρ h}:S.run cl (.set i e z0 z1) ρ h=j2 ρ (e.ev cl ρ h) λ d h1=>.nx (ρ.set i (some d)) h1:=rfl
theorem BN {e z0 ρ h}:S.run cl (.ret e z0) ρ h=j2 ρ (e.ev cl ρ h) λ d h1=>.rt d h1:=rfl
theorem yex {e z0 ρ h}:S.run cl (.ex e z0) ρ h=j2 ρ (e.ev cl ρ h) λ _ h1=>.nx ρ h1:=rfl
theorem z8b {o es v z0 z1 z2 ρ h}:S.run cl (.putT o es v z0 z1 z2) ρ h=j2 ρ (v.ev cl ρ h) λ z h1=>j2 ρ (o.ev cl ρ h1) λ x h2=>j2 ρ (es.ev cl ρ h2) λ ds h3=>if ds.length<1000 then (match putT x ds z h3 with | some h4=>.nx ρ h4 | none=>.no) else .no:=rfl
theorem Zd {c b z0 ρ h}:S.run cl (.whil c b z0) ρ h=whR (λ ρ' h'=>c.evT cl ρ' h') (λ ρ' h'=>b.run cl ρ' h') ρ h:=rfl
theorem BO {o f v z0 z1 ρ h}:S.run cl (.setF o f v z0 z1) ρ h=j2 ρ (v.ev cl ρ h) λ z h1=>j2 ρ (o.ev cl ρ h1) λ x h2=>match qe x f z h2 with | some h3=>.nx ρ h3 | none=>.no:=rfl
theorem Jb {ρ h}:Ss.run cl .nil ρ h=.nx ρ h:=rfl
theorem jE {s r ρ h}:Ss.run cl (.cons s r) ρ h=wq (s.run cl ρ h) λ ρ' h'=>r.run cl ρ' h':=rfl
end
section
variable {h l:Hh}{o u:O}{n k:Nat}{xs:163}
theorem hx (h l:Hh)(k:Nat):(h++l)[h.length+k]?=l[k]?:=by
 rw [Y09 117];congr 1;omega
theorem OZ (e:h[n]?=some 210):rd h n=some xs:=by unfold rd;rw [e]
theorem qx (e:h[n]?=some o):h.set n o=h:=by
 apply List.ext_getElem?;intro i;by_cases hi:n=i
 ·subst hi
  have:=(Y0f.mp e).1
  rw [Y0b this,e]
 ·rw [Y1e hi]
end
theorem j5 {c:Ck}{f:D->Hh->Res 183}{h:Hh}(st:stay c h)(g:D->Option D):∀ (xs acc:163),(∀ x∈xs,f x h=.ok (g x) h)->zZ c f xs acc h=.ok (acc++xs.filterMap g) h
 | [],acc,_=>by simp [zZ,st]
 | x::r,acc,e=>by
  have e1:=e x (Y0c ..);have ih:=j5 st g r (Bn acc (g x)) λ y hy=>e y (Y06 _ hy);unfold zZ;rw [if_pos st,e1,bind_ok,ih,Y2g];cases g x<;>simp
theorem eqS {a b:Str}{h:Hh}(ha:PyData.strOk a=true)(hb:PyData.strOk b=true):je .Eq (.str a) (.str b) h=.ok (.bl (a==b)) h:=if_pos ⟨ha,hb,Y1w _⟩
theorem neS {a b:Str}{h:Hh}(ha:PyData.strOk a=true)(hb:PyData.strOk b=true):je .NotEq (.str a) (.str b) h=.ok (.bl (!(a==b))) h:=if_pos ⟨ha,hb,Y1w _⟩
theorem eqI {a b:Int}{h:Hh}:je .Eq (.int a) (.int b) h=.ok (.bl (a==b)) h:=rfl
theorem neI {a b:Int}{h:Hh}:je .NotEq (.int a) (.int b) h=.ok (.bl (!(a==b))) h:=rfl
noncomputable def wG:Nat->Ss->Ss
 | 0,_=>.nil
 | _+1,.nil=>.nil
 | n+1,.cons s r=>.cons s (wG n r)
noncomputable def w5:Nat->Ss->Ss
 | 0,b=>b
 | _+1,.nil=>.nil
 | n+1,.cons _ r=>w5 n r
theorem BP (cl:136):∀ (n:Nat) (b:Ss) (ρ:En) (h:Hh),Ss.run cl b ρ h=wq (Ss.run cl (wG n b) ρ h) λ ρ' h'=>Ss.run cl (w5 n b) ρ' h'
 | 0,b,ρ,h=>by simp [wG,w5,Jb,jE]
 | n+1,.nil,ρ,h=>by simp [wG,w5,Jb,jE]
 | n+1,.cons s r,ρ,h=>by
  simp only [wG,w5,Jb,jE];cases S.run cl s ρ h with
  | nx ρ' h'=>simp only [seqS_nx];exact BP cl n r ρ' h'
  | _=>rfl
theorem ZG:∀ (bs:List Bool),qU (bs.map D.bl)=some bs
 | []=>rfl
 | b::r=>by simp [qU,ZG r]
noncomputable def cs (x:Str):List Nat:=x.cps.toList
noncomputable def mkS (l:List Nat):Str:=⟨l.toArray⟩
theorem Wl (l:List Nat):cs (mkS l)=l:=by simp [cs,mkS]
theorem z3w (x:Str):mkS (cs x)=x:=by cases x;simp [cs,mkS]
theorem z6d {x y:Str}(h:cs x=cs y):x=y:=by rw [<- z3w x,<- z3w y,h]
theorem BQ {a b:List Nat}(h:mkS a=mkS b):a=b:=by rw [<- Wl a,<- Wl b,h]
theorem O5 (x y:Str):cs (x++y)=cs x++cs y:=by
 show (x.cps++y.cps).toList=_;simp [cs]
theorem O6 (a b:List Nat):mkS a++mkS b=mkS (a++b):=z6d (by rw [O5,Wl,Wl,Wl])
theorem z6e (x:Str):x.length=(cs x).length:=by simp [cs,Str.length]
theorem BR (l:List Nat):(mkS l).length=l.length:=by rw [z6e,Wl]
theorem z3x {l:List Nat}(h:∀ c∈l,c<1114112):PyData.strOk (mkS l)=true:=by
 unfold PyData.strOk mkS;simpa using h
theorem Q3 {i:Int}(h:i.natAbs<18446744073709551616):fits i=true:=by
 unfold fits Builtin.Int.intBits;refine decide_eq_true ?_
 split
 ·decide
 ·rename_i z;have hz:i.natAbs≠0:=by simpa using z
  have:i.natAbs.log2<64:=by
   rw [Nat.log2_lt hz];exact h
  omega
structure Wd (x:Str):Prop where
 ne:cs x≠[]
 len:(cs x).length<=20
 ch:∀ c∈cs x,c≠40/\c≠41/\c≠10/\c<1114112
section
variable {cl:136}{ρ ρ':En}{h h' h2 h3:Hh}{c e:E}{a b r:Ss}{p p0 p1 p2 p3:Pos}{d x:D}{i:Nat}
theorem zx {o:RS}(hc:c.evT cl ρ h=.ok false h')(k:Ss.run cl r ρ h'=o):Ss.run cl (.cons (.iff c a .nil p) r) ρ h=o:=by
 rw [<- k];show wq (j2 ρ (c.evT cl ρ h) λ t h1=>if t then a.run cl ρ h1 else Ss.nil.run cl ρ h1) 216=_;rw [hc];rfl
theorem BS (hc:c.evT cl ρ h=.ok true h'):Ss.run cl (.cons (.iff c a b p) r) ρ h=wq (a.run cl ρ h') λ ρ' h'=>r.run cl ρ' h':=by
 show wq (j2 ρ (c.evT cl ρ h) λ t h1=>if t then a.run cl ρ h1 else b.run cl ρ h1) 216=_;rw [hc];rfl
theorem Ze (hc:c.evT cl ρ h=.ok true h')(ha:a.run cl ρ h'=.rt d h2):Ss.run cl (.cons (.iff c a b p) r) ρ h=.rt d h2:=by rw [BS hc,ha];rfl
theorem zK {o:RS}(hc:c.evT cl ρ h=.ok true h')(ha:a.run cl ρ h'=.nx ρ' h2)(k:Ss.run cl r ρ' h2=o):Ss.run cl (.cons (.iff c a b p) r) ρ h=o:=by rw [<- k,BS hc,ha];rfl
theorem zr (he:e.ev cl ρ h=.ok d h'):Ss.run cl (.cons (.ret e p) r) ρ h=.rt d h':=by
 show wq (j2 ρ (e.ev cl ρ h) λ d h1=>.rt d h1) 216=_;rw [he];rfl
theorem zd {o:RS}(he:e.ev cl ρ h=.ok d h')(k:Ss.run cl r (ρ.set i (some d)) h'=o):Ss.run cl (.cons (.set i e p1 p) r) ρ h=o:=by
 rw [<- k];show wq (j2 ρ (e.ev cl ρ h) λ d h1=>.nx (ρ.set i (some d)) h1) 216=_;rw [he];rfl
theorem zU {o:RS}(he:e.ev cl ρ h=.ok d h')(k:Ss.run cl r ρ h'=o):Ss.run cl (.cons (.ex e p) r) ρ h=o:=by
 rw [<- k];show wq (j2 ρ (e.ev cl ρ h) λ d h1=>.nx ρ h1) 216=_;rw [he];rfl
theorem UI {o:RS}{is:List (Nat×Pos)}(he:e.ev cl ρ h=.ok d h')(hb:jq (.tup is p1) (ZX d h') ρ=some ρ')(k:Ss.run cl r ρ' h'=o):Ss.run cl (.cons (.setT is e p1 p) r) ρ h=o:=by
 rw [<- k];show wq (j2 ρ (e.ev cl ρ h) λ d h1=>match jq (.tup is p1) (ZX d h1) ρ with | some ρ'=>.nx ρ' h1 | none=>.no) 216=_
 rw [he,andS_ok,hb];rfl
theorem zi {o:RS}(q:o=.rt d h):WW o=.ok d h:=by rw [q];rfl
theorem zH {o:RS}(q:o=.nx ρ h):WW o=.ok .non h:=by rw [q];rfl
theorem bnd {α β:Type}{m:Res α}{f:α->Hh->Res β}{x:α}{y:Res β}(q:m=.ok x h)(g:f x h=y):m.bind f=y:=by rw [q];exact g
theorem jc {b:Bool}(q:e.evT cl ρ h=.ok b h'):e.ev cl ρ h=.ok (.bl b) h':=by
 have q:((e.ev cl ρ h).bind λ d h1=>match d with | .bl b=>.ok b h1 | _=>.no)=Res.ok b h':=q
 cases m:e.ev cl ρ h with
 | ok d h1 =>
  rw [m] at q;cases d with
  | bl b'=>cases q;rfl
  | _=>cases q
 | exc c h1=>rw [m] at q;cases q
 | no=>rw [m] at q;cases q
theorem Q4 {e':E}{r:Es}(ha:e.evT cl ρ h=.ok false h'):(E.and e e' r p).evT cl ρ h=.ok false h':=bnd (bnd (jc ha) rfl) rfl
theorem Jc {e':E}{t:Bool}(ha:e.evT cl ρ h=.ok true h')(hb:e'.evT cl ρ h'=.ok t h2):(E.and e e' .nil p).evT cl ρ h=.ok t h2:=bnd (bnd (jc ha) (bnd (jc hb) rfl)) rfl
theorem zj {a' b':E}{x y:D}{op:CmpOp}{t:Bool}(ha:a'.ev cl ρ h=.ok x h')(hb:b'.ev cl ρ h'=.ok y h2)(hc:je op x y h2=.ok (.bl t) h3):E.evT cl (.cmp op a' b' p) ρ h=.ok t h3:=bnd (bnd ha (bnd hb hc)) rfl
theorem z6f {e':E}{t:Bool}(ha:e.evT cl ρ h=.ok true h')(hb:e'.evT cl ρ h'=.ok true h2)(hc:c.evT cl ρ h2=.ok t h3):(E.and e e' (.cons c .nil) p).evT cl ρ h=.ok t h3:=bnd (bnd (jc ha) (bnd (jc hb) (bnd (jc hc) rfl))) rfl
theorem zL {o:RS}{tg:Tg}{it:I}{q:Ck×List D}(hi:it.ev cl ρ h=.ok q h')(hf:jb q.1 (zJ tg λ ρ' h'=>a.run cl ρ' h') q.2 ρ h'=.nx ρ' h2)(k:Ss.run cl r ρ' h2=o):Ss.run cl (.cons (.forr tg it a p) r) ρ h=o:=by
 rw [<- k];show wq (j2 ρ (it.ev cl ρ h) λ q h1=>jb q.1 (zJ tg λ ρ' h'=>a.run cl ρ' h') q.2 ρ h1) 216=_;rw [hi,andS_ok,hf];rfl
theorem VG {o:RS}{oe ie ve:E}{x y z:D}{h4:Hh}(hv:ve.ev cl ρ h=.ok z h')(ho:oe.ev cl ρ h'=.ok x h2)(hi:ie.ev cl ρ h2=.ok y h3)(hp:Yc x y z h3=some h4)(k:Ss.run cl r ρ h4=o):Ss.run cl (.cons (.put oe ie ve p1 p) r) ρ h=o:=by
 rw [<- k];show wq (j2 ρ (ve.ev cl ρ h) λ z h1=>j2 ρ (oe.ev cl ρ h1) λ x h2=>j2 ρ (ie.ev cl ρ h2) λ y h3=>match Yc x y z h3 with | some h4=>.nx ρ h4 | none=>.no) 216=_
 rw [hv,andS_ok,ho,andS_ok,hi,andS_ok,hp];rfl
theorem zM {o:RS}{ck:Ck}{f:D->En->Hh->RS}{l:163}(hs:stay ck h)(hf:f x ρ h=.nx ρ' h')(k:jb ck f l ρ' h'=o):jb ck f (x::l) ρ h=o:=by
 rw [jb,if_pos hs,hf];exact k
theorem Q5 {n:Nat}{l:163}(g:h[n]?=some (.lst l))(m:Res D):onL (.loc n) h m=m:=by
 show (match h[n]? with | some (.lst _)=>m | _=>.no)=m
 rw [g]
theorem fdk {i k:Int}(hk:0<k/\k<1073741824:=by decide):qw .FloorDiv 222 (.int k) h=.ok (.int (i/k)) h:=if_pos hk
theorem mdk {i k:Int}(hk:0<k:=by decide):qw .Mod 222 (.int k) h=.ok (.int (i%k)) h:=if_pos hk
theorem z3y {j:Int}(ha:e.ev cl ρ h=.ok (.int j) h')(hj:-1000000<=j/\j<=1000000):I.ev cl (.rng e p1 p2) ρ h=.ok ([],(List.range j.toNat).map λ k=>.int (k:Nat)) h':=bnd ha (if_pos hj)
theorem z8c {e':E}{t:Bool}(ha:e.evT cl ρ h=.ok false h')(hb:e'.evT cl ρ h'=.ok t h2):(E.or e e' .nil p).evT cl ρ h=.ok t h2:=bnd (bnd (jc ha) (bnd (jc hb) rfl)) rfl
theorem ju {tg:Tg}{ct:En->Hh->Res Bool}{ce:En->Hh->Res D}(hb:jq tg x ρ=some ρ')(hc:ct ρ' h=.ok true h')(he:ce ρ' h'=.ok d h2):ja tg ρ ct ce x h=.ok (some d) h2:=by
 show (match jq tg x ρ with | some ρ'=>(ct ρ' h).bind λ b h1=>if b then (ce ρ' h1).bind λ d h2=>.ok (some d) h2 else .ok none h1 | none=>.no)=_
 rw [hb];exact bnd hc (bnd he rfl)
theorem w6 {n:Nat}{xs:163}(he:e.ev cl ρ h=.ok (.loc n) h')(hr:rd h' n=some xs):I.ev cl (.seq e) ρ h=.ok ([(n,xs)],xs) h':=bnd he (by
 show (match rd h' n with | some xs=>Res.ok (([(n,xs)],xs):Ck×List D) h' | none=>.no)=_
 rw [hr])
theorem j6 {elt:E}{tg:Tg}{it:I}{ct:Es}{ns:XY}{cap:232}{sc:Scope}{q:Ck×List D}{xs:163}(hi:it.ev cl ρ h=.ok q h')(hl:q.2.length<=1000000)(hc:zZ q.1 (ja tg (jD cap ρ) (λ ρ' h2=>ct.evC cl ρ' h2) (λ ρ' h2=>elt.ev cl ρ' h2)) q.2 [] h'=.ok xs h2):E.ev cl (.ofL (.comp elt tg it ct ns cap sc p)) ρ h=.ok (.loc h2.length) (h2++[.lst xs]):=bnd (bnd hi ((if_pos hl).trans hc)) rfl
theorem qy {i:Int}(he:e.ev cl ρ h=.ok 222 h'):Eo.ev cl (.some e) ρ h=.ok (some i) h':=bnd he rfl
theorem Zf (n:Nat){s:Ss}{o:RS}(q:Ss.run cl (wG n s) ρ h=.nx ρ' h')(k:Ss.run cl (w5 n s) ρ' h'=o):Ss.run cl s ρ h=o:=by rw [BP cl n,q];exact k
theorem mlk {i j:Int}(hi:fits i=true)(hj:fits j=true):qw .Mult 222 (.int j) h=.ok (.int (i*j)) h:=if_pos ⟨hi,hj⟩
theorem j0 {o:RS}(hc:c.evT cl ρ h=.ok false h')(hb:b.run cl ρ h'=.nx ρ' h2)(k:Ss.run cl r ρ' h2=o):Ss.run cl (.cons (.iff c a b p) r) ρ h=o:=by
 rw [<- k];show wq (j2 ρ (c.evT cl ρ h) λ t h1=>if t then a.run cl ρ h1 else b.run cl ρ h1) 216=_;rw [hc];show wq (b.run cl ρ h') _=_;rw [hb];rfl
end
inductive Kd where
 | num (n:Int) | var (x:Str) | op (s:Str) | lett (x:Str) | ite | call (f:Str) (g:Option Str) | doo (d:Str) | handle (h:Str) | go | guard
inductive G where
 | nd (k:Kd) (ps:List G)
noncomputable def zag:Option Str->D
 | none=>.non
 | some g=>.str g
noncomputable def Kd.enc:Kd->List D->D
 | .num n,ps=>.tup (.str "num"::.int n::ps)
 | .var x,ps=>.tup (.str "var"::.str x::ps)
 | .op s,ps=>.tup (.str "op"::.str s::ps)
 | .lett x,ps=>.tup (.str "let"::.str x::ps)
 | .ite,ps=>.tup (.str "if"::ps)
 | .call f g,ps=>.tup [.str "call",.str f,zag g,.tup ps]
 | .doo d,ps=>.tup (.str "do"::.str d::ps)
 | .handle h,ps=>.tup (.str "handle"::.str h::ps)
 | .go,ps=>.tup (.str "go"::ps)
 | .guard,ps=>.tup (.str "guard"::ps)
mutual
noncomputable def G.d:G->D
 | .nd k ps=>k.enc (G.ds ps)
noncomputable def G.ds:List G->List D
 | []=>[]
 | g::r=>g.d::G.ds r
end
mutual
noncomputable def G.size:G->Nat
 | .nd _ ps=>1+G.sizes ps
noncomputable def G.sizes:List G->Nat
 | []=>0
 | g::r=>g.size+G.sizes r
end
noncomputable def Kd.ok (k:Kd)(n:Nat):Bool:=match k with
 | .num _ | .var _=>n==0
 | .op _ | .lett _ | .handle _ | .go | .guard=>n==2
 | .ite=>n==3
 | .doo _=>n==1
 | .call _ _=>true
mutual
noncomputable def G.ok:G->Bool
 | .nd k ps=>k.ok ps.length&&G.oks ps
noncomputable def G.oks:List G->Bool
 | []=>true
 | g::r=>g.ok&&G.oks r
end
theorem so:∀ x∈(["num","var","op","let","if","call","do","handle","go","guard","never","jump","once","many"]:List Str),PyData.strOk x=true:=by decide +kernel
theorem jA:PyData.strOk "call"=true:=so _ 133
theorem z3z:PyData.strOk "if"=true:=so _ 133
theorem BT:PyData.strOk "let"=true:=so _ 133
noncomputable def Kd.isGuard:Kd->Bool
 | .guard=>true
 | _=>false
end PI
namespace K46
open PySem L2 PI
abbrev _root_.PI.Es.c:E->Es->Es:=Es.cons
abbrev _root_.PI.Es.n:Es:=Es.nil
abbrev _root_.PI.Ss.c:S->Ss->Ss:=Ss.cons
abbrev _root_.PI.Ss.n:Ss:=Ss.nil
abbrev dF (x:Str)(p m:XY)(b:Ss):Df:=⟨x,p,p++m,b⟩
abbrev V (l a b:Nat):PySem.Pos:=⟨l,a,l,b⟩
noncomputable instance (n:Nat):OfNat PySem.Pos n:=⟨⟨n/100000,n/100%1000,n/100000,n/100%1000+n%100⟩⟩
noncomputable def wS:List (Str×Cv):=[("num",.int 2),("var",.int 2),("op",.int 2),("let",.int 2),("if",.int 1),("do",.int 2),("handle",.int 2),("go",.int 1),("guard",.int 1)]
noncomputable def ww:List Str:=["let","if","handle","guard"]
noncomputable def jG:List (Str×Cv):=[("op",.fn 20 "then_op"),("let",.fn 21 "then_let"),("if",.fn 22 "then_if"),("call",.fn 24 "then_call"),("do",.fn 26 "then_do"),("handle",.fn 25 "then_handle"),("go",.fn 28 "then_go"),("guard",.fn 23 "then_guard")]
noncomputable def zl:List (Str×Cn):=[("FIRST_PART",(.dic wS)),("GREATEST",(.int (1000000000000000000))),("FIRST_AHEAD",(.tup ww)),("THEN",(.dic jG)),("Walk",(.cls 50)),("Doing",(.cls 51)),("Standing",(.cls 52)),("Standing",(.isc "Standing" 145)),("Doing",(.isc "Doing" 145))]
def d_parts_of:Df:=dF "parts_of" ["tree"] [] (.c (.iff (.cmp .Eq (.sub (.var 0 1100704) (.int 0 1101201) 1100707) (.str "call" 1101806) 1100717) (.c (.ret (.sub (.var 0 1201504) (.int 3 1202001) 1201507) 1200814) .n) .n ⟨11,4,12,22⟩) (.c (.ret (.cut (.var 0 1301104) (.some (.gsub "FIRST_PART" wS (.sub (.var 0 1302704) (.int 0 1303201) 1302707) 1301610 1301619)) .none 1301620 1301126) 1300433) .n))
def yw:Df:=dF "stands_for" ["name","block"] [] (.c (.ret (.ite (.cmp .Eq (.var 0 1502304) (.sub (.var 1 1503105) (.int 0 1503701) 1503108) 1502316) (.sub (.var 1 1501105) (.int 1 1501701) 1501108) (.var 0 1504504) 1501138) 1500445) .n)
def e_items_by_name_1:E:=(.tup (.c (.sub (.var 0 1701804) (.int 1 1702301) 1701807) (.c (.var 0 1702704) .n)) 1701715)
def c_items_by_name_1:Es:=.nil
def w9:Tg:=(.one 0 1703704)
def yx:Scope:={ kind:=PySem.ScopeKind.function,names:=[147,(PySem.Str.ofString "item",PySem.NameKind.local)],isGenerator:=false,isCoroutine:=false,more:=[]:PySem.Scope }
def qf:Df:=dF "items_by_name" ["program"] [] (.c (.ret (.dicP (.ofL (.comp e_items_by_name_1 w9 (.seq (.var 0 1704507)) c_items_by_name_1 ["item"] [none] yx 1701637)) 1701104 1701143) 1700450) .n)
def qV:Df:=dF "is_function" ["name","items"] [] (.c (.ret (.and (.cmp .In (.var 0 2001104) (.var 1 2001905) 2001113) (.cmp .Eq (.sub (.sub (.var 1 2002905) (.var 0 2003504) 2002911) (.int 0 2004101) 2002914) (.str "def" 2004705) 2002923) .n 2001141) 2000448) .n)
def Jd:Df:=dF "begun_at" ["f","items"] [] (.c (.iff (.or (.un .Not (.call 3 (.var 0 2202301) (.c (.var 1 2202605) .n) 2201111 2201121) 2200725) (.cmp .IsNot (.sub (.sub (.var 1 2203605) (.var 0 2204201) 2203608) (.int 3 2204501) 2203611) (.non 2205504) 2203623) .n 2200752) (.c (.raw (.Raise (some (.Call (.Name "NoName" 2301406) [(.JoinedStr [(.FormattedValue (.Name "f" 2302401) (-1) none 2302303),(.Constant (.str " is no function without block") 0 2302629)] 2302135)] [] 2301443)) none 2300849)) .n) .n ⟨22,4,23,57⟩) (.c (.ret (.sub (.var 1 2401105) (.var 0 2401701) 2401108) 2400415) .n))
def qg:Df:=dF "check_numbers" ["function","numbers"] ["name"] (.c (.iff (.cmp .NotEq (.len (.var 1 2601107) 2600703 2600712) (.len (.sub (.var 0 2602708) (.int 2 2603601) 2602711) 2602303 2602316) 2600732) (.c (.set 2 (.sub (.var 0 2701508) (.int 1 2702401) 2701511) 2700804 2700818) (.c (.raw (.Raise (some (.Call (.Name "NoCount" 2801407) [(.JoinedStr [(.FormattedValue (.Name "name" 2802504) (-1) none 2802406),(.Constant (.str " is begun with too few or too many numbers") 0 2803042)] 2802251)] [] 2801460)) none 2800866)) .n)) .n ⟨26,4,28,74⟩) .n)
def d_reckoned:Df:=dF "reckoned" ["sign","a","b"] ["told"] (.c (.iff (.cmp .Eq (.var 0 3200704) (.str "<" 3201503) 3200711) (.c (.ret (.ite (.cmp .Lt (.var 1 3302001) (.var 2 3302401) 3302005) (.int 1 3301501) (.int 0 3303101) 3301517) 3300824) .n) .n ⟨32,4,33,32⟩) (.c (.iff (.cmp .Eq (.var 0 3400704) (.str "+" 3401503) 3400711) (.c (.set 3 (.bin .Add (.var 1 3501501) (.var 2 3501901) 3501505) 3500804 3500812) .n) (.c (.iff (.cmp .Eq (.var 0 3600904) (.str "-" 3601703) 3600911) (.c (.set 3 (.bin .Sub (.var 1 3701501) (.var 2 3701901) 3701505) 3700804 3700812) .n) (.c (.set 3 (.bin .Mult (.var 1 3901501) (.var 2 3901901) 3901505) 3900804 3900812) .n) ⟨36,4,39,20⟩) .n) ⟨34,4,39,20⟩) (.c (.ret (.ite (.cmp .Gt (.c1 .abs (.var 3 4002304) 4001903 4001909) (.gcon "GREATEST" (.int (1000000000000000000)) 4003108) 4001920) (.non 4001104) (.var 3 4004504) 4001138) 4000445) .n)))
def z2w:Tg:=(.one 6 7200806)
def z2x:Ss:=(.c (.iff (.cmp .Eq (.sub (.fld (.var 5 7301104) "end" 7301108) (.int 0 7302001) 7301111) (.str "asks" 7302606) 7301121) (.c (.ex (.call 12 (.var 5 7402104) (.c (.var 6 7402706) .n) 7401208 7401222) 7401222) .n) .n ⟨73,8,74,34⟩) .n)
def z40:Df:=dF "run" ["program","f","numbers","answers","turns"] ["walk","answer"] (.c (.set 5 (.call 8 (.var 0 7001907) (.c (.var 1 7002801) (.c (.var 2 7003107) (.c (.var 4 7004005) .n))) 7001107 7001135) 7000404 7000442) (.c (.ex (.call 13 (.var 5 7101204) .n 7100407 7100413) 7100413) (.c (.forr z2w (.seq (.var 3 7201807)) z2x ⟨72,4,74,34⟩) (.c (.ret (.tup (.c (.fld (.var 5 7501204) "end" 7501208) (.c (.fld (.var 5 7502204) "record" 7502211) (.c (.fld (.var 5 7503504) "used" 7503509) .n))) 7501134) 7500441) .n))))
def Wm:Df:=dF "readied" ["program","f","numbers","turns"] ["named","function","walk"] (.c (.set 4 (.call 2 (.var 0 7702607) .n 7701213 7701222) 7700405 7700430) (.c (.set 5 (.call 4 (.var 1 7802401) (.c (.var 4 7802705) .n) 7801508 7801518) 7800408 7800429) (.c (.ex (.call 5 (.var 5 7901808) (.c (.var 2 7902807) .n) 7900413 7900432) 7900432) (.c (.set 6 (.mk 50 "Walk" (.var 4 8001605) (.c (.call 9 (.var 0 8003907) .n 8002315 8002324) (.c (.var 3 8004905) .n)) 8001104 8001144) 8000404 8000451) (.c (.setF (.var 6 8100404) "doing" (.mk 51 "Doing" (.sub (.var 5 8102308) (.int 4 8103201) 8102311) (.c (.call 11 (.sub (.var 5 8104308) (.int 2 8105201) 8104311) (.c (.var 2 8105607) .n) 8103606 8103628) (.c (.tup (.c (.non 8106704) (.c (.non 8107304) .n)) 8106612) (.c (.non 8108004) .n))) 8101705 8101768) 8100410 8100481) (.c (.ret (.var 6 8201104) 8200411) .n))))))
def jK:Tg:=(.one 3 8701606)
def b_clauses_by_deed_2:Ss:=(.c (.putT (.var 1 8801607) (.c (.sub (.var 2 8802404) (.int 1 8802901) 8802407) (.c (.sub (.var 3 8803306) (.int 0 8804001) 8803309) .n)) (.var 3 8804606) 8802418 8801627 8801636) .n)
def jL:Tg:=(.one 2 8500804)
def b_clauses_by_deed_1:Ss:=(.c (.iff (.cmp .Eq (.sub (.var 2 8601104) (.int 0 8601601) 8601107) (.str "handler" 8602209) 8601120) (.c (.forr jK (.seq (.sub (.var 2 8702604) (.int 2 8703101) 8702607)) b_clauses_by_deed_2 ⟨87,12,88,52⟩) .n) .n ⟨86,8,88,52⟩) .n)
def wa:Df:=dF "clauses_by_deed" ["program"] ["clauses","item","clause"] (.c (.set 1 (.dic 8401402) 8400407 8400412) (.c (.forr jL (.seq (.var 0 8501607)) b_clauses_by_deed_1 ⟨85,4,88,52⟩) (.c (.ret (.var 1 8901107) 8900414) .n)))
def qA:Df:=dF "doing_copied" ["doing"] ["other"] (.c (.set 1 (.mk 51 "Doing" (.non 9101804) (.c (.fld (.var 0 9102405) "known" 9102411) (.c (.fld (.var 0 9103705) "block" 9103711) (.c (.fld (.var 0 9105005) "held" 9105010) .n))) 9101205 9101249) 9100405 9100457) (.c (.setF (.var 1 9200405) "tasks" (.fld (.var 0 9201805) "tasks" 9201811) 9200411 9200425) (.c (.setF (.var 1 9300405) "numbers" (.fld (.var 0 9302005) "numbers" 9302013) 9300413 9300429) (.c (.setF (.var 1 9400405) "went" (.fld (.var 0 9401705) "went" 9401710) 9400410 9400423) (.c (.ret (.var 1 9501105) 9500412) .n)))))
def Je:Tg:=(.one 3 9800804)
def b_linked_1:Ss:=(.c (.set 2 (.tup (.c (.var 3 9901704) (.c (.var 2 9902305) .n)) 9901613) 9900805 9900821) .n)
def Yj:Df:=dF "linked" ["names","numbers"] ["known","pair"] (.c (.set 2 (.non 9701204) 9700405 9700412) (.c (.forr Je (.zip (.var 0 9802005) (.var 1 9802707) 9801603 9801619) b_linked_1 ⟨98,4,99,29⟩) (.c (.ret (.var 2 10001105) 10000412) .n)))
def Jf:Df:=dF "answered" ["walk","answer"] [] (.c (.setF (.var 0 10200404) "end" (.non 10201504) 10200408 10200415) (.c (.ex (.call 17 (.fld (.var 0 10300804) "doing" 10300810) (.c (.var 1 10302006) .n) 10300403 10300423) 10300423) (.c (.ex (.call 13 (.var 0 10401204) .n 10400407 10400413) 10400413) .n)))
def w_walk_on_1:E:=(.cmp .Is (.fld (.var 0 10601004) "end" 10601008) (.non 10602204) 10601016)
def b_walk_on_1:Ss:=(.c (.set 1 (.fld (.var 0 10701604) "doing" 10701610) 10700805 10700818) (.c (.iff (.cmp .Is (.fld (.var 1 10801105) "tasks" 10801111) (.non 10802604) 10801119) (.c (.ex (.call 30 (.var 0 10901804) .n 10901205 10901211) 10901211) .n) (.c (.set 2 (.sub (.fld (.var 1 11101905) "tasks" 11101911) (.int 0 11103101) 11101914) 11101204 11101221) (.c (.setF (.var 1 11201205) "tasks" (.sub (.fld (.var 1 11202605) "tasks" 11202611) (.int 1 11203801) 11202614) 11201211 11201228) (.c (.ex (.call 14 (.var 0 11302004) (.c (.var 2 11302604) .n) 11301207 11301219) 11301219) .n))) ⟨108,8,113,31⟩) .n))
def Wn:Df:=dF "walk_on" ["walk"] ["doing","task"] (.c (.whil w_walk_on_1 b_walk_on_1 ⟨106,4,113,31⟩) .n)
def qB:Tg:=(.one 3 12801204)
def b_do_task_1:Ss:=(.c (.setF (.var 2 12901205) "tasks" (.tup (.c (.var 3 12902704) (.c (.fld (.var 2 12903305) "tasks" 12903311) .n)) 12902619) 12901211 12901233) .n)
def Z2:Df:=dF "do_task" ["walk","task"] ["doing","part"] (.c (.set 2 (.fld (.var 0 11501204) "doing" 11501210) 11500405 11500418) (.c (.iff (.cmp .Eq (.sub (.var 1 11600704) (.int 0 11601201) 11600707) (.str "num" 11601805) 11600716) (.c (.ex (.call 17 (.var 2 11701205) (.c (.sub (.var 1 11701904) (.int 1 11702401) 11701907) .n) 11700803 11700819) 11700819) .n) (.c (.iff (.cmp .Eq (.sub (.var 1 11800904) (.int 0 11801401) 11800907) (.str "var" 11802005) 11800916) (.c (.ex (.call 17 (.var 2 11901205) (.c (.call 16 (.sub (.var 1 11902904) (.int 1 11903401) 11902907) (.c (.fld (.var 2 11903805) "known" 11903811) .n) 11901909 11901931) .n) 11900803 11900843) 11900843) .n) (.c (.iff (.cmp .Eq (.sub (.var 1 12000904) (.int 0 12001401) 12000907) (.str "then" 12002006) 12000917) (.c (.ex (.callG "THEN" jG (.sub (.sub (.var 1 12101304) (.int 1 12101801) 12101307) (.int 0 12102101) 12101310) (.var 0 12102504) (.c (.sub (.var 1 12103104) (.int 1 12103601) 12103107) .n) 12100804 12100816 12100831) 12100831) .n) (.c (.iff (.cmp .Eq (.sub (.var 1 12200904) (.int 0 12201401) 12200907) (.str "drop" 12202006) 12200917) (.c (.setF (.var 2 12300805) "known" (.sub (.fld (.var 2 12302205) "known" 12302211) (.int 1 12303401) 12302214) 12300811 12300828) .n) (.c (.iff (.cmp .Eq (.sub (.var 1 12400904) (.int 0 12401401) 12400907) (.str "clean" 12402007) 12400918) (.c (.ex (.m1 .append (.fld (.var 0 12500804) "record" 12500811) (.var 1 12502704) 12500818 12500824) 12500824) .n) (.c (.setF (.var 2 12700805) "tasks" (.tup (.c (.tup (.c (.str "then" 12702406) (.c (.var 1 12703204) .n)) 12702314) (.c (.fld (.var 2 12703905) "tasks" 12703911) .n)) 12702229) 12700811 12700843) (.c (.forr qB (.rev (.call 15 (.var 1 12803804) .n 12802908 12802914) 12802008 12802024) b_do_task_1 ⟨128,8,129,45⟩) .n)) ⟨124,4,129,45⟩) .n) ⟨122,4,129,45⟩) .n) ⟨120,4,129,45⟩) .n) ⟨118,4,129,45⟩) .n) ⟨116,4,129,45⟩) .n))
def Jg:Df:=dF "ahead_of" ["tree"] ["parts"] (.c (.set 1 (.call 0 (.var 0 13102104) .n 13101208 13101214) 13100405 13100422) (.c (.ret (.ite (.cmp .In (.sub (.var 0 13202404) (.int 0 13202901) 13202407) (.gcon "FIRST_AHEAD" (.tup ww) 13203511) 13202422) (.cut (.var 1 13201105) .none (.some (.int 1 13201801)) 13201702 13201109) (.var 1 13205205) 13201146) 13200453) .n))
def w_looked_up_1:E:=(.cmp .NotEq (.sub (.sub (.var 1 13401005) (.int 0 13401601) 13401008) (.int 0 13401901) 13401011) (.var 0 13402504) 13401019)
def b_looked_up_1:Ss:=(.c (.set 1 (.sub (.var 1 13501605) (.int 1 13502201) 13501608) 13500805 13500816) .n)
def d_looked_up:Df:=dF "looked_up" ["name","known"] [] (.c (.whil w_looked_up_1 b_looked_up_1 ⟨134,4,135,24⟩) (.c (.ret (.sub (.sub (.var 1 13601105) (.int 0 13601701) 13601108) (.int 1 13602001) 13601111) 13600418) .n))
def d_put:Df:=dF "put" ["doing","number"] [] (.c (.setF (.var 0 13800405) "numbers" (.tup (.c (.var 1 13802106) (.c (.fld (.var 0 13802905) "numbers" 13802913) .n)) 13802023) 13800413 13800439) .n)
def w_taken_1:E:=(.cmp .Lt (.len (.var 2 14101407) 14101003 14101012) (.var 1 14102505) 14101020)
def b_taken_1:Ss:=(.c (.ex (.m1 .append (.var 2 14200807) (.sub (.fld (.var 0 14202305) "numbers" 14202313) (.int 0 14203701) 14202316) 14200814 14200832) 14200832) (.c (.setF (.var 0 14300805) "numbers" (.sub (.fld (.var 0 14302405) "numbers" 14302413) (.int 1 14303801) 14302416) 14300813 14300832) .n))
def d_taken:Df:=dF "taken" ["doing","count"] ["numbers"] (.c (.set 2 (.ofL (.disp .n 14001402)) 14000407 14000412) (.c (.whil w_taken_1 b_taken_1 ⟨141,4,143,40⟩) (.c (.ret (.listR (.var 2 14402507) 14401104 14401608 14401617 14401123) 14400430) .n)))
def Zg:Df:=dF "took_turn" ["walk"] [] (.c (.iff (.cmp .GtE (.fld (.var 0 14600704) "used" 14600709) (.fld (.var 0 14602004) "bound" 14602010) 14600723) (.c (.setF (.var 0 14700804) "end" (.tup (.c (.str "spent" 14702007) .n) 14701910) 14700808 14700821) (.c (.ret (.bl false 14801505) 14800812) .n)) .n ⟨146,4,148,20⟩) (.c (.setF (.var 0 14900404) "used" (.bin .Add (.fld (.var 0 14901604) "used" 14901609) (.int 1 14902801) 14901613) 14900409 14900425) (.c (.ret (.bl true 15001104) 15000411) .n)))
def Wo:Df:=dF "then_op" ["walk","tree"] ["pair","number"] (.c (.set 2 (.call 18 (.fld (.var 0 15201704) "doing" 15201710) (.c (.int 2 15202901) .n) 15201105 15201120) 15200404 15200427) (.c (.set 3 (.call 6 (.sub (.var 1 15302204) (.int 1 15302701) 15302207) (.c (.sub (.var 2 15303104) (.int 0 15303601) 15303107) (.c (.sub (.var 2 15304004) (.int 1 15304501) 15304007) .n)) 15301308 15301335) 15300406 15300444) (.c (.iff (.cmp .Is (.var 3 15400706) (.non 15401704) 15400714) (.c (.setF (.var 0 15500804) "end" (.tup (.c (.str "great" 15502007) .n) 15501910) 15500808 15500821) .n) (.c (.ex (.call 17 (.fld (.var 0 15701204) "doing" 15701210) (.c (.var 3 15702406) .n) 15700803 15700823) 15700823) .n) ⟨154,4,157,31⟩) .n)))
def Jh:Df:=dF "then_let" ["walk","tree"] ["doing"] (.c (.set 2 (.fld (.var 0 15901204) "doing" 15901210) 15900405 15900418) (.c (.setF (.var 2 16000405) "known" (.tup (.c (.tup (.c (.sub (.var 1 16002004) (.int 1 16002501) 16002007) (.c (.sub (.call 18 (.var 2 16003505) (.c (.int 1 16004201) .n) 16002905 16002915) (.int 0 16004501) 16002918) .n)) 16001929) (.c (.fld (.var 2 16005005) "known" 16005011) .n)) 16001844) 16000411 16000458) (.c (.setF (.var 2 16100405) "tasks" (.tup (.c (.sub (.var 1 16101904) (.int 3 16102401) 16101907) (.c (.tup (.c (.tup (.c (.str "drop" 16103006) .n) 16102909) (.c (.fld (.var 2 16104005) "tasks" 16104011) .n)) 16102824) .n)) 16101835) 16100411 16100449) .n)))
def Wp:Df:=dF "then_if" ["walk","tree"] ["doing","chosen"] (.c (.set 2 (.fld (.var 0 16301204) "doing" 16301210) 16300405 16300418) (.c (.set 3 (.ite (.cmp .Eq (.sub (.call 18 (.var 2 16403005) (.c (.int 1 16403701) .n) 16402405 16402415) (.int 0 16404001) 16402418) (.int 0 16404601) 16402423) (.sub (.var 1 16401304) (.int 3 16401801) 16401307) (.sub (.var 1 16405304) (.int 2 16405801) 16405307) 16401347) 16400406 16400456) (.c (.setF (.var 2 16500405) "tasks" (.tup (.c (.var 3 16501906) (.c (.fld (.var 2 16502705) "tasks" 16502711) .n)) 16501821) 16500411 16500435) .n)))
def wT:Df:=dF "then_guard" ["walk","tree"] ["doing","number"] (.c (.set 2 (.fld (.var 0 16701204) "doing" 16701210) 16700405 16700418) (.c (.set 3 (.sub (.call 18 (.var 2 16801905) (.c (.int 1 16802601) .n) 16801305 16801315) (.int 0 16802901) 16801318) 16800406 16800427) (.c (.ex (.m1 .append (.fld (.var 0 16900404) "record" 16900411) (.tup (.c (.str "guard" 16902407) (.c (.var 3 16903306) .n)) 16902317) 16900418 16900437) 16900437) (.c (.setF (.var 2 17000405) "tasks" (.tup (.c (.sub (.var 1 17001904) (.int 2 17002401) 17001907) (.c (.tup (.c (.tup (.c (.str "clean" 17003007) (.c (.var 3 17003906) .n)) 17002917) (.c (.fld (.var 2 17004805) "tasks" 17004811) .n)) 17002832) .n)) 17001843) 17000411 17000457) .n))))
def Zh:Df:=dF "then_call" ["walk","tree"] ["doing","numbers","function","block"] (.c (.set 2 (.fld (.var 0 17201204) "doing" 17201210) 17200405 17200418) (.c (.set 3 (.call 18 (.var 2 17302005) (.c (.len (.sub (.var 1 17303104) (.int 3 17303601) 17303107) 17302703 17302712) .n) 17301405 17301426) 17300407 17300436) (.c (.iff (.call 19 (.var 0 17401704) .n 17400709 17400715) (.c (.set 4 (.sub (.fld (.var 0 17501904) "named" 17501910) (.call 1 (.sub (.var 1 17504104) (.int 1 17504601) 17504107) (.c (.fld (.var 2 17505005) "block" 17505011) .n) 17503010 17503032) 17501944) 17500808 17500855) (.c (.set 5 (.tup (.c (.sub (.var 4 17601708) (.int 3 17602601) 17601711) (.c (.call 1 (.sub (.var 1 17604104) (.int 2 17604601) 17604107) (.c (.fld (.var 2 17605005) "block" 17605011) .n) 17603010 17603032) .n)) 17601647) 17600805 17600855) (.c (.ex (.m1 .append (.fld (.var 0 17700804) "left" 17700809) (.var 2 17702505) 17700816 17700823) 17700823) (.c (.setF (.var 0 17800804) "doing" (.mk 51 "Doing" (.sub (.var 4 17802708) (.int 4 17803601) 17802711) (.c (.call 11 (.sub (.var 4 17804708) (.int 2 17805601) 17804711) (.c (.var 3 17806007) .n) 17804006 17804028) (.c (.var 5 17807005) (.c (.non 17807704) .n))) 17802105 17802161) 17800810 17800874) .n)))) .n ⟨174,4,178,82⟩) .n)))
def qW:Df:=dF "then_handle" ["walk","tree"] ["doing","handler"] (.c (.set 2 (.fld (.var 0 18001204) "doing" 18001210) 18000405 18000418) (.c (.set 3 (.mk 52 "Standing" (.sub (.var 1 18102304) (.int 1 18102801) 18102307) (.c (.sub (.call 18 (.var 2 18103805) (.c (.int 1 18104501) .n) 18103205 18103215) (.int 0 18104801) 18103218) .n) 18101408 18101437) 18100407 18100447) (.c (.ex (.m1 .append (.fld (.var 0 18200404) "standing" 18200413) (.bin .Add (.len (.fld (.var 0 18202904) "left" 18202909) 18202503 18202514) (.int 1 18204201) 18202518) 18200420 18200440) 18200440) (.c (.ex (.m1 .extend (.fld (.var 0 18300404) "left" 18300409) (.ofL (.disp (.c (.var 2 18302205) (.c (.var 3 18302907) .n)) 18302116)) 18300416 18300434) 18300434) (.c (.setF (.var 0 18400404) "doing" (.mk 51 "Doing" (.sub (.var 1 18402304) (.int 3 18402801) 18402307) (.c (.fld (.var 2 18403205) "known" 18403211) (.c (.fld (.var 2 18404505) "block" 18404511) (.c (.non 18405804) .n))) 18401705 18401746) 18400410 18400459) .n)))))
def w_then_do_1:E:=(.and (.cmp .GtE (.var 4 19201002) (.int 0 19201601) 19201007) (.cmp .NotIn (.tup (.c (.fld (.sub (.fld (.var 0 19202304) "left" 19202309) (.sub (.fld (.var 0 19203304) "standing" 19203313) (.var 4 19204702) 19203317) 19202328) "name" 19202333) (.c (.var 2 19205804) .n)) 19202241) (.fld (.var 0 19207104) "clauses" 19207112) 19202261) .n 19201073)
def b_then_do_1:Ss:=(.c (.set 4 (.bin .Sub (.var 4 19301302) (.int 1 19301801) 19301306) 19300802 19300811) .n)
def Wq:Df:=dF "then_do" ["walk","tree"] ["deed","number","at","held","clause"] (.c (.set 2 (.sub (.var 1 18601104) (.int 1 18601601) 18601107) 18600404 18600414) (.c (.set 3 (.sub (.call 18 (.fld (.var 0 18701904) "doing" 18701910) (.c (.int 1 18703101) .n) 18701305 18701320) (.int 0 18703401) 18701323) 18700406 18700432) (.c (.iff (.un .Not (.call 19 (.var 0 18802104) .n 18801109 18801115) 18800719) (.c (.retN 18900806) .n) .n ⟨188,4,189,14⟩) (.c (.ex (.m1 .append (.fld (.var 0 19000404) "record" 19000411) (.tup (.c (.str "do" 19002404) (.c (.var 2 19003004) (.c (.var 3 19003606) .n))) 19002320) 19000418 19000440) 19000440) (.c (.set 4 (.bin .Sub (.len (.fld (.var 0 19101304) "standing" 19101313) 19100903 19100918) (.int 1 19103001) 19100922) 19100402 19100427) (.c (.whil w_then_do_1 b_then_do_1 ⟨192,4,193,19⟩) (.c (.iff (.cmp .Lt (.var 4 19400702) (.int 0 19401201) 19400706) (.c (.setF (.var 0 19500804) "end" (.tup (.c (.str "asks" 19502006) (.c (.var 2 19502804) (.c (.var 3 19503406) .n))) 19501922) 19500808 19500833) .n) (.c (.set 5 (.call 27 (.var 0 19702504) (.c (.var 4 19703102) .n) 19701509 19701519) 19700804 19700826) (.c (.set 6 (.sub (.fld (.var 0 19801704) "clauses" 19801712) (.tup (.c (.fld (.sub (.var 5 19803004) (.int 0 19803501) 19803007) "name" 19803012) (.c (.var 2 19804404) .n)) 19803018) 19801732) 19800806 19800841) (.c (.setF (.var 0 19900804) "doing" (.mk 51 "Doing" (.sub (.var 6 19902706) (.int 3 19903401) 19902709) (.c (.call 11 (.cut (.var 6 19904506) (.some (.int 1 19905201)) (.some (.int 3 19905401)) 19905203 19904511) (.c (.tup (.c (.var 3 19905906) (.c (.fld (.sub (.var 5 19906704) (.int 0 19907201) 19906707) "kept" 19906712) .n)) 19905822) .n) 19903806 19903843) (.c (.tup (.c (.non 19908404) (.c (.non 19909004) .n)) 19908312) (.c (.var 5 19909704) .n))) 19902105 19902181) 19900810 19900894) .n))) ⟨194,4,199,102⟩) .n)))))))
def qC:Df:=dF "taken_off" ["walk","at"] ["place","held"] (.c (.set 2 (.sub (.fld (.var 0 20101204) "standing" 20101213) (.var 1 20102602) 20101217) 20100405 20100425) (.c (.set 3 (.bin .Add (.cut (.fld (.var 0 20201104) "left" 20201109) (.some (.var 2 20202105)) .none 20202106 20201117) (.ofL (.disp (.c (.fld (.var 0 20203204) "doing" 20203210) .n) 20203112)) 20201132) 20200404 20200439) (.c (.setF (.var 0 20300404) "left" (.cut (.fld (.var 0 20301604) "left" 20301609) .none (.some (.var 2 20302705)) 20302606 20301617) 20300409 20300429) (.c (.setF (.var 0 20400404) "standing" (.cut (.fld (.var 0 20402004) "standing" 20402013) .none (.some (.var 1 20403502)) 20403403 20402018) 20400413 20400434) (.c (.ret (.var 3 20501104) 20500411) .n)))))
def Z3:Df:=dF "then_go" ["walk","tree"] ["doing","pair"] (.c (.set 2 (.fld (.var 0 20701204) "doing" 20701210) 20700405 20700418) (.c (.set 3 (.call 18 (.var 2 20801705) (.c (.int 2 20802401) .n) 20801105 20801115) 20800404 20800422) (.c (.iff (.call 19 (.var 0 20901704) .n 20900709 20900715) (.c (.setF (.var 2 21000805) "went" (.bl true 21002104) 21000810 21000817) (.c (.ex (.m1 .append (.fld (.var 0 21100804) "left" 21100809) (.var 2 21102505) 21100816 21100823) 21100823) (.c (.ex (.call 29 (.var 0 21201504) (.c (.fld (.var 2 21202105) "held" 21202110) (.c (.sub (.var 3 21203304) (.int 1 21203801) 21203307) .n)) 21200806 21200833) 21200833) (.c (.setF (.var 0 21300804) "doing" (.call 10 (.sub (.fld (.var 2 21303405) "held" 21303410) (.un .USub (.int 1 21304601) 21304502) 21303414) .n 21302112 21302128) 21300810 21300841) (.c (.ex (.call 17 (.fld (.var 0 21401204) "doing" 21401210) (.c (.sub (.var 3 21402404) (.int 0 21402901) 21402407) .n) 21400803 21400824) 21400824) .n))))) .n ⟨209,4,214,32⟩) .n)))
def e_put_on_1:E:=(.bin .Add (.var 2 21701402) (.var 0 21701905) 21701410)
def c_put_on_1:Es:=(.cons (.isC "Standing" 145 (.var 1 21707505) 21706410 21708208 21706427) .nil)
def Ji:Tg:=(.tup [(0,21702905),(1,21703605)] 21702912)
def UJ:Scope:={ kind:=PySem.ScopeKind.function,names:=[ 147,(PySem.Str.ofString "place",PySem.NameKind.local),(PySem.Str.ofString "piece",PySem.NameKind.local),(PySem.Str.ofString "isinstance",PySem.NameKind.globalImplicit),(PySem.Str.ofString "Standing",PySem.NameKind.globalImplicit),(PySem.Str.ofString "at",PySem.NameKind.free)],isGenerator:=false,isCoroutine:=false,more:=[]:PySem.Scope }
def Yk:Df:=dF "put_on" ["walk","held","kept"] ["at","places"] (.c (.set 3 (.len (.fld (.var 0 21601304) "left" 21601309) 21600903 21600914) 21600402 21600419) (.c (.set 4 (.ofL (.comp e_put_on_1 Ji (.enum (.var 1 21705504) 21704509 21704515) c_put_on_1 ["place","piece","at"] [none,none,some 3] UJ 21701379)) 21700406 21700488) (.c (.ex (.m1 .extend (.fld (.var 0 21800404) "standing" 21800413) (.var 4 21802506) 21800420 21800428) 21800428) (.c (.ex (.m1 .append (.fld (.var 0 21900404) "left" 21900409) (.mk 52 "Standing" (.fld (.sub (.var 1 21903004) (.int 0 21903501) 21903007) "name" 21903012) (.c (.var 2 21904404) .n) 21902108 21902128) 21900416 21900446) 21900446) (.c (.ex (.m1 .extend (.fld (.var 0 22000404) "left" 22000409) (.cut (.var 1 22002104) (.some (.int 1 22002601)) (.some (.un .USub (.int 1 22002901) 22002802)) 22002604 22002110) 22000416 22000428) 22000428) .n)))))
def d_leave:Df:=dF "leave" ["walk"] ["number","piece","end"] (.c (.set 1 (.sub (.fld (.fld (.var 0 22301304) "doing" 22301310) "numbers" 22301318) (.int 0 22303201) 22301321) 22300406 22300430) (.c (.iff (.call 31 (.fld (.var 0 22401904) "doing" 22401910) .n 22400711 22400723) (.c (.ex (.call 32 (.fld (.fld (.var 0 22501904) "doing" 22501910) "held" 22501915) (.c (.fld (.var 0 22503604) "record" 22503611) .n) 22500810 22500840) 22500840) .n) .n ⟨224,4,225,48⟩) (.c (.iff (.cmpN false (.fld (.var 0 22600704) "left" 22600709) 22602002 22600715) (.c (.setF (.var 0 22700804) "end" (.tup (.c (.str "done" 22702006) (.c (.var 1 22702806) .n)) 22701916) 22700808 22700827) (.c (.retN 22800806) .n)) .n ⟨226,4,228,14⟩) (.c (.set 2 (.m0 .pop (.fld (.var 0 22901204) "left" 22901209) 22901213 22901215) 22900405 22900423) (.c (.iff (.isC "Standing" 145 (.var 2 23001805) 23000710 23002508 23000727) (.c (.ex (.m0 .pop (.fld (.var 0 23100804) "standing" 23100813) 23100817 23100819) 23100819) (.c (.set 3 (.sub (.sub (.fld (.var 0 23201404) "named" 23201410) (.fld (.var 2 23202505) "name" 23202510) 23201422) (.int 3 23203701) 23201425) 23200803 23200831) (.c (.setF (.var 0 23300804) "doing" (.mk 51 "Doing" (.sub (.var 3 23302703) (.int 2 23303101) 23302706) (.c (.call 11 (.cut (.var 3 23304203) .none (.some (.int 2 23304701)) 23304602 23304207) (.c (.tup (.c (.var 1 23305206) (.c (.fld (.var 2 23306005) "kept" 23306010) .n)) 23305120) .n) 23303506 23303537) (.c (.tup (.c (.non 23307504) (.c (.non 23308104) .n)) 23307412) (.c (.non 23308804) .n))) 23302105 23302172) 23300810 23300885) .n))) (.c (.setF (.var 0 23500804) "doing" (.call 10 (.var 2 23503405) .n 23502112 23502119) 23500810 23500832) (.c (.ex (.call 17 (.fld (.var 0 23601204) "doing" 23601210) (.c (.var 1 23602406) .n) 23600803 23600823) 23600823) .n)) ⟨230,4,236,31⟩) .n)))))
def d_holds_alone:Df:=dF "holds_alone" ["doing"] [] (.c (.ret (.and (.cmp .IsNot (.fld (.var 0 23801105) "held" 23801110) (.non 23802904) 23801122) (.un .Not (.fld (.var 0 23804305) "went" 23804310) 23803914) .n 23801143) 23800450) .n)
def w_throw_away_1:E:=(.cmpN true (.var 2 24101007) 24102102 24101013)
def b_throw_away_1:Ss:=(.c (.set 3 (.m0 .pop (.var 2 24201607) 24201611 24201613) 24200805 24200821) (.c (.iff (.isC "Doing" 145 (.var 3 24302205) 24301110 24302905 24301124) (.c (.ex (.m1 .extend (.var 1 24401206) (.call 33 (.var 3 24403605) .n 24402609 24402616) 24401213 24401231) 24401231) (.c (.iff (.call 31 (.var 3 24502705) .n 24501511 24501518) (.c (.ex (.m1 .extend (.var 2 24601607) (.fld (.var 3 24603105) "held" 24603110) 24601614 24601626) 24601626) .n) .n ⟨245,12,246,42⟩) .n)) .n ⟨243,8,246,42⟩) .n))
def yy:Df:=dF "throw_away" ["held","record"] ["waiting","piece"] (.c (.set 2 (.listE (.var 0 24001904) 24001404 24001410) 24000407 24000420) (.c (.whil w_throw_away_1 b_throw_away_1 ⟨241,4,246,42⟩) .n))
def w_guards_of_1:E:=(.cmp .IsNot (.var 2 25001005) (.non 25002304) 25001017)
def b_guards_of_1:Ss:=(.c (.iff (.cmp .Eq (.sub (.sub (.var 2 25101105) (.int 0 25101701) 25101108) (.int 0 25102001) 25101111) (.str "clean" 25102607) 25101122) (.c (.ex (.m1 .append (.var 1 25201205) (.sub (.var 2 25202505) (.int 0 25203101) 25202508) 25201212 25201222) 25201222) .n) .n ⟨251,8,252,34⟩) (.c (.set 2 (.sub (.var 2 25301605) (.int 1 25302201) 25301608) 25300805 25300816) .n))
def Zi:Df:=dF "guards_of" ["doing"] ["found","tasks"] (.c (.set 1 (.ofL (.disp .n 24801202)) 24800405 24800410) (.c (.set 2 (.fld (.var 0 24901205) "tasks" 24901211) 24900405 24900419) (.c (.whil w_guards_of_1 b_guards_of_1 ⟨250,4,253,24⟩) (.c (.ret (.var 1 25401105) 25400412) .n))))
def qY:Df:=dF "_law_cell_at" ["_law_script","_law_k"] [] (.c (.iff (.cmp .Lt (.var 1 25700706) (.len (.var 0 25702011) 25701603 25701616) 25700725) (.c (.ret (.sub (.var 0 25801511) (.var 1 25802706) 25801519) 25800826) .n) .n ⟨257,4,258,34⟩) (.c (.ret (.int 0 25901101) 25900408) .n))
def Zj:Df:=dF "_law_whole" ["_law_found"] [] (.c (.ret (.and (.isi 0 (.var 0 26102210) 26101110 26103403 26101127) (.un .Not (.isi 1 (.var 0 26105910) 26104810 26107104 26104828) 26104432) .n 26101166) 26100473) .n)
def JH:Tg:=(.tup [(2,26500808),(3,26501810)] 26500820)
def JI:Ss:=(.c (.iff (.isi 2 (.var 3 26602210) 26601110 26603403 26601127) (.c (.iff (.un .Not (.isi 2 (.var 2 26703008) 26701910 26704003 26701925) 26701529) (.c (.ret (.bl false 26802305) 26801612) .n) .n ⟨267,12,268,28⟩) .n) (.c (.iff (.un .Not (.call 35 (.var 2 26902808) .n 26901710 26901720) 26901324) (.c (.ret (.bl false 27001905) 27001212) .n) .n ⟨269,8,270,24⟩) .n) ⟨266,8,270,24⟩) .n)
def Zk:Df:=dF "_law_alike" ["_law_found","_law_due_here"] ["_law_one","_law_other"] (.c (.iff (.or (.un .Not (.isi 3 (.var 0 26302210) 26301110 26303405 26301129) 26300733) (.cmp .NotEq (.len (.var 0 26304810) 26304403 26304415) (.len (.var 1 26306713) 26306303 26306318) 26304437) .n 26300774) (.c (.ret (.bl false 26401505) 26400812) .n) .n ⟨263,4,264,20⟩) (.c (.forr JH (.zip (.var 0 26503610) (.var 1 26504813) 26503203 26503230) JI ⟨265,4,270,24⟩) (.c (.ret (.cmp .Eq (.var 0 27101110) (.var 1 27102513) 27101127) 27100434) .n)))
def qZ:Tg:=(.tup [(4,27700808),(5,27701810)] 27700820)
def b_law_right_1:Ss:=(.c (.iff (.un .Not (.call 36 (.var 4 27802608) (.c (.var 5 27803610) .n) 27801510 27801532) 27801136) (.c (.ret (.bl false 27901905) 27901212) .n) .n ⟨278,8,279,24⟩) .n)
def Zl:Df:=dF "_law_right" ["_law_found","_law_end","_law_record","_law_used"] ["_law_one","_law_other"] (.c (.iff (.or (.un .Not (.isi 3 (.var 0 27302210) 27301110 27303405 27301129) 27300733) (.cmp .NotEq (.len (.var 0 27304810) 27304403 27304415) (.int 3 27306301) 27304420) .n 27300757) (.c (.ret (.bl false 27401505) 27400812) .n) .n ⟨273,4,274,20⟩) (.c (.iff (.or (.un .Not (.isi 4 (.sub (.var 0 27502210) (.int 1 27503301) 27502213) 27501110 27503704 27501131) 27500735) (.cmp .NotEq (.len (.sub (.var 0 27505010) (.int 1 27506101) 27505013) 27504603 27504618) (.len (.var 2 27507211) 27506803 27506816) 27504638) .n 27500777) (.c (.ret (.bl false 27601505) 27600812) .n) .n ⟨275,4,276,20⟩) (.c (.forr qZ (.zip (.sub (.var 0 27703610) (.int 1 27704701) 27703613) (.var 2 27705111) 27703203 27703231) b_law_right_1 ⟨277,4,279,24⟩) (.c (.ret (.and (.call 36 (.sub (.var 0 28002210) (.int 0 28003301) 28002213) (.c (.var 1 28003708) .n) 28001110 28001135) (.call 35 (.sub (.var 0 28006210) (.int 2 28007301) 28006213) .n 28005110 28005125) (.c (.cmp .Eq (.sub (.var 0 28008210) (.int 2 28009301) 28008213) (.var 3 28009909) 28008226) .n) 28001198) (V 280 4 109)) .n))))
def e_law_names_1:E:=(.cmp .In (.var 0 29601209) (.var 1 29602510) 29601223)
def c_law_names_1:Es:=.nil
def wx:Tg:=(.one 0 29604009)
def y0:Scope:={ kind:=PySem.ScopeKind.function,names:=[ 147,(PySem.Str.ofString "_law_name",PySem.NameKind.local),(PySem.Str.ofString "_law_words",PySem.NameKind.free)],isGenerator:=false,isCoroutine:=false,more:=[]:PySem.Scope }
def e_law_names_2:E:=(.sub (.var 2 29702710) (.bin .Mod (.bin .Add (.bin .FloorDiv (.var 1 29703909) (.int 64 29705202) 29703915) (.var 0 29705706) 29703924) (.int 21 29706702) 29703831) 29702743)
def c_law_names_2:Es:=.nil
def wy:Tg:=(.one 0 29707506)
def y4:Scope:={ kind:=PySem.ScopeKind.function,names:=[ 147,229,(PySem.Str.ofString "_law_cell",PySem.NameKind.free),(PySem.Str.ofString "_law_tells",PySem.NameKind.free)],isGenerator:=false,isCoroutine:=false,more:=[]:PySem.Scope }
def y6:Tg:=(.one 10 29001206)
def b_law_names_4:Ss:=(.c (.set 11 (.sub (.var 2 29102412) (.bin .Mod (.bin .Add (.bin .FloorDiv (.bin .FloorDiv (.var 0 29103809) (.int 64 29105102) 29103815) (.bin .Add (.var 10 29105806) (.int 1 29106701) 29105810) 29103831) (.bin .Mult (.int 5 29107201) (.var 10 29107606) 29107210) 29103844) (.int 26 29108602) 29103751) 29102465) 29101209 29101277) (.c (.iff (.cmp .Eq (.var 10 29201506) (.var 6 29202507) 29201517) (.c (.set 11 (.sub (.var 3 29302810) (.bin .Mod (.bin .Add (.bin .FloorDiv (.var 0 29304009) (.int 64 29305302) 29304015) (.var 8 29305806) 29304024) (.int 21 29306802) 29303931) 29302843) 29301609 29301655) .n) .n ⟨292,12,293,71⟩) (.c (.set 9 (.bin .Add (.var 9 29402409) (.var 11 29403609) 29402421) 29401209 29401233) .n)))
def y7:Tg:=(.one 8 28800806)
def b_law_names_3:Ss:=(.c (.set 9 (.str "" 28902002) 28900809 28900814) (.c (.forr y6 (.rng (.var 5 29002809) 29002205 29002216) b_law_names_4 ⟨290,8,294,45⟩) (.c (.ex (.m1 .append (.var 7 29500815) (.var 9 29503109) 29500822 29500833) 29500833) .n)))
def qD:Df:=dF "_law_names" ["_law_cell","_law_many"] ["_law_letters","_law_tells","_law_words","_law_size","_law_at","_law_names_here","_law_k","_law_name","_law_j","_law_sign"] (.c (.set 2 (.str "abcdefghijklmnopqrstuvwxyz" 28201928) 28200412 28200443) (.c (.set 3 (.str "bcdfghjklmnpqrstvwxyz" 28301723) 28300410 28300436) (.c (.set 4 (.ofL (.disp (.c (.str "def" 28401805) (.c (.str "handler" 28402509) (.c (.str "on" 28403604) (.c (.str "end" 28404205) (.c (.str "let" 28404905) (.c (.str "if" 28405604) (.c (.str "call" 28406206) (.c (.str "hand" 28407006) (.c (.str "do" 28407804) (.c (.str "handle" 28408408) (.c (.str "go" 28409404) (.c (.str "guard" 28410007) .n)))))))))))) 28401791)) 28400410 (V 284 4 108)) (.c (.set 5 (.bin .Add (.int 1 28501601) (.bin .Mod (.var 0 28502009) (.int 8 28503201) 28502013) 28501617) 28500409 28500429) (.c (.set 6 (.bin .Mod (.bin .FloorDiv (.var 0 28601409) (.int 8 28602701) 28601414) (.var 5 28603109) 28601426) 28600407 28600436) (.c (.set 7 (.ofL (.disp .n 28702202)) 28700415 28700420) (.c (.forr y7 (.rng (.var 1 28802409) 28801805 28801816) b_law_names_3 ⟨288,4,295,41⟩) (.c (.iff (.c1 .any (.ofL (.comp e_law_names_1 wx (.seq (.var 7 29605315)) c_law_names_1 ["_law_name","_law_words"] [none,some 4] y0 29601158)) 29600703 29600763) (.c (.set 7 (.ofL (.comp e_law_names_2 wy (.rng (.var 1 29709109) 29708505 29708516) c_law_names_2 ["_law_k","_law_cell","_law_tells"] [none,some 0,some 3] y4 29702676)) 29700815 29700894) .n) .n ⟨296,4,297,102⟩) (.c (.ret (.var 7 29801115) 29800422) .n)))))))))
def Jj:Df:=dF "_law_draw" ["_law_cell","_law_k"] [] (.c (.ret (.bin .Mod (.bin .Add (.bin .Add (.bin .Mult (.bin .Mult (.bin .Mod (.var 0 30001209) (.int 1000003 30002407) 30001219) (.bin .Add (.bin .Mult (.int 2 30003501) (.var 1 30003906) 30003510) (.int 1 30004801) 30003514) 30001238) (.int 48271 30005305) 30001246) (.bin .Mult (.int 7919 30006104) (.var 1 30006806) 30006113) 30001262) (.var 0 30007709) 30001274) (.int 2147483647 30009010) 30001189) 30000496) .n)
def e_law_numbers_1:E:=(.bin .Mod (.bin .Add (.bin .Mult (.call 39 (.var 1 30202309) (.c (.bin .Add (.var 2 30203410) (.var 0 30204706) 30203419) .n) 30201309 30201341) (.int 69621 30205705) 30201349) (.var 1 30206509) 30201361) (.bin .Pow (.int 10 30207802) (.int 17 30208402) 30207808) 30201274)
def c_law_numbers_1:Es:=.nil
def qh:Tg:=(.one 0 30209106)
def ZA:Scope:={ kind:=PySem.ScopeKind.function,names:=[ 147,229,(PySem.Str.ofString "_law_draw",PySem.NameKind.globalImplicit),(PySem.Str.ofString "_law_cell",PySem.NameKind.free),(PySem.Str.ofString "_law_start",PySem.NameKind.free)],isGenerator:=false,isCoroutine:=false,more:=[]:PySem.Scope }
def ya:Df:=dF "_law_numbers" ["_law_cell","_law_start","_law_many"] [] (.c (.ret (.ofL (.comp e_law_numbers_1 qh (.rng (.var 2 30210709) 30210105 30210116) c_law_numbers_1 ["_law_k","_law_cell","_law_start"] [none,some 0,some 1] ZA (V 302 11 118))) (V 302 4 118)) .n)
def wz:Tg:=(.one 3 30900806)
def b_law_level_1:Ss:=(.c (.put (.var 1 31000815) (.sub (.ofL (.disp (.c (.str "more" 31002506) (.c (.str "end" 31003305) (.c (.str "kept" 31004006) (.c (.str "first" 31004807) (.c (.str "second" 31005708) .n))))) 31002442)) (.var 3 31006706) 31002450) (.sub (.var 2 31007809) (.var 3 31008806) 31007817) 31000867 31000887) .n)
def Zm:Df:=dF "_law_level" ["_law_cell"] ["_law_level_here","_law_more","_law_k"] (.c (.set 1 (.dispD [("parts",30402307),("own",30407505)] (.c (.call 40 (.var 0 30404509) (.c (.int 0 30405601) (.c (.bin .Mod (.var 0 30405909) (.int 4 30407101) 30405913) .n)) 30403212 30403241) (.c (.call 40 (.var 0 30409509) (.c (.int 3 30410601) (.c (.bin .Mod (.bin .FloorDiv (.var 0 30410909) (.int 4 30412201) 30410914) (.int 4 30412601) 30410918) .n)) 30408212 30408246) .n)) (V 304 22 129)) 30400415 (V 304 4 129)) (.c (.put (.var 1 30500415) (.str "goes" 30502006) (.bin .Mod (.bin .FloorDiv (.var 0 30503009) (.int 16 30504302) 30503015) (.int 3 30504801) 30503019) 30500423 30500445) (.c (.put (.var 1 30600415) (.str "called" 30602008) (.cmp .Eq (.bin .Mod (.bin .FloorDiv (.var 0 30603209) (.int 48 30604502) 30603215) (.int 2 30605001) 30603219) (.int 1 30605501) 30603224) 30600425 30600452) (.c (.put (.var 1 30700415) (.str "early" 30702007) (.call 40 (.var 0 30704409) (.c (.int 6 30705501) (.c (.bin .Mod (.bin .FloorDiv (.var 0 30705809) (.int 96 30707102) 30705815) (.int 2 30707601) 30705819) .n)) 30703112 30703147) 30700424 30700474) (.c (.set 2 (.call 40 (.var 0 30802909) (.c (.int 7 30804001) (.c (.int 5 30804301) .n)) 30801612 30801629) 30800409 30800441) (.c (.forr wz (.rng (.int 5 30902401) 30901805 30901808) b_law_level_1 ⟨309,4,310,95⟩) (.c (.ret (.var 1 31101115) 31100422) .n)))))))
def qE:Tg:=(.one 2 31300811)
def b_law_guards_1:Ss:=(.c (.set 1 (.tup (.c (.str "guard" 31402107) (.c (.tup (.c (.str "num" 31403105) (.c (.var 2 31403811) .n)) 31403020) (.c (.var 1 31405209) .n))) 31402042) 31400809 31400854) .n)
def yz:Df:=dF "_law_guards" ["_law_numbers_here","_law_tree"] ["_law_number"] (.c (.forr qE (.rev (.var 0 31303217) 31302308 31302327) b_law_guards_1 ⟨313,4,314,62⟩) (.c (.ret (.var 1 31501109) 31500416) .n))
def d_law_clause_of:Df:=dF "_law_clause_of" ["_law_levels","_law_k","_law_deeds","_law_x","_law_s","_law_y"] ["_law_level_here","_law_number","_law_action","_law_body"] (.c (.set 6 (.sub (.var 0 31702211) (.var 1 31703406) 31702219) 31700415 31700437) (.c (.set 7 (.tup (.c (.str "var" 31801905) (.c (.var 3 31802606) .n)) 31801815) 31800411 31800429) (.c (.iff (.cmp .Gt (.sub (.var 6 31900715) (.str "goes" 31902306) 31900723) (.int 0 31903301) 31900727) (.c (.set 7 (.tup (.c (.str "var" 32002305) (.c (.var 5 32003006) .n)) 32002215) 32000811 32000829) .n) .n ⟨319,4,320,37⟩) (.c (.set 8 (.tup (.c (.str "op" 32101904) (.c (.str "+" 32102503) (.c (.var 7 32103011) (.c (.tup (.c (.str "num" 32104405) (.c (.sub (.var 6 32105115) (.str "more" 32106706) 32105123) .n)) 32104332) .n)))) 32101858) 32100411 32100472) (.c (.iff (.cmp .Lt (.bin .Add (.var 1 32200706) (.int 1 32201601) 32200710) (.len (.var 0 32202411) 32202003 32202016) 32200729) (.c (.set 8 (.tup (.c (.str "do" 32302304) (.c (.sub (.var 2 32302910) (.bin .Add (.var 1 32304006) (.int 1 32304901) 32304010) 32302922) (.c (.var 8 32305311) .n))) 32302243) 32300811 32300857) .n) .n ⟨322,4,323,65⟩) (.c (.set 9 (.call 42 (.sub (.var 6 32402815) (.str "own" 32404405) 32402822) (.c (.var 8 32405211) .n) 32401611 32401648) 32400409 32400460) (.c (.iff (.cmp .Gt (.sub (.var 6 32500715) (.str "goes" 32502306) 32500723) (.int 0 32503301) 32500727) (.c (.set 9 (.tup (.c (.str "let" 32602105) (.c (.var 5 32602806) (.c (.tup (.c (.str "go" 32603704) (.c (.tup (.c (.str "num" 32604405) (.c (.sub (.var 6 32605115) (.str "first" 32606707) 32605124) .n)) 32604333) (.c (.tup (.c (.str "var" 32607905) (.c (.var 4 32608606) .n)) 32607815) .n))) 32603658) (.c (.var 9 32609609) .n)))) 32602086) 32600809 32600898) .n) .n ⟨325,4,326,106⟩) (.c (.iff (.cmp .Gt (.sub (.var 6 32700715) (.str "goes" 32702306) 32700723) (.int 1 32703301) 32700727) (.c (.set 9 (.tup (.c (.str "let" 32802105) (.c (.var 5 32802806) (.c (.tup (.c (.str "go" 32803704) (.c (.tup (.c (.str "num" 32804405) (.c (.sub (.var 6 32805115) (.str "second" 32806708) 32805125) .n)) 32804334) (.c (.tup (.c (.str "num" 32808005) (.c (.sub (.var 6 32808715) (.str "kept" 32810306) 32808723) .n)) 32807932) .n))) 32803676) (.c (.var 9 32811409) .n)))) (V 328 20 124)) 32800809 (V 328 8 124)) .n) .n ⟨327,4,328,124⟩) (.c (.ret (.tup (.c (.sub (.var 2 32901210) (.var 1 32902306) 32901218) (.c (.var 3 32903206) (.c (.var 4 32904006) (.c (.var 9 32904809) .n)))) 32901147) 32900454) .n)))))))))
def qi:Tg:=(.one 9 33300806)
def b_law_handler_1:Ss:=(.c (.ex (.m1 .append (.var 8 33400812) (.tup (.c (.sub (.var 3 33402910) (.bin .Add (.int 6 33404001) (.var 9 33404406) 33404010) 33402922) (.c (.var 6 33405306) (.c (.var 5 33406106) (.c (.tup (.c (.str "go" 33407004) (.c (.tup (.c (.str "var" 33407705) (.c (.var 5 33408406) .n)) 33407615) (.c (.tup (.c (.str "var" 33409405) (.c (.var 6 33410106) .n)) 33409315) .n))) 33406940) .n)))) 33402882) 33400819 (V 334 8 111)) (V 334 8 111)) .n)
def wA:Df:=dF "_law_handler" ["_law_levels","_law_k","_law_name","_law_deeds","_law_variables"] ["_law_x","_law_s","_law_y","_law_clauses","_law_j","_law_at","_law_end"] (.c (.setT [(5,33100406),(6,33101206),(7,33102006)] (.var 4 33102914) 33100422 33100439) (.c (.set 8 (.ofL (.disp .n 33201902)) 33200412 33200417) (.c (.forr qi (.rng (.bin .Mod (.sub (.sub (.var 0 33302411) (.var 1 33303606) 33302419) (.str "kept" 33304406) 33302427) (.int 8 33305401) 33302431) 33301805 33301838) b_law_handler_1 ⟨333,4,334,111⟩) (.c (.set 10 (.bin .Mod (.sub (.sub (.var 0 33501411) (.var 1 33502606) 33501419) (.str "end" 33503405) 33501426) (.bin .Add (.len (.var 8 33504812) 33504403 33504417) (.int 1 33506401) 33504421) 33501452) 33500407 33500462) (.c (.set 8 (.bin .Add (.bin .Add (.cut (.var 8 33601912) .none (.some (.var 10 33603307)) 33603208 33601922) (.ofL (.disp (.c (.call 43 (.var 0 33606011) (.c (.var 1 33607306) (.c (.var 3 33608110) (.c (.var 5 33609306) (.c (.var 6 33610106) (.c (.var 7 33610906) .n))))) 33604514 33604571) .n) 33604473)) 33601998) (.cut (.var 8 33612012) (.some (.var 10 33613307)) .none 33613308 33612022) (V 336 19 142)) 33600412 (V 336 4 142)) (.c (.set 11 (.tup (.c (.var 7 33701606) (.c (.var 6 33702406) (.c (.tup (.c (.str "op" 33703304) (.c (.str "+" 33703903) (.c (.tup (.c (.str "num" 33704505) (.c (.sub (.sub (.var 0 33705211) (.var 1 33706406) 33705219) (.str "end" 33707205) 33705226) .n)) 33704435) (.c (.tup (.c (.str "var" 33708205) (.c (.var 7 33708906) .n)) 33708115) .n)))) 33703265) .n))) 33701583) 33700408 33700494) (.c (.ret (.tup (.c (.str "handler" 33801209) (.c (.var 2 33802309) (.c (.tupE (.var 8 33804012) 33803405 33803419) (.c (.var 11 33805508) .n)))) 33801153) 33800460) .n)))))))
def qj:Tg:=(.one 9 34401210)
def b_law_program_2:Ss:=(.c (.set 6 (.tup (.c (.str "let" 34502505) (.c (.sub (.var 3 34503214) (.int 0 34504701) 34503217) (.c (.tup (.c (.str "guard" 34505207) (.c (.tup (.c (.str "num" 34506205) (.c (.var 9 34506910) .n)) 34506119) (.c (.tup (.c (.str "num" 34508305) (.c (.int 3 34509001) .n)) 34508210) .n))) 34505142) (.c (.var 6 34509509) .n)))) 34502481) 34501209 34501293) .n)
def qk:Tg:=(.one 7 34200806)
def b_law_program_1:Ss:=(.c (.set 8 (.sub (.var 0 34302611) (.var 7 34303806) 34302619) 34300815 34300837) (.c (.forr qj (.seq (.sub (.var 8 34402615) (.str "early" 34404207) 34402624)) b_law_program_2 ⟨344,8,345,105⟩) (.c (.set 6 (.call 42 (.sub (.var 8 34603215) (.str "parts" 34604807) 34603224) (.c (.var 6 34605809) .n) 34602011 34602048) 34600809 34600860) (.c (.iff (.sub (.var 8 34701115) (.str "called" 34702708) 34701125) (.c (.ex (.m1 .append (.var 5 34801209) (.tup (.c (.str "def" 34803005) (.c (.sub (.var 1 34803710) (.var 7 34804806) 34803718) (.c (.tup .n 34805702) (.c (.non 34806104) (.c (.var 6 34806709) .n))))) 34802948) 34801216 34801266) 34801266) (.c (.set 6 (.tup (.c (.str "call" 34902506) (.c (.sub (.var 1 34903310) (.var 7 34904406) 34903318) (.c (.non 34905304) (.c (.tup .n 34905902) .n)))) 34902438) 34901209 34901250) .n)) .n ⟨347,8,349,62⟩) (.c (.ex (.m1 .append (.var 5 35000809) (.call 44 (.var 0 35003811) (.c (.var 7 35005106) (.c (.sub (.var 1 35005910) (.bin .Add (.int 6 35007001) (.var 7 35007406) 35007010) 35005922) (.c (.var 2 35008310) (.c (.var 3 35009514) .n)))) 35002512 35002585) 35000816 (V 350 8 111)) (V 350 8 111)) (.c (.set 6 (.tup (.c (.str "handle" 35102108) (.c (.sub (.var 1 35103110) (.bin .Add (.int 6 35104201) (.var 7 35104606) 35104210) 35103122) (.c (.tup (.c (.str "num" 35105605) (.c (.sub (.var 8 35106315) (.str "kept" 35107906) 35106323) .n)) 35105532) (.c (.var 6 35108909) .n)))) 35102079) 35100809 35100891) .n))))))
def yb:Df:=dF "_law_program" ["_law_levels","_law_items","_law_deeds","_law_variables","_law_number"] ["_law_some","_law_tree","_law_k","_law_level_here","_law_early"] (.c (.set 5 (.ofL (.disp .n 34001602)) 34000409 34000414) (.c (.set 6 (.tup (.c (.str "do" 34101704) (.c (.sub (.var 2 34102310) (.int 0 34103401) 34102313) (.c (.tup (.c (.str "num" 34103905) (.c (.var 4 34104611) .n)) 34103820) .n))) 34101643) 34100409 34100455) (.c (.forr qk (.rng (.len (.var 0 34202811) 34202403 34202416) 34201805 34201823) b_law_program_1 ⟨342,4,351,99⟩) (.c (.ex (.m1 .append (.var 5 35200409) (.tup (.c (.str "def" 35202205) (.c (.sub (.var 1 35202910) (.int 12 35204002) 35202914) (.c (.tup .n 35204502) (.c (.non 35204904) (.c (.tup (.c (.str "op" 35205604) (.c (.str "-" 35206203) (.c (.var 6 35206709) (.c (.tup (.c (.str "num" 35207905) (.c (.int 3 35208601) .n)) 35207810) .n)))) 35205534) .n))))) 35202169) 35200416 35200487) 35200487) (.c (.ret (.tupE (.var 5 35301709) 35301105 35301116) 35300423) .n)))))
def e_law_clean_1:E:=(.tup (.c (.str "clean" 35501307) (.c (.var 0 35502211) .n)) 35501222)
def c_law_clean_1:Es:=.nil
def yc:Tg:=(.one 0 35503911)
def JJ:Scope:={ kind:=PySem.ScopeKind.function,names:=[147,(PySem.Str.ofString "_law_number",PySem.NameKind.local)],isGenerator:=false,isCoroutine:=false,more:=[]:PySem.Scope }
def Zn:Df:=dF "_law_clean" ["_law_numbers_here"] [] (.c (.ret (.ofL (.comp e_law_clean_1 yc (.rev (.var 0 35506317) 35505408 35505427) c_law_clean_1 ["_law_number"] [none] JJ 35501171)) 35500478) .n)
def e_law_due_2:E:=(.tup (.c (.str "guard" 37404207) (.c (.var 0 37405108) .n)) 37404119)
def c_law_due_2:Es:=.nil
def Zo:Tg:=(.one 0 37406508)
def Yl:Scope:={ kind:=PySem.ScopeKind.function,names:=[147,(PySem.Str.ofString "_law_one",PySem.NameKind.local)],isGenerator:=false,isCoroutine:=false,more:=[]:PySem.Scope }
def Zp:Tg:=(.one 8 36901206)
def b_law_due_3:Ss:=(.c (.set 3 (.bin .Add (.bin .Add (.var 3 37002813) (.ofL (.disp (.c (.non 37004504) .n) 37004406)) 37002822) (.var 6 37005309) 37002834) 37001213 37001250) .n)
def Zq:Tg:=(.one 7 36500806)
def b_law_due_1:Ss:=(.c (.set 4 (.sub (.var 0 36602611) (.var 7 36603806) 36602619) 36600815 36600837) (.c (.set 6 (.bin .Add (.var 6 36702009) (.call 46 (.sub (.var 4 36704315) (.str "parts" 36705907) 36704324) .n 36703210 36703236) 36702048) 36700809 36700860) (.c (.set 3 (.bin .Add (.var 3 36802413) (.ofL (.disp (.c (.non 36804104) (.c (.tup (.c (.str "do" 36804804) (.c (.sub (.var 1 36805410) (.var 7 36806506) 36805418) (.c (.var 2 36807411) .n))) 36804739) .n)) 36804047)) 36802463) 36800813 36800879) (.c (.forr Zp (.rng (.sub (.var 4 36902815) (.str "goes" 36904406) 36902823) 36902205 36902230) b_law_due_3 ⟨369,8,370,62⟩) (.c (.iff (.cmp .Gt (.sub (.var 4 37101115) (.str "goes" 37102706) 37101123) (.int 0 37103701) 37101127) (.c (.set 2 (.bin .Add (.sub (.var 4 37202615) (.str "first" 37204207) 37202624) (.sub (.var 4 37205315) (.str "end" 37206905) 37205322) 37202649) 37201211 37201263) .n) .n ⟨371,8,372,75⟩) (.c (.set 2 (.bin .Add (.var 2 37302211) (.sub (.var 4 37303615) (.str "more" 37305206) 37303623) 37302237) 37300811 37300851) (.c (.set 3 (.bin .Add (.var 3 37402413) (.ofL (.comp e_law_due_2 Zo (.seq (.sub (.var 4 37407715) (.str "own" 37409305) 37407722)) c_law_due_2 ["_law_one"] [none] Yl 37404060)) 37402476) 37400813 37400892) (.c (.iff (.cmp .Gt (.sub (.var 4 37501115) (.str "goes" 37502706) 37501123) (.int 0 37503701) 37501127) (.c (.set 6 (.call 46 (.sub (.var 4 37603515) (.str "own" 37605105) 37603522) .n 37602410 37602434) 37601209 37601246) .n) (.c (.set 6 (.bin .Add (.call 46 (.sub (.var 4 37803515) (.str "own" 37805105) 37803522) .n 37802410 37802434) (.var 6 37806109) 37802446) 37801209 37801258) .n) ⟨375,8,378,70⟩) .n))))))))
def Zr:Tg:=(.one 5 36201210)
def b_law_due_5:Ss:=(.c (.set 3 (.bin .Add (.var 3 36302813) (.ofL (.disp (.c (.tup (.c (.str "guard" 36304607) (.c (.var 5 36305510) .n)) 36304521) (.c (.tup (.c (.str "clean" 36306907) (.c (.var 5 36307810) .n)) 36306821) .n)) 36304446)) 36302862) 36301213 36301278) .n)
def e_law_due_6:E:=(.tup (.c (.str "guard" 36104207) (.c (.var 0 36105108) .n)) 36104119)
def c_law_due_6:Es:=.nil
def Zs:Tg:=(.one 0 36106508)
def Ym:Scope:={ kind:=PySem.ScopeKind.function,names:=[147,(PySem.Str.ofString "_law_one",PySem.NameKind.local)],isGenerator:=false,isCoroutine:=false,more:=[]:PySem.Scope }
def Zt:Tg:=(.one 4 35800815)
def b_law_due_4:Ss:=(.c (.iff (.sub (.var 4 35901115) (.str "called" 35902708) 35901125) (.c (.ex (.m1 .append (.var 3 36001213) (.non 36003304) 36001220 36001226) 36001226) .n) .n ⟨359,8,360,38⟩) (.c (.set 3 (.bin .Add (.var 3 36102413) (.ofL (.comp e_law_due_6 Zs (.seq (.sub (.var 4 36107715) (.str "parts" 36109307) 36107724)) c_law_due_6 ["_law_one"] [none] Ym 36104062)) 36102478) 36100813 36100894) (.c (.forr Zr (.seq (.sub (.var 4 36202615) (.str "early" 36204207) 36202624)) b_law_due_5 ⟨362,8,363,90⟩) .n)))
def d_law_due:Df:=dF "_law_due" ["_law_levels","_law_deeds","_law_number"] ["_law_due_here","_law_level_here","_law_early","_law_held","_law_k","_law_j","_law_own"] (.c (.set 3 (.ofL (.disp .n 35702002)) 35700413 35700418) (.c (.forr Zt (.rev (.var 0 35803611) 35802708 35802721) b_law_due_4 ⟨358,4,363,90⟩) (.c (.set 6 (.ofL (.disp .n 36401602)) 36400409 36400414) (.c (.forr Zq (.rng (.len (.var 0 36502811) 36502403 36502416) 36501805 36501823) b_law_due_1 ⟨365,4,378,70⟩) (.c (.set 9 (.len (.sub (.sub (.var 0 37901911) (.un .USub (.int 1 37903201) 37903102) 37901915) (.str "own" 37903505) 37901922) 37901503 37901527) 37900408 37900438) (.c (.iff (.cmp .Gt (.sub (.sub (.var 0 38000711) (.un .USub (.int 1 38002001) 38001902) 38000715) (.str "goes" 38002306) 38000723) (.int 0 38003301) 38000727) (.c (.ret (.tup (.c (.bin .Add (.var 3 38101613) (.cut (.var 6 38103209) .none (.some (.var 9 38104308)) 38104209 38103220) 38101636) (.c (.bin .Sub (.var 2 38105411) (.int 3 38106801) 38105415) .n)) 38101555) 38100862) .n) .n ⟨380,4,381,70⟩) (.c (.ret (.tup (.c (.bin .Add (.var 3 38201213) (.var 6 38202809) 38201225) (.c (.bin .Sub (.var 2 38203911) (.int 3 38205301) 38203915) .n)) 38201144) 38200451) .n)))))))
def e_law_deep_1:E:=(.tup (.c (.str "clean" 39803407) (.c (.bin .Add (.var 0 39804306) (.int 1 39805201) 39804310) .n)) 39803321)
def c_law_deep_1:Es:=.nil
def yA:Tg:=(.one 0 39805906)
def Q6:Scope:={ kind:=PySem.ScopeKind.function,names:=[147,229],isGenerator:=false,isCoroutine:=false,more:=[]:PySem.Scope }
def yB:Tg:=(.one 14 39500806)
def b_law_deep_2:Ss:=(.c (.set 5 (.bin .Add (.var 5 39602211) (.var 14 39603606) 39602220) 39600811 39600834) (.c (.ex (.m1 .append (.var 13 39700811) (.tup (.c (.str "do" 39702804) (.c (.sub (.var 2 39703410) (.int 0 39704501) 39703413) (.c (.var 5 39704911) .n))) 39702734) 39700818 39700854) 39700854) .n))
def e_law_deep_3:E:=(.tup (.c (.str "guard" 39402007) (.c (.bin .Sub (.var 1 39402909) (.var 0 39404106) 39402918) .n)) 39401929)
def c_law_deep_3:Es:=.nil
def yC:Tg:=(.one 0 39405306)
def Q7:Scope:={ kind:=PySem.ScopeKind.function,names:=[ 147,229,(PySem.Str.ofString "_law_many",PySem.NameKind.free)],isGenerator:=false,isCoroutine:=false,more:=[]:PySem.Scope }
def yi:Df:=dF "_law_deep" ["_law_cell","_law_items","_law_deeds","_law_variables"] ["_law_many","_law_number","_law_x","_law_s","_law_y","_law_inner","_law_body","_law_again","_law_some","_law_record","_law_k","_law_found"] (.c (.set 4 (.sub (.ofL (.disp (.c (.bin .Mod (.bin .FloorDiv (.var 0 38401709) (.int 16 38403002) 38401715) (.int 10 38403502) 38401720) (.c (.bin .Add (.int 960 38403903) (.bin .Mod (.bin .FloorDiv (.var 0 38404509) (.int 16 38405802) 38404515) (.int 31 38406302) 38404520) 38403926) .n)) 38401650)) (.c1 .int (.cmp .Eq (.bin .Mod (.var 0 38407109) (.int 16 38408302) 38407114) (.int 5 38408901) 38407119) 38406703 38406724) 38401676) 38400409 38400488) (.c (.set 5 (.bin .Mod (.bin .FloorDiv (.var 0 38501809) (.int 16 38503102) 38501815) (.bin .Pow (.int 10 38503602) (.int 17 38504202) 38503608) 38501826) 38500411 38500440) (.c (.setT [(6,38600406),(7,38601206),(8,38602006)] (.var 3 38602914) 38600422 38600439) (.c (.set 9 (.tup (.c (.str "call" 38701806) (.c (.sub (.var 1 38702610) (.int 0 38703701) 38702613) (.c (.non 38704104) (.c (.tup (.c (.tup (.c (.str "op" 38704904) (.c (.str "-" 38705503) (.c (.tup (.c (.str "var" 38706105) (.c (.var 6 38706806) .n)) 38706015) (.c (.tup (.c (.str "num" 38707805) (.c (.int 1 38708501) .n)) 38707710) .n)))) 38704840) .n) 38704743) .n)))) 38701774) 38700410 38700487) (.c (.set 9 (.tup (.c (.str "handle" 38801808) (.c (.sub (.var 1 38802810) (.int 1 38803901) 38802813) (.c (.tup (.c (.str "var" 38804405) (.c (.var 6 38805106) .n)) 38804315) (.c (.tup (.c (.str "guard" 38806107) (.c (.tup (.c (.str "var" 38807105) (.c (.var 6 38807806) .n)) 38807015) (.c (.var 9 38808710) .n))) 38806038) .n)))) 38801782) 38800410 38800495) (.c (.set 10 (.tup (.c (.str "if" 38901704) (.c (.tup (.c (.str "var" 38902405) (.c (.var 6 38903106) .n)) 38902315) (.c (.var 9 38904010) (.c (.tup (.c (.str "do" 38905304) (.c (.sub (.var 2 38905910) (.int 0 38907001) 38905913) (.c (.tup (.c (.str "num" 38907505) (.c (.var 5 38908211) .n)) 38907420) .n))) 38905243) .n)))) 38901680) 38900409 38900492) (.c (.set 11 (.tup (.c (.str "op" 39001804) (.c (.str "+" 39002403) (.c (.tup (.c (.str "do" 39003004) (.c (.sub (.var 2 39003610) (.int 0 39004701) 39003613) (.c (.tup (.c (.str "op" 39005204) (.c (.str "+" 39005803) (.c (.tup (.c (.str "var" 39006405) (.c (.var 6 39007106) .n)) 39006315) (.c (.tup (.c (.str "var" 39008105) (.c (.var 7 39008806) .n)) 39008015) .n)))) 39005145) .n))) 39002968) (.c (.tup (.c (.str "num" 39010005) (.c (.int 1 39010701) .n)) 39009910) .n)))) 39001793) 39000410 (V 390 4 110)) (.c (.set 12 (.ofL (.disp (.c (.tup (.c (.str "def" 39101805) (.c (.sub (.var 1 39102510) (.int 0 39103601) 39102513) (.c (.tup (.c (.var 6 39104106) .n) 39104009) (.c (.non 39105104) (.c (.var 10 39105709) .n))))) 39101750) .n) 39101652)) 39100409 39100464) (.c (.ex (.m1 .append (.var 12 39200409) (.tup (.c (.str "handler" 39202209) (.c (.sub (.var 1 39203310) (.int 1 39204401) 39203313) (.c (.tup (.c (.tup (.c (.sub (.var 2 39205010) (.int 0 39206101) 39205013) (.c (.var 6 39206506) (.c (.var 7 39207306) (.c (.var 11 39208110) .n)))) 39204943) .n) 39204846) (.c (.tup (.c (.var 8 39209706) (.c (.var 7 39210506) (.c (.tup (.c (.str "num" 39211405) (.c (.int 3 39212101) .n)) 39211310) .n))) 39209628) .n)))) (V 392 21 125)) 39200416 (V 392 4 126)) (V 392 4 126)) (.c (.ex (.m1 .append (.var 12 39300409) (.tup (.c (.str "def" 39302205) (.c (.sub (.var 1 39302910) (.int 2 39304001) 39302913) (.c (.tup .n 39304402) (.c (.non 39304804) (.c (.tup (.c (.str "call" 39305506) (.c (.sub (.var 1 39306310) (.int 0 39307401) 39306313) (.c (.non 39307804) (.c (.tup (.c (.tup (.c (.str "num" 39308605) (.c (.var 4 39309309) .n)) 39308518) .n) 39308421) .n)))) 39305452) .n))))) 39302186) 39300416 (V 393 4 108)) (V 393 4 108)) (.c (.set 13 (.ofL (.comp e_law_deep_3 yC (.rng (.var 4 39406909) 39406305 39406316) c_law_deep_3 ["_law_k","_law_many"] [none,some 4] Q7 39401862)) 39400411 39400476) (.c (.forr yB (.rng (.bin .Add (.var 4 39502409) (.int 1 39503601) 39502413) 39501805 39501820) b_law_deep_2 ⟨395,4,397,62⟩) (.c (.set 13 (.bin .Add (.var 13 39801811) (.ofL (.comp e_law_deep_1 yA (.rng (.var 4 39807509) 39806905 39806916) c_law_deep_1 ["_law_k"] [none] Q6 39803254)) 39801868) 39800411 39800482) (.c (.set 15 (.call 7 (.tupE (.var 12 39902709) 39902105 39902116) (.c (.sub (.var 1 39903910) (.int 2 39905001) 39903913) (.c (.ofL (.disp .n 39905402)) (.c (.ofL (.disp (.c (.int 7 39905901) .n) 39905803)) (.c (.int 2000 39906304) .n)))) 39901703 39901751) 39900410 39900464) (.c (.ret (.call 37 (.var 15 40002210) (.c (.tup (.c (.str "done" 40003506) (.c (.bin .Add (.int 7 40004301) (.min2 (.var 4 40005109) (.int 1 40006201) 40004703 40004717) 40004321) .n)) 40003431) (.c (.var 13 40006711) (.c (.bin .Add (.bin .Mult (.int 2 40008001) (.var 4 40008409) 40008013) (.int 2 40009601) 40008017) .n))) 40001110 40001187) 40000494) .n)))))))))))))))
def VH:Tg:=(.one 14 41600810)
def b_law_1:Ss:=(.c (.iff (.and (.cmp .Is (.var 14 41701110) (.non 41702504) 41701118) (.cmp .Eq (.var 12 41703409) (.var 8 41704710) 41703423) .n 41701146) (.c (.set 13 (.tup (.c (.str "spent" 41802407) .n) 41802310) 41801208 41801221) (.c (.brk 41901205) .n)) .n ⟨417,8,419,17⟩) (.c (.iff (.cmp .Is (.var 14 42001110) (.non 42002504) 42001118) (.c (.set 12 (.bin .Add (.var 12 42102409) (.int 1 42103601) 42102413) 42101209 42101225) .n) (.c (.ex (.m1 .append (.var 11 42301211) (.var 14 42303110) 42301218 42301230) 42301230) .n) ⟨420,8,423,42⟩) .n))
def e_law_2:E:=(.call 41 (.call 34 (.var 1 40304311) (.c (.bin .Add (.int 4 40305601) (.var 0 40306006) 40305610) .n) 40303012 40303037) .n 40301910 40301949)
def c_law_2:Es:=.nil
def Q8:Tg:=(.one 0 40307306)
def VI:Scope:={ kind:=PySem.ScopeKind.function,names:=[ 147,229,(PySem.Str.ofString "_law_level",PySem.NameKind.globalImplicit),(PySem.Str.ofString "_law_cell_at",PySem.NameKind.globalImplicit),(PySem.Str.ofString "_law_script",PySem.NameKind.free)],isGenerator:=false,isCoroutine:=false,more:=[]:PySem.Scope }
def d_law:Df:=dF "law" ["_law_script"] ["_law_cell","_law_levels","_law_items","_law_deeds","_law_number","_law_variables","_law_program_here","_law_turns","_law_due_here","_law_value","_law_record","_law_used","_law_end","_law_entry"] (.c (.set 1 (.call 34 (.var 0 40202911) (.c (.int 0 40204201) .n) 40201612 40201628) 40200409 40200440) (.c (.set 2 (.ofL (.comp e_law_2 Q8 (.rng (.bin .Add (.int 1 40308901) (.bin .Mod (.var 1 40309309) (.int 6 40310501) 40309313) 40308917) 40308305 40308324) c_law_2 ["_law_k","_law_script"] [none,some 0] VI 40301890)) 40300411 (V 403 4 108)) (.c (.set 3 (.call 38 (.call 34 (.var 0 40404111) (.c (.int 1 40405401) .n) 40402812 40402828) (.c (.int 13 40405802) .n) 40401710 40401744) 40400410 40400457) (.c (.set 4 (.call 38 (.call 34 (.var 0 40504111) (.c (.int 2 40505401) .n) 40502812 40502828) (.c (.int 13 40505802) .n) 40501710 40501744) 40500410 40500457) (.c (.set 5 (.bin .Mod (.bin .FloorDiv (.var 1 40601809) (.int 6 40603101) 40601814) (.bin .Pow (.int 10 40603502) (.int 17 40604102) 40603508) 40601825) 40600411 40600439) (.c (.set 6 (.call 38 (.call 34 (.var 0 40704511) (.c (.int 3 40705801) .n) 40703212 40703228) (.c (.int 3 40706201) .n) 40702110 40702143) 40700414 40700460) (.c (.iff (.cmp .Eq (.bin .Mod (.bin .FloorDiv (.call 34 (.var 0 40802011) (.c (.int 10 40803302) .n) 40800712 40800729) (.int 64 40804002) 40800735) (.int 4 40804501) 40800739) (.int 1 40805001) 40800744) (.c (.ret (.call 48 (.call 34 (.var 0 40903811) (.c (.int 4 40905101) .n) 40902512 40902528) (.c (.var 3 40905510) (.c (.var 4 40906710) (.c (.var 6 40907914) .n))) 40901509 40901579) 40900886) .n) .n ⟨408,4,409,94⟩) (.c (.set 7 (.call 45 (.var 2 41003711) (.c (.var 3 41005010) (.c (.var 4 41006210) (.c (.var 6 41007414) (.c (.var 5 41009011) .n)))) 41002412 41002478) 41000417 41000498) (.c (.set 8 (.sub (.ofL (.disp (.c (.int 2000 41101804) (.c (.bin .Mod (.bin .FloorDiv (.call 34 (.var 0 41103711) (.c (.int 10 41105002) .n) 41102412 41102429) (.int 2 41105701) 41102434) (.int 32 41106102) 41102439) .n)) 41101747)) (.bin .Mod (.call 34 (.var 0 41107811) (.c (.int 10 41109102) .n) 41106512 41106529) (.int 2 41109701) 41106533) 41101782) 41100410 41100495) (.c (.setT [(9,41200413),(10,41201910)] (.call 47 (.var 2 41204111) (.c (.var 4 41205410) (.c (.var 5 41206611) .n)) 41203208 41203246) 41200425 41200474) (.c (.set 11 (.ofL (.disp .n 41301802)) 41300411 41300416) (.c (.set 12 (.int 0 41401601) 41400409 41400413) (.c (.set 13 (.tup (.c (.str "done" 41501606) (.c (.var 10 41502410) .n)) 41501520) 41500408 41500431) (.c (.forr VH (.seq (.var 9 41602213)) b_law_1 ⟨416,4,423,42⟩) (.c (.ret (.call 37 (.call 7 (.var 7 42402617) (.c (.sub (.var 3 42404510) (.int 12 42405602) 42404514) (.c (.ofL (.disp .n 42406102)) (.c (.ofL (.disp .n 42406502)) (.c (.var 8 42406910) .n)))) 42402203 42402258) (.c (.var 13 42408208) (.c (.var 11 42409211) (.c (.var 12 42410509) .n))) 42401110 (V 424 11 115)) (V 424 4 115)) .n)))))))))))))))
def qF:Df:=dF "__init__" ["self","named","clauses","bound"] [] (.c (.setF (.var 0 4600804) "named" (.var 1 4602105) 4600810 4600818) (.c (.setF (.var 0 4700804) "clauses" (.var 2 4702307) 4700812 4700822) (.c (.setF (.var 0 4800804) "bound" (.var 3 4802105) 4800810 4800818) (.c (.setF (.var 0 4900804) "doing" (.non 4902104) 4900810 4900817) (.c (.setF (.var 0 5000804) "left" (.ofL (.disp .n 5002002)) 5000809 5000814) (.c (.setF (.var 0 5100804) "standing" (.ofL (.disp .n 5102402)) 5100813 5100818) (.c (.setF (.var 0 5200804) "record" (.ofL (.disp .n 5202202)) 5200811 5200816) (.c (.setF (.var 0 5300804) "used" (.int 0 5302001) 5300809 5300813) (.c (.setF (.var 0 5400804) "end" (.non 5401904) 5400808 5400815) .n)))))))))
def wU:Df:=dF "__init__" ["self","body","known","block","held"] [] (.c (.setF (.var 0 5800804) "tasks" (.tup (.c (.var 1 5802204) (.c (.non 5802804) .n)) 5802112) 5800810 5800825) (.c (.setF (.var 0 5900804) "numbers" (.non 5902304) 5900812 5900819) (.c (.setF (.var 0 6000804) "known" (.var 2 6002105) 6000810 6000818) (.c (.setF (.var 0 6100804) "block" (.var 3 6102105) 6100810 6100818) (.c (.setF (.var 0 6200804) "held" (.var 4 6202004) 6200809 6200816) (.c (.setF (.var 0 6300804) "went" (.bl false 6302005) 6300809 6300817) .n))))))
def jH:Df:=dF "__init__" ["self","name","kept"] [] (.c (.setF (.var 0 6700804) "name" (.var 1 6702004) 6700809 6700816) (.c (.setF (.var 0 6800804) "kept" (.var 2 6802004) 6800809 6800816) .n))
noncomputable def defs:List Df:=[d_parts_of,yw,qf,qV,Jd,qg,d_reckoned,z40,Wm,wa,qA,Yj,Jf,Wn,Z2,Jg,d_looked_up,d_put,d_taken,Zg,Wo,Jh,Wp,wT,Zh,qW,Wq,qC,Z3,Yk,d_leave,d_holds_alone,yy,Zi,qY,Zj,Zk,Zl,qD,Jj,ya,Zm,yz,d_law_clause_of,wA,yb,Zn,d_law_due,yi,d_law,qF,wU,jH]
noncomputable def wk (nd cs:D)(b:D)(d l s r:Nat)(u:Int)(e:D):O:=.obj "Walk" [("named",nd),("clauses",cs),("bound",b),("doing",.loc d),("left",.loc l),("standing",.loc s),("record",.loc r),("used",.int u),("end",e)]
structure Bk where
 bl:D
 hd:D
 wt:Bool
noncomputable def dg (b:Bk)(ts ns kn:D):O:=.obj "Doing" [("tasks",ts),("numbers",ns),("known",kn),("block",b.bl),("held",b.hd),("went",.bl b.wt)]
noncomputable def M (h:Hh)(d:Nat)(bl:Bk)(ts ns kn:D)(J:Hh):Hh:=h.set d (dg bl ts ns kn)++J
section
variable {h:Hh}{w d:Nat}{ts vz ns vj kn qQ:D}{bl:Bk}{J J':Hh}{o:O}
theorem M_d (hd:d<h.length):149[d]?=some (dg bl ts ns kn):=by
 unfold M;rw [Y16 (by rw [Y0k];exact hd),Y0b hd]
theorem M_o (hw:h[w]?=some o)(ne:w≠d):149[w]?=some o:=by
 unfold M;rw [Y16 (by rw [Y0k];exact (Y0f.mp hw).1),Y1e (Ne.symm ne)];exact hw
theorem BU (hd:d<h.length):(M h d bl ts ns kn J).set d (dg bl vz vj qQ)=M h d bl vz vj qQ J:=by
 unfold M;rw [Y22 _ _ (by rw [Y0k];exact hd),List.set_set]
theorem BV:M h d bl ts ns kn J++J'=M h d bl ts ns kn (J++J'):=Y05 ..
end
theorem a0:atI (a::r) 0=some a:=by simp [atI,ixN]
theorem ixk (h:k<n):ixN n (k:Int)=some k:=by unfold ixN;simp;omega
theorem atk {k:Nat}(e:l[k]?=some a):atI l (k:Int)=some a:=by unfold atI;rw [ixk (Y0f.mp e).1];exact e
theorem a1:atI (a::b::r) 1=some b:=atk (k:=1) rfl
theorem a2:atI (a::b::c::r) 2=some c:=atk (k:=2) rfl
theorem a3:atI (a::b::c::d::r) 3=some d:=atk (k:=3) rfl
theorem a4:atI (a::b::c::d::e::r) 4=some e:=atk (k:=4) rfl
theorem rdl (g:h[n]?=some (.lst l)):PI.rd h n=some l:=by
 show (match h[n]? with | some (.lst xs)=>some xs | _=>none)=_
 rw [g]
theorem zg (g:h[n]?=some (.obj y fs))(q:fs.lookup f=some v):yW (.loc n) f h=.ok v h:=by
 show (match h[n]? with | some (.obj _ fs)=>(match fs.lookup f with | some d=>Res.ok d h | none=>.no) | _=>.no)=_
 rw [g];simp only [q]
theorem zP (g:h[n]?=some (.obj y fs))(hl:fs.length<1000)(q:Ye f z fs=fs'):qe (.loc n) f z h=some (h.set n (.obj y fs')):=by
 show (match h[n]? with | some (.obj y fs)=>if fs.length<1000 then some (h.set n (.obj y (Ye f z fs))) else none | _=>none)=_
 rw [g];simp only [hl,if_true,q]
section
variable {h:Hh}{w d:Nat}{ts vz ns vj kn qQ:D}{bl:Bk}{J J':Hh}{z:D}
theorem wb (hd:d<h.length):yW (.loc d) "tasks" 149=.ok ts 149:=zg (M_d hd) rfl
theorem Wr (hd:d<h.length):yW (.loc d) "numbers" 149=.ok ns 149:=zg (M_d hd) rfl
theorem Q9 (hd:d<h.length):yW (.loc d) "known" 149=.ok kn 149:=zg (M_d hd) rfl
theorem qO (hd:d<h.length):qe (.loc d) "tasks" z 149=some (M h d bl z ns kn J):=(zP (M_d hd) 133 rfl).trans (congrArg some (BU hd))
theorem Ws (hd:d<h.length):qe (.loc d) "numbers" z 149=some (M h d bl ts z kn J):=(zP (M_d hd) 133 rfl).trans (congrArg some (BU hd))
theorem VJ (hd:d<h.length):qe (.loc d) "known" z 149=some (M h d bl ts ns z J):=(zP (M_d hd) 133 rfl).trans (congrArg some (BU hd))
end
section
variable {cl:136}{h:Hh}{w d:Nat}{ts vz ns vj kn qQ:D}{bl:Bk}{J J':Hh}{v v1 v2:D}
theorem z8d (hd:d<h.length):d_put.run cl [.loc d,v] 149=.ok .non (M h d bl ts 155 kn J):=by
 simp [d_put,Df.run,jE,Jb,BO,zaf,wv,z8a,Es.ev,Wr hd,Ws hd,WW]
theorem VL:(M h d bl ts ns kn J).length=h.length+J.length:=by unfold M;rw [Y01,Y0k]
theorem jI:(M h d bl ts ns kn (J++[.lst xs]))[h.length+J.length]?=some 210:=by
 unfold M;rw [Y09 (by rw [Y0k];omega),Y0k,Y1s,Y09 176,Y0x];rfl
theorem z6g:(M h d bl ts ns kn (J++[.lst xs])).set (h.length+J.length) o=M h d bl ts ns kn (J++[o]):=by
 unfold M;rw [Y18 _ _ (by rw [Y0k];omega),Y0k,Y1s,Y18 _ _ 176,Y0x];rfl
theorem ZH (hd:d<h.length)(hl:l.length<1000):Ss.run cl b_taken_1 [some (.loc d),some c,some (.loc (h.length+J.length))] (M h d bl ts (.tup [v1,ns]) kn (J++[.lst l]))=.nx [some (.loc d),some c,some (.loc (h.length+J.length))] (M h d bl ts ns kn (J++[.lst (l++[v1])])):=by
 have:l.length<1000000:=by omega
 simp [b_taken_1,jE,Jb,yex,BO,vm1,wv,BM,O3,z8a,Wr hd,Ws hd,Q5 jI,m1D,jI,z6g,a0,a1,this]
theorem wV (l:163)(X:Hh)(x:Bool)(q:X[n]?=some (.lst l))(e:decide ((l.length:Int)<c)=x):E.evT cl w_taken_1 [some (.loc d),some (.int c),some (.loc n)] X=.ok x X:=by
 simp [w_taken_1,E.evT,z2u,zad,wv,qS,rdl q,e]
theorem Yn (hd:d<h.length):d_taken.run cl [.loc d,.int 1] (M h d bl ts (.tup [v1,ns]) kn J)=.ok (.loc (h.length+J.length+1)) (M h d bl ts ns kn (J++[.lst [v1],.lst [v1]])):=by
 have e2:whR (λ ρ' h'=>w_taken_1.evT cl ρ' h') (λ ρ' h'=>b_taken_1.run cl ρ' h') [some (.loc d),some (.int 1),some (.loc (h.length+J.length))] (M h d bl ts (.tup [v1,ns]) kn (J++[.lst []]))=.nx [some (.loc d),some (.int 1),some (.loc (h.length+J.length))] (M h d bl ts ns kn (J++[.lst [v1]])) :=
  (zX (wV _ _ true jI rfl) (ZH hd 123)).trans (jr (wV _ _ false jI rfl))
 simp [d_taken,Df.run,jE,Jb,z2v,vofL,L.ev,Es.ev,new,BV,VL,Zd,e2,BN,UH,lrD,wv,rdl jI,WW,Y25]
theorem BW (hd:d<h.length):d_taken.run cl [.loc d,.int 2] (M h d bl ts (.tup [v2,.tup [v1,ns]]) kn J)=.ok (.loc (h.length+J.length+1)) (M h d bl ts ns kn (J++[.lst [v2,v1],.lst [v1,v2]])):=by
 have e2:whR (λ ρ' h'=>w_taken_1.evT cl ρ' h') (λ ρ' h'=>b_taken_1.run cl ρ' h') [some (.loc d),some (.int 2),some (.loc (h.length+J.length))] (M h d bl ts (.tup [v2,.tup [v1,ns]]) kn (J++[.lst []]))=.nx [some (.loc d),some (.int 2),some (.loc (h.length+J.length))] (M h d bl ts ns kn (J++[.lst [v2,v1]])) :=
  (zX (wV _ _ true jI rfl) (ZH hd 123)).trans ((zX (wV _ _ true jI rfl) (ZH hd 133)).trans (jr (wV _ _ false jI rfl)))
 simp [d_taken,Df.run,jE,Jb,z2v,vofL,L.ev,Es.ev,new,BV,VL,Zd,e2,BN,UH,lrD,wv,rdl jI,WW,Y25]
end
theorem Yo:PyData.strOk "<"=true:=by decide +kernel
theorem Yp:PyData.strOk "+"=true:=by decide +kernel
theorem Yq:PyData.strOk "-"=true:=by decide +kernel
theorem BX:PyData.strOk "*"=true:=by decide +kernel
theorem qG:PyData.strOk "num"=true:=by decide +kernel
theorem yj:PyData.strOk "var"=true:=by decide +kernel
theorem we:PyData.strOk "then"=true:=by decide +kernel
theorem wf:PyData.strOk "drop"=true:=by decide +kernel
theorem zY:PyData.strOk "clean"=true:=by decide +kernel
theorem z41:PyData.strOk "op"=true:=by decide +kernel
noncomputable def qT (s:Str)(a b:Int):Option Int:=if s="<" then some (if a<b then 1 else 0) else
 if (if s="+" then a+b else if s="-" then a-b else a*b).natAbs<=1000000000000000000 then some (if s="+" then a+b else if s="-" then a-b else a*b) else none
noncomputable def opI:Option Int->D
 | none=>.non
 | some v=>.int v
noncomputable def Sg (s:Str):Prop:=s="+"\/s="-"\/s="*"\/s="<"
noncomputable def Sm (i:Int):Prop:=i.natAbs<=1000000000000000000
theorem Sm.fits (h:Sm i):fits i=true:=Q3 (by unfold Sm at h;omega)
theorem z6h:(decide ((if t<0 then -t else t) > 1000000000000000000))=!(decide (t.natAbs<=1000000000000000000)):=by
 by_cases q:t.natAbs<=1000000000000000000
 ·rw [decide_eq_true q,decide_eq_false];rfl
  split<;>omega
 ·rw [decide_eq_false q,decide_eq_true];rfl
  split<;>omega
theorem UK (hs:Sg s)(ha:Sm a)(hb:Sm b):d_reckoned.run cl [.str s,.int a,.int b] h=.ok (opI (qT s a b)) h:=by
 have fin:∀ t:Int,Ss.run cl (w5 2 d_reckoned.body) [some (.str s),some (.int a),some (.int b),some (.int t)] h=.rt (opI (if t.natAbs<=1000000000000000000 then some t else none)) h:=λ t=>by
  have e:Ss.run cl (w5 2 d_reckoned.body) [some (.str s),some (.int a),some (.int b),some (.int t)] h=.rt (if (decide ((if t<0 then -t else t) > 1000000000000000000))=true then .non else .int t) h:=by
   simp only [d_reckoned,w5,jE,Jb,BN,z88,z2u,vc1,wv,z89,zac,c1D];by_cases q:t<0
   ·simp [q]
    split<;>rfl
   ·simp [q]
    split<;>rfl
  rw [e,z6h];by_cases q:t.natAbs<=1000000000000000000
  ·simp [q,opI]
  ·simp [q,opI]
 rcases hs with rfl | rfl | rfl | rfl
 ·rw [show qT "+" a b=(if (a+b).natAbs<=1000000000000000000 then some (a+b) else none) from rfl];exact zi (zx (zj rfl rfl (eqS Yp Yo)) (zK (zj rfl rfl (eqS Yp Yp)) rfl (fin _)))
 ·rw [show qT "-" a b=(if (a-b).natAbs<=1000000000000000000 then some (a-b) else none) from rfl];exact zi (zx (zj rfl rfl (eqS Yq Yo)) (j0 (zj rfl rfl (eqS Yq Yp)) (zK (zj rfl rfl (eqS Yq Yq)) rfl rfl) (fin _)))
 ·rw [show qT "*" a b=(if (a*b).natAbs<=1000000000000000000 then some (a*b) else none) from rfl];exact zi (zx (zj rfl rfl (eqS BX Yo)) (j0 (zj rfl rfl (eqS BX Yp)) (j0 (zj rfl rfl (eqS BX Yq)) (zd (bnd rfl (bnd rfl (mlk ha.fits hb.fits))) rfl) rfl) (fin _)))
 ·rw [show qT "<" a b=some (if a<b then 1 else 0) from rfl];refine zi (Ze (zj rfl rfl (eqS Yo Yo)) (zr ?_));simp only [z88,z2u,wv,O3];by_cases q:a<b
  ·simp [q,opI]
  ·simp [q,opI]
noncomputable def knD:List (Str×Int)->D
 | []=>.non
 | p::r=>.tup [.tup [.str p.1,.int p.2],knD r]
structure KnOk (S:XY)(kn:List (Str×Int)):Prop where
 all:∀ x∈S,∃ v,kn.lookup x=some v
 sok:∀ x∈S,PyData.strOk x=true
 key:∀ p∈kn,PyData.strOk p.1=true
 sm:∀ p∈kn,Sm p.2
section
variable {cl:136}{h:Hh}
theorem BY (hx:PyData.strOk x=true)(kn:List (Str×Int))(hk:∀ p∈kn,PyData.strOk p.1=true)(e:kn.lookup x=some v):d_looked_up.run cl [.str x,knD kn] h=.ok 215 h:=by
 have L:∃ r,whR (λ ρ' h'=>w_looked_up_1.evT cl ρ' h') (λ ρ' h'=>b_looked_up_1.run cl ρ' h') [some 248,some (knD kn)] h=.nx [some 248,some (.tup [.tup [.str x,.int v],r])] h:=by
  induction kn with
  | nil=>cases e
  | cons p r ih =>
   obtain ⟨y,u⟩:=p;have hy:=hk (y,u) Y0c;have c:E.evT cl w_looked_up_1 [some 248,some (knD ((y,u)::r))] h=.ok (!(y==x)) h:=by
    simp [-cmp_ne,w_looked_up_1,E.evT,z2u,BM,wv,O3,knD,a0,neS hy hx]
   by_cases q:(x==y)=true
   ·have q':=eq_of_beq q;subst q';rw [List.lookup,beq_self_eq_true] at e;cases e;exact ⟨knD r,jr (by rw [c,beq_self_eq_true];rfl)⟩
   ·rw [List.lookup,Y3m.mpr q] at e;obtain ⟨r',ih⟩:=ih (λ p hp=>hk p (Y06 _ hp)) e;refine ⟨r',(zX (h1:=h) ?_ ?_).trans ih⟩
    ·have:(y==x)=false:=by rw [beq_eq_false_iff_ne];intro z;rw [z,beq_self_eq_true] at q;exact q rfl
     rw [c,this];rfl
    ·simp [b_looked_up_1,jE,Jb,z2v,BM,wv,O3,knD,a1]
 obtain ⟨r,L⟩:=L;simp [d_looked_up,Df.run,jE,Jb,Zd,L,BN,BM,wv,O3,a0,a1,WW]
end
section
variable {cl:136}{h:Hh}
theorem UL:d_parts_of.run cl [.tup [.str "op",s,a,b]] h=.ok (.tup [a,b]) h:=zi (zx (zj rfl rfl (eqS z41 jA)) (zr rfl))
theorem Yr:d_parts_of.run cl [.tup [.str "let",s,a,b]] h=.ok (.tup [a,b]) h:=zi (zx (zj rfl rfl (eqS BT jA)) (zr rfl))
theorem UM:d_parts_of.run cl [.tup [.str "if",a,b,c]] h=.ok (.tup [a,b,c]) h:=zi (zx (zj rfl rfl (eqS z3z jA)) (zr rfl))
theorem qH:PyData.strOk "guard"=true:=by decide +kernel
theorem Ys:PyData.strOk "do"=true:=by decide +kernel
theorem JK:d_parts_of.run cl [.tup [.str "guard",a,b]] h=.ok (.tup [a,b]) h:=zi (zx (zj rfl rfl (eqS qH jA)) (zr rfl))
theorem UN:d_parts_of.run cl [.tup [.str "do",s,a]] h=.ok (.tup [a]) h:=zi (zx (zj rfl rfl (eqS Ys jA)) (zr rfl))
theorem JL:callI defs (n+2) 15 [.tup [.str "guard",a,b]] h=.ok (.tup [a]) h:=by
 rw [zb rfl rfl];exact zi (zd (bnd rfl (bnd rfl ((zb rfl rfl).trans JK))) (zr rfl))
theorem UO:callI defs (n+2) 15 [.tup [.str "do",s,a]] h=.ok (.tup [a]) h:=by
 rw [zb rfl rfl];exact zi (zd (bnd rfl (bnd rfl ((zb rfl rfl).trans UN))) (zr rfl))
theorem UP:callI defs (n+2) 15 [.tup [.str "op",s,a,b]] h=.ok (.tup [a,b]) h:=by
 rw [zb rfl rfl];exact zi (zd (bnd rfl (bnd rfl ((zb rfl rfl).trans UL))) (zr rfl))
theorem Yt:callI defs (n+2) 15 [.tup [.str "let",s,a,b]] h=.ok (.tup [a]) h:=by
 rw [zb rfl rfl];exact zi (zd (bnd rfl (bnd rfl ((zb rfl rfl).trans Yr))) (zr rfl))
theorem UQ:callI defs (n+2) 15 [.tup [.str "if",a,b,c]] h=.ok (.tup [a]) h:=by
 rw [zb rfl rfl];exact zi (zd (bnd rfl (bnd rfl ((zb rfl rfl).trans UM))) (zr rfl))
theorem Wt:PyData.strOk "handle"=true:=by decide +kernel
theorem z42:PyData.strOk "go"=true:=by decide +kernel
theorem Jk:d_parts_of.run cl [.tup [.str "handle",s,a,b]] h=.ok (.tup [a,b]) h:=zi (zx (zj rfl rfl (eqS Wt jA)) (zr rfl))
theorem UR:d_parts_of.run cl [.tup [.str "go",a,b]] h=.ok (.tup [a,b]) h:=zi (zx (zj rfl rfl (eqS z42 jA)) (zr rfl))
theorem Jl:callI defs (n+2) 15 [.tup [.str "handle",s,a,b]] h=.ok (.tup [a]) h:=by
 rw [zb rfl rfl];exact zi (zd (bnd rfl (bnd rfl ((zb rfl rfl).trans Jk))) (zr rfl))
theorem US:callI defs (n+2) 15 [.tup [.str "go",a,b]] h=.ok (.tup [a,b]) h:=by
 rw [zb rfl rfl];exact zi (zd (bnd rfl (bnd rfl ((zb rfl rfl).trans UR))) (zr rfl))
end
section
variable {n:Nat}{h:Hh}{w d l s r:Nat}{u:Int}{nd cs bd e ts ns kn:D}{bl:Bk}{J:Hh}
structure At (h:Hh)(w d l s r:Nat)(u:Int)(nd cs bd e:D):Prop where
 hw:h[w]?=some (wk nd cs bd d l s r u e)
 ne:w≠d
 hd:d<h.length
theorem At.doing (a:196):yW (.loc w) "doing" 149=.ok (.loc d) 149:=zg (M_o a.hw a.ne) rfl
theorem At.endF (a:196):yW (.loc w) "end" 149=.ok e 149:=zg (M_o a.hw a.ne) rfl
theorem Wu (hd:d<h.length):callI defs (n+1) 17 [.loc d,v] 149=.ok .non (M h d bl ts 155 kn J):=(zb rfl rfl).trans (z8d hd)
theorem UT (a:196):callI defs (n+2) 14 [.loc w,.tup [.str "num",v]] 149=.ok .non (M h d bl ts 155 kn J):=by
 rw [zb rfl rfl];exact zH (zd (bnd rfl a.doing) (zK (zj rfl rfl (eqS qG qG)) (zU (bnd rfl (bnd rfl (Wu a.hd))) rfl) rfl))
theorem UU (a:196)(hx:PyData.strOk x=true)(hk:∀ p∈qQ,PyData.strOk p.1=true)(q:qQ.lookup x=some v):callI defs (n+2) 14 [.loc w,.tup [.str "var",.str x]] (M h d bl ts ns (knD qQ) J)=.ok .non (M h d bl ts (.tup [.int v,ns]) (knD qQ) J):=by
 rw [zb rfl rfl];refine zH (zd (bnd rfl a.doing) (j0 (zj rfl rfl (eqS yj qG)) (zK (zj rfl rfl (eqS yj yj)) (zU (bnd rfl (bnd (bnd (bnd rfl (bnd (bnd (bnd rfl (Q9 a.hd)) rfl) ((zb rfl rfl).trans (BY hx qQ hk q)))) rfl) (Wu a.hd))) rfl) rfl) rfl))
end
section
variable {cl:136}{ρ ρ':En}{h h' h2 h3:Hh}{e1 e2 oe ve:E}{r:Ss}{p p1:Pos}{x y z:D}{f:Str}
theorem zn (hv:ve.ev cl ρ h=.ok z h')(ho:oe.ev cl ρ h'=.ok x h2)(hp:qe x f z h2=some h3)(k:Ss.run cl r ρ h3=o):Ss.run cl (.cons (.setF oe f ve p1 p) r) ρ h=o:=by
 rw [<- k,jE,BO,hv,andS_ok,ho,andS_ok,hp];rfl
theorem jP (q1:e1.ev cl ρ h=.ok x h')(q2:e2.ev cl ρ h'=.ok y h2):E.ev cl (.tup (.cons e1 (.cons e2 .nil)) p) ρ h=.ok (.tup [x,y]) h2:=bnd (bnd q1 (bnd (bnd q2 rfl) rfl)) rfl
theorem zR {b:Ss}(k:b.run cl (ρ.set i (some x)) h=.nx ρ' h'):zJ (.one i p) (λ ρ' h'=>b.run cl ρ' h') x ρ h=.nx ρ' h':=k
theorem jV {f:D->En->Hh->RS}:jb [] f [] ρ h=.nx ρ h:=if_pos 144
theorem BZ (hc:c.ev cl ρ h=.ok (.bl t) h')(k:(if t then a.ev cl ρ h' else b.ev cl ρ h')=.ok x h2):E.ev cl (.ite c a b p) ρ h=.ok x h2:=bnd hc k
theorem jg (g:h[m]?=some (.lst l))(e:atI l i=some v):jf 221 222 h=.ok v h:=by
 have q:jf 221 222 h=match h[m]? with
  | some (.dK kvs)=>(match (wn 222).bind (λ k=>zF kvs k) with | some d=>Res.ok d h | none=>.no)
  | some (.dT kvs)=>(match (jC 222).bind (λ k=>zF kvs k) with | some d=>Res.ok d h | none=>.no)
  | some (.lst xs)=>(match atI xs i with | some d=>Res.ok d h | none=>.no)
  | _=>.no:=rfl
 rw [q,g];simp only [e]
end
section
variable {n:Nat}{h:Hh}{w d l s r:Nat}{u:Int}{nd cs bd e ts ns kn:D}{bl:Bk}{J:Hh}
theorem z2y (hd:d<h.length):zJ qB (λ ρ' h'=>b_do_task_1.run cl ρ' h') x [a,b,some (.loc d),c] 149=.nx [a,b,some (.loc d),some x] (M h d bl (.tup [x,ts]) ns kn J) :=
 zR (zn (jP rfl (bnd rfl (wb hd))) rfl (qO hd) rfl)
theorem Yu (q:196):callI defs (n+1) 14 [.loc w,.tup [.str "drop"]] (M h d bl ts ns (.tup [x,k]) J)=.ok .non (M h d bl ts ns k J):=by
 rw [zb rfl rfl];exact zH (zd (bnd rfl q.doing) (j0 (zj rfl rfl (eqS wf qG)) (j0 (zj rfl rfl (eqS wf yj)) (j0 (zj rfl rfl (eqS wf we)) (zK (zj rfl rfl (eqS wf wf)) (zn (bnd (bnd rfl (Q9 q.hd)) rfl) rfl (VJ q.hd) rfl) rfl) rfl) rfl) rfl))
theorem yD:(M h d bl ts ns kn (J++[o,.lst xs]))[h.length+J.length+1]?=some 210:=by
 unfold M;rw [Y09 (by rw [Y0k];omega),Y0k,Y25,Y1s,Y09 117,Y1s];rfl
theorem zD (q:196)(hk:fnOf jG (.str k)=some i)(c:callI defs n i [.loc w,.tup (.str k::R)] 149=.ok .non h2):callI defs (n+1) 14 [.loc w,.tup [.str "then",.tup (.str k::R)]] 149=.ok .non h2:=by
 rw [zb rfl rfl];refine zH (zd (bnd rfl q.doing) (j0 (zj rfl rfl (eqS we qG)) (j0 (zj rfl rfl (eqS we yj)) (zK (zj rfl rfl (eqS we we)) (zU (d:=.non) ?_ rfl) rfl) rfl) rfl));refine (z6b).trans (bnd (x:=.str k) (h:=M h d bl ts ns kn J) ?_ ?_)
 ·exact bnd rfl (bnd rfl (by show (match atI (D.str k::R) 0 with | some d=>Res.ok d _ | none=>.no)=_;rw [a0]))
 ·simp only [hk];exact bnd rfl (bnd rfl c)
theorem O7 (q:196)(hs:Sg x)(h1:Sm v1)(h2:Sm v2)(hv:qT x v1 v2=some v) :
  callI defs (n+2) 20 [.loc w,.tup [.str "op",.str x,a,b]] (M h d bl ts (.tup [.int v2,.tup [.int v1,ns]]) kn J)=.ok .non (M h d bl ts (.tup [.int v,ns]) kn (J++[.lst [.int v2,.int v1],.lst [.int v1,.int v2]])):=by
 rw [zb rfl rfl];refine zH (zd (bnd (bnd rfl q.doing) (bnd rfl ((zb rfl rfl).trans (BW q.hd)))) (zd (bnd rfl (bnd (bnd (bnd rfl (bnd rfl (jg yD a0))) (bnd (bnd (bnd rfl (bnd rfl (jg yD a1))) rfl) rfl)) ((zb rfl rfl).trans (by rw [UK hs h1 h2,hv];rfl)))) (j0 rfl (zU (bnd (bnd rfl q.doing) (bnd rfl (Wu q.hd))) rfl) rfl)))
theorem UV (q:196):callI defs (n+2) 21 [.loc w,.tup [.str "let",x,a,b]] (M h d bl ts 155 kn J)=.ok .non (M h d bl (.tup [b,.tup [.tup [.str "drop"],ts]]) ns (.tup [.tup [x,v],kn]) (J++[.lst [v],.lst [v]])):=by
 rw [zb rfl rfl];exact zH (zd (bnd rfl q.doing) (zn (jP (jP rfl (bnd (bnd rfl (bnd rfl ((zb rfl rfl).trans (Yn q.hd)))) (bnd rfl (jg yD a0)))) (bnd rfl (Q9 q.hd))) rfl (VJ q.hd) (zn (jP rfl (jP rfl (bnd rfl (wb q.hd)))) rfl (qO q.hd) rfl)))
theorem O8 (q:196):callI defs (n+2) 22 [.loc w,.tup [.str "if",a,b,c]] (M h d bl ts (.tup [.int v,ns]) kn J)=.ok .non (M h d bl (.tup [if v=0 then c else b,ts]) ns kn (J++[.lst [.int v],.lst [.int v]])):=by
 rw [zb rfl rfl];refine zH (zd (bnd rfl q.doing) (zd (BZ (bnd (bnd (bnd rfl (bnd rfl ((zb rfl rfl).trans (Yn q.hd)))) (bnd rfl (jg yD a0))) (bnd rfl eqI)) ?_) (zn (jP rfl (bnd rfl (wb q.hd))) rfl (qO q.hd) rfl)));by_cases z:v=0
 ·rw [if_pos z,z];rfl
 ·rw [if_neg z,show (v==0)=false from by simpa using z];rfl
end
noncomputable def Lp (n:Nat)(ρ:En)(H:Hh):RS:=whR (λ ρ' h'=>w_walk_on_1.evT (callI defs (n+3)) ρ' h') (λ ρ' h'=>b_walk_on_1.run (callI defs (n+3)) ρ' h') ρ H
section
variable {n:Nat}{h:Hh}{w d l s r:Nat}{u:Int}{nd cs bd ts ns kn:D}{bl:Bk}{J:Hh}
theorem turn (q:At h w d l s r u nd cs bd .non)(c:callI defs (n+3) 14 [.loc w,tk] 149=.ok .non h2) :
  Lp n [some (.loc w),x,y] (M h d bl (.tup [tk,ts]) ns kn J)=Lp n [some (.loc w),some (.loc d),some tk] h2 :=
 zX (zj (bnd rfl q.endF) rfl rfl) (zd (bnd rfl q.doing) (j0 (zj (bnd rfl (wb q.hd)) rfl rfl) (zd (bnd (bnd rfl (wb q.hd)) rfl) (zn (bnd (bnd rfl (wb q.hd)) rfl) rfl (qO q.hd) (zU (bnd rfl (bnd rfl c)) rfl))) rfl))
theorem z8e:fnOf jG (.str "op")=some 20:=by rfl
theorem z6i:fnOf jG (.str "let")=some 21:=by rfl
theorem z8f:fnOf jG (.str "if")=some 22:=by rfl
theorem z00:fnOf jG (.str "guard")=some 23:=by rfl
theorem VM:fnOf jG (.str "call")=some 24:=by rfl
theorem O9:fnOf jG (.str "handle")=some 25:=by rfl
theorem VN:fnOf jG (.str "do")=some 26:=by rfl
theorem z43:fnOf jG (.str "go")=some 28:=by rfl
end
section
variable {n:Nat}{H:Hh}{m:Nat}
theorem VO (g:H[m]?=some 210):∀ (ps:List (Str×Int)) (kn:List (Str×Int)) (c:Option D),∃ c',jb [(m,xs)] (zJ Je λ ρ' h'=>b_linked_1.run cl ρ' h') (ps.map λ p=>.tup [.str p.1,.int p.2]) [a,b,some (knD kn),c] H=.nx [a,b,some (knD (ps.reverse++kn)),c'] H
 | [],kn,c=>⟨c,if_pos (λ p hp=>by rw [Y07.mp hp];exact rdl g)⟩
 | p::r,kn,c=>by
  obtain ⟨c',e⟩:=VO g r (p::kn) (some (.tup [.str p.1,.int p.2]));refine ⟨c',zM (λ p hp=>by rw [Y07.mp hp];exact rdl g) (zR rfl) ?_⟩;rw [Y1d,Y05];exact e
theorem Yv {names:XY}(g:H[m]?=some (.lst (nums.map .int))):callI defs (n+1) 11 [.tup (names.map .str),.loc m] H=.ok (knD (names.zip nums).reverse) H:=by
 rw [zb rfl rfl];obtain ⟨c',e⟩:=VO g (names.zip nums) [] none;rw [Y0a] at e;have hz:Uw (.tup (names.map .str)) 221 H=.ok (([(m,nums.map .int)]:Ck),(names.zip nums).map λ p:Str×Int=>D.tup [.str p.1,.int p.2]) H:=by
  have q:Uw (.tup (names.map .str)) 221 H=(match (PI.rd H m).map (λ xs=>(([(m,xs)],xs):Ck×List D)) with | some q=>Res.ok ([]++q.1,((names.map D.str).zip q.2).map ZY) H | none=>.no):=rfl
  rw [q,rdl g];show Res.ok (([(m,nums.map .int)]:Ck),((names.map D.str).zip (nums.map D.int)).map ZY) H=_;rw [List.zip_map,Y1k];rfl
 exact zi (zd rfl (zL (izip.trans (bnd rfl (bnd rfl hz))) e rfl))
end
section
variable {n:Nat}{H R:Hh}{y f:Str}{fs fs':List (Str×D)}{z a b c e:D}
theorem jl (hl:fs.length<1000)(q:Ye f z fs=fs'):qe 151 f z (H++(.obj y fs::R))=some (H++(.obj y fs'::R)):=by
 refine (zP (y:=y) ?_ hl q).trans (congrArg some ?_)
 ·rw [Y09 176,Y0x];rfl
 ·rw [Y18 _ _ 176,Y0x];rfl
theorem z01:E.ev cl (.ofL (.disp .nil p)) ρ (H++(.obj y fs::R))=.ok (.loc (H.length+(R.length+1))) (H++(.obj y fs::(R++[.lst []]))):=by
 simp [vofL,ldisp,z6c,new]
theorem z8g:callI defs (n+1) 50 [.loc H.length,a,b,c] (H++[.obj "Walk" []])=.ok .non (H++[.obj "Walk" [("named",a),("clauses",b),("bound",c),("doing",.non),("left",.loc (H.length+1)),("standing",.loc (H.length+2)),("record",.loc 238),("used",.int 0),("end",.non)],.lst [],.lst [],.lst []]):=by
 rw [zb rfl rfl];exact zH (zn rfl rfl 181 (zn rfl rfl 181 (zn rfl rfl 181 (zn rfl rfl 181 (zn z01 rfl 181 (zn z01 rfl 181 (zn z01 rfl 181 (zn rfl rfl 181 (zn rfl rfl 181 rfl)))))))))
theorem Wv:callI defs (n+1) 51 [.loc H.length,a,b,c,e] (H++[.obj "Doing" []])=.ok .non (H++[dg ⟨c,e,false⟩ (.tup [a,.non]) .non b]):=by
 rw [zb rfl rfl];exact zH (zn rfl rfl 181 (zn rfl rfl 181 (zn rfl rfl 181 (zn rfl rfl 181 (zn rfl rfl 181 (zn rfl rfl 181 rfl))))))
end
noncomputable def qI (ns:D):List D->D
 | []=>ns
 | w::ws=>.tup [w,qI ns ws]
noncomputable def yE (ts:D):List D->D
 | []=>ts
 | a::r=>.tup [a,yE ts r]
theorem Ww:∀ ws:List D,yE ts (ws++[v])=yE (.tup [v,ts]) ws
 | []=>rfl
 | w::ws=>by rw [Y1g,yE,yE,Ww ws]
section
variable {cl:136}{h:Hh}{w d:Nat}{ts ns kn:D}{bl:Bk}{J:Hh}
theorem Jm (hd:d<h.length):∀ (ws l:163) (c:Nat),c=l.length+ws.length->c<1000->whR (λ ρ' h'=>w_taken_1.evT cl ρ' h') (λ ρ' h'=>b_taken_1.run cl ρ' h') [some (.loc d),some (.int c),some (.loc (h.length+J.length))] (M h d bl ts (qI ns ws) kn (J++[.lst l]))=.nx [some (.loc d),some (.int c),some (.loc (h.length+J.length))] (M h d bl ts ns kn (J++[.lst (l++ws)]))
 | [],l,c,hc,hl=>by rw [Y0a];exact jr (wV _ _ false jI (by rw [hc];simp))
 | w::ws,l,c,hc,hl=>by
  rw [Y03] at hc;have e:=Jm hd ws (l++[w]) c (by rw [Y01];simp;omega) hl;rw [Y05] at e;exact (zX (wV _ _ true jI (decide_eq_true 117)) (ZH hd 117)).trans e
theorem z02 (hd:d<h.length)(vs:163)(c:Nat)(hc:c=vs.length)(hl:c<1000):d_taken.run cl [.loc d,.int c] (M h d bl ts (qI ns vs.reverse) kn J)=.ok (.loc (h.length+J.length+1)) (M h d bl ts ns kn (J++[.lst vs.reverse,.lst vs])):=by
 have e2:=Jm (cl:=cl) (bl:=bl) (ts:=ts) (ns:=ns) (kn:=kn) (J:=J) hd vs.reverse [] c (by simp [hc]) hl;rw [Y19] at e2;simp [d_taken,Df.run,jE,Jb,z2v,vofL,L.ev,Es.ev,new,BV,VL,Zd,e2,BN,UH,lrD,wv,rdl jI,WW,Y25]
noncomputable def jM (g:Str)(bb:D)(as:163):D:=.tup [.str "call",.str g,bb,.tup as]
theorem Qa:d_parts_of.run cl [jM g bb as] h=.ok (.tup as) h:=zi (Ze (zj rfl rfl (eqS jA jA)) rfl)
theorem Qb:callI defs (n+2) 15 [jM g bb as] h=.ok (.tup as) h:=by
 rw [zb rfl rfl];exact zi (zd (bnd rfl (bnd rfl ((zb rfl rfl).trans Qa))) rfl)
theorem Wx (hd:d<h.length):∀ (xs:163) (ts:D) (c:Option D),∃ c',jb [] (zJ qB (λ ρ' h'=>b_do_task_1.run cl ρ' h')) xs [a,b,some (.loc d),c] 149=.nx [a,b,some (.loc d),c'] (M h d bl (yE ts xs.reverse) ns kn J)
 | [],ts,c=>⟨c,jV⟩
 | x::xs,ts,c=>by
  obtain ⟨c',e⟩:=Wx hd xs (.tup [x,ts]) (some x);refine ⟨c',?_⟩;rw [Y1d,Ww];exact zM 144 (z2y hd) e
end
section
variable {n:Nat}{h:Hh}{w d l s r:Nat}{u:Int}{nd cs bd e ts ns kn:D}{bl:Bk}{J:Hh}
theorem j7 {kd:Str}{R as:163} (q:196) (hk:PyData.strOk kd=true) (h1:(kd==("num":Str))=false) (h2:(kd==("var":Str))=false) (h3:(kd==("then":Str))=false) (h4:(kd==("drop":Str))=false) (h5:(kd==("clean":Str))=false) (ah:callI defs (n+2) 15 [.tup (.str kd::R)] (M h d bl (.tup [.tup [.str "then",.tup (.str kd::R)],ts]) ns kn J)=.ok (.tup as) (M h d bl (.tup [.tup [.str "then",.tup (.str kd::R)],ts]) ns kn J)):callI defs (n+3) 14 [.loc w,.tup (.str kd::R)] 149=.ok .non (M h d bl (yE (.tup [.tup [.str "then",.tup (.str kd::R)],ts]) as) ns kn J):=by
 rw [zb (d:=Z2) rfl rfl];obtain ⟨c',F⟩:=Wx (cl:=callI defs (n+2)) (bl:=bl) (ns:=ns) (kn:=kn) (J:=J) (a:=some (.loc w)) (b:=some (.tup (.str kd::R))) q.hd as.reverse (.tup [.tup [.str "then",.tup (.str kd::R)],ts]) none;rw [Y2s] at F;have t0:∀ {b:Option D}{X:Hh}{p1 p2 p3:Pos},E.ev (callI defs (n+2)) (.sub (.var 1 p1) (.int 0 p2) p3) [some (.loc w),some (.tup (.str kd::R)),some (.loc d),b] X=.ok (.str kd) X:=λ {b X p1 p2 p3}=>bnd rfl (bnd rfl (show (match atI (D.str kd::R) 0 with | some d=>Res.ok d X | none=>.no)=_ by rw [a0]))
 exact zH (zd (bnd rfl q.doing) (j0 (zj t0 rfl ((eqS hk qG).trans (by rw [h1]))) (j0 (zj t0 rfl ((eqS hk yj).trans (by rw [h2]))) (j0 (zj t0 rfl ((eqS hk we).trans (by rw [h3]))) (j0 (zj t0 rfl ((eqS hk wf).trans (by rw [h4]))) (j0 (zj t0 rfl ((eqS hk zY).trans (by rw [h5])))
  (zn (jP rfl (bnd rfl (wb q.hd))) rfl (qO q.hd) (zL (bnd (bnd rfl (bnd rfl ah)) rfl) F rfl)) rfl) rfl) rfl) rfl) rfl))
theorem Yw {g:Str}{bb:D}{as:163}(q:196):callI defs (n+3) 14 [.loc w,jM g bb as] 149=.ok .non (M h d bl (yE (.tup [.tup [.str "then",jM g bb as],ts]) as) ns kn J):=j7 q jA rfl rfl rfl rfl rfl Qb
end
theorem z6j (e:h[d]?=some (dg bl ts ns kn)):M h d bl ts ns kn []=h:=by
 unfold M;rw [Y0a];obtain ⟨hd,q⟩:=Y0f.mp e;rw [<- q,List.set_getElem_self]
inductive Pc where
 | dg (at_:Nat) (b:Bk) (ts ns kn:D) | sd (at_:Nat) (nm:Str) (kp:D)
noncomputable def Pc.at_:Pc->Nat
 | .dg a _ _ _ _=>a
 | .sd a _ _=>a
noncomputable def sdO (x:Str)(k:D):O:=.obj "Standing" [("name",.str x),("kept",k)]
noncomputable def Pc.o:Pc->O
 | .dg _ b ts ns kn=>K46.dg b ts ns kn
 | .sd _ x k=>sdO x k
noncomputable def pl:Nat->List Pc->List D
 | _,[]=>[]
 | k,.sd _ _ _::r=>.int (k:Nat)::pl (k+1) r
 | k,.dg _ _ _ _ _::r=>pl (k+1) r
theorem wB:∀ (a b:List Pc) (k:Nat),pl k (a++b)=pl k a++pl (k+a.length) b
 | [],b,k=>rfl
 | .sd _ _ _::r,b,k=>by rw [Y1g,pl,pl,wB r b (k+1),Y03,Y1g,Y25 k 1,Y3o 1]
 | .dg _ _ _ _ _::r,b,k=>by rw [Y1g,pl,pl,wB r b (k+1),Y03,Y25 k 1,Y3o 1]
abbrev lf (pcs:List Pc):List D:=pcs.reverse.map λ p=>.loc p.at_
abbrev sg (pcs:List Pc):List D:=pl 0 pcs.reverse
structure St (H0 H:Hh)(w d l s r m c:Nat)(bd:Int)(kvs:237)(co:O)(u:Int)(e:D)(b:Bk)(ts ns kn:D)(rc:163)(pcs:List Pc):Prop where
 hw:H[w]?=some (wk 221 (.loc c) (.int bd) d l s r u e)
 hd:H[d]?=some (dg b ts ns kn)
 hl:H[l]?=some 223
 hs:H[s]?=some (.lst (sg pcs))
 hr:H[r]?=some (.lst rc)
 hm:H[m]?=some (.dK kvs)
 hc:H[c]?=some co
 wd:w≠d
 wl:w≠l
 ws:w≠s
 wr:w≠r
 wm:w≠m
 wc:w≠c
 dl:d≠l
 ds:d≠s
 dr:d≠r
 dm:d≠m
 dc:d≠c
 lr:l≠r
 ls:l≠s
 lm:l≠m
 lc:l≠c
 rs:r≠s
 rm:r≠m
 rcc:r≠c
 sm:s≠m
 sc:s≠c
 fs:∀ p∈pcs,H[p.at_]?=some p.o/\p.at_≠w/\p.at_≠l/\p.at_≠d/\p.at_≠r/\p.at_≠s
 old:∀ (i:Nat) (o:O),H0[i]?=some o->H[i]?=some o
 ow:H0.length<=w
 ol:H0.length<=l
 od:H0.length<=d
 ore:H0.length<=r
 os:H0.length<=s
noncomputable def Kp (w d l s r:Nat)(H H':Hh):Prop:=∀ (i:Nat) (o:O),i≠w->i≠d->i≠l->i≠s->i≠r->H[i]?=some o->H'[i]?=some o
theorem zk {H:Hh}(e:H[i]?=some o):i<H.length:=(Y0f.mp e).1
theorem nl {X:Hh}(h:X[i]?=some o):i≠X.length:=Y0m (zk h)
theorem ln {X:Hh}(h:X[i]?=some o):X.length≠i:=Y1y (zk h)
theorem jx {X:Hh}(h:X[i]?=some o)(q:X.length<=w):i≠w:=Y0m (Y0p (zk h) q)
theorem na {a i j:Nat}(h:i≠j):a+i≠a+j:=λ e=>h (Nat.add_left_cancel e)
theorem zc {H:Hh}(ne:i≠j)(e:H[i]?=some o):(H.set j o')[i]?=some o:=by rw [Y1e (Ne.symm ne)];exact e
theorem za {A B:Hh}{i:Nat}(e:A[i]?=some o):(A++B)[i]?=some o:=by rw [Y16 (zk e)];exact e
section
variable {n:Nat}{H0 H:Hh}{w d l s r m c:Nat}{bd:Int}{kvs:237}{co:O}{u:Int}{b:Bk}{ts ns kn vz vj qQ e e':D}{rc:163}{pcs:List Pc}{J:Hh}{x y:Option D}
theorem St.at (q:152):At H w d l s r u 221 (.loc c) (.int bd) e:=⟨q.hw,q.wd,zk q.hd⟩
theorem St.self (q:152):M H d b ts ns kn []=H:=z6j q.hd
theorem St.M (q:152):St H0 (M H d b vz vj qQ J) w d l s r m c bd kvs co u e b vz vj qQ rc pcs :=
 ⟨M_o q.hw q.wd,M_d (zk q.hd),M_o q.hl (Ne.symm q.dl),M_o q.hs (Ne.symm q.ds),M_o q.hr (Ne.symm q.dr),M_o q.hm (Ne.symm q.dm),M_o q.hc (Ne.symm q.dc),q.wd,q.wl,q.ws,q.wr,q.wm,q.wc,q.dl,q.ds,q.dr,q.dm,q.dc,q.lr,q.ls,q.lm,q.lc,q.rs,q.rm,q.rcc,q.sm,q.sc,
  λ f hf=>⟨M_o (q.fs f hf).1 (q.fs f hf).2.2.2.1,(q.fs f hf).2⟩,λ i o ho=>M_o (q.old i o ho) (jx ho q.od),q.ow,q.ol,q.od,q.ore,q.os⟩
theorem Kp.M:Kp w d l s r H (M H d b vz vj qQ J):=λ i o _ n2 _ _ _ h=>M_o h n2
theorem St.setW (q:152)(v:Int)(e':D):St H0 (H.set w (wk 221 (.loc c) (.int bd) d l s r v e')) w d l s r m c bd kvs co v e' b ts ns kn rc pcs :=
 ⟨Y0b (zk q.hw),zc (Ne.symm q.wd) q.hd,zc (Ne.symm q.wl) q.hl,zc (Ne.symm q.ws) q.hs,zc (Ne.symm q.wr) q.hr,zc (Ne.symm q.wm) q.hm,zc (Ne.symm q.wc) q.hc,q.wd,q.wl,q.ws,q.wr,q.wm,q.wc,q.dl,q.ds,q.dr,q.dm,q.dc,q.lr,q.ls,q.lm,q.lc,q.rs,q.rm,q.rcc,q.sm,q.sc,
  λ f hf=>⟨zc (q.fs f hf).2.1 (q.fs f hf).1,(q.fs f hf).2⟩,λ i o ho=>zc (jx ho q.ow) (q.old i o ho),q.ow,q.ol,q.od,q.ore,q.os⟩
theorem St.setR (q:152)(vq:163):St H0 (H.set r (.lst vq)) w d l s r m c bd kvs co u e b ts ns kn vq pcs :=
 ⟨zc q.wr q.hw,zc q.dr q.hd,zc q.lr q.hl,zc (Ne.symm q.rs) q.hs,Y0b (zk q.hr),zc (Ne.symm q.rm) q.hm,zc (Ne.symm q.rcc) q.hc,q.wd,q.wl,q.ws,q.wr,q.wm,q.wc,q.dl,q.ds,q.dr,q.dm,q.dc,q.lr,q.ls,q.lm,q.lc,q.rs,q.rm,q.rcc,q.sm,q.sc,
  λ f hf=>⟨zc (q.fs f hf).2.2.2.2.1 (q.fs f hf).1,(q.fs f hf).2⟩,λ i o ho=>zc (jx ho q.ore) (q.old i o ho),q.ow,q.ol,q.od,q.ore,q.os⟩
theorem St.under {vy:List Pc}(q:152)(hf:∀ p∈vy,(H++B)[p.at_]?=some p.o/\p.at_≠w/\p.at_≠l/\p.at_≠r/\p.at_≠s) :
  St H0 ((((H++B).set s (.lst (sg vy))).set l (.lst (lf vy))++[dg b' t vj k]).set w (wk 221 (.loc c) (.int bd) (H++B).length l s r u e)) w (H++B).length l s r m c bd kvs co u e b' t vj k rc vy:=by
 have E:((((H++B).set s (.lst (sg vy))).set l (.lst (lf vy)))++[dg b' t vj k]).length=(H++B).length+1:=by simp
 have low:∀ (i:Nat) (o:O),(H++B)[i]?=some o->i≠l->i≠w->i≠s->((((H++B).set s (.lst (sg vy))).set l (.lst (lf vy))++[dg b' t vj k]).set w (wk 221 (.loc c) (.int bd) (H++B).length l s r u e))[i]?=some o:=λ i o e n1 n2 n3=>zc n2 (za (zc n1 (zc n3 e)));refine ⟨Y0b (by rw [E];exact Y2z (zk (za q.hw))),zc (ln (za q.hw)) ?_,zc (Ne.symm q.wl) (za (Y0b (by rw [Y0k];exact zk (za q.hl)))),zc (Ne.symm q.ws) (za (zc (Ne.symm q.ls) (Y0b (zk (za q.hs))))),low _ _ (za q.hr) (Ne.symm q.lr) (Ne.symm q.wr) q.rs,low _ _ (za q.hm) (Ne.symm q.lm) (Ne.symm q.wm) (Ne.symm q.sm),low _ _ (za q.hc) (Ne.symm q.lc) (Ne.symm q.wc) (Ne.symm q.sc),nl (za q.hw),q.wl,q.ws,q.wr,q.wm,q.wc,ln (za q.hl),ln (za q.hs),ln (za q.hr),ln (za q.hm),ln (za q.hc),q.lr,q.ls,q.lm,q.lc,q.rs,q.rm,q.rcc,q.sm,q.sc,λ p hp=>?_,λ i o ho=>?_,q.ow,q.ol,Y1z (Y29 q.ow (zk (za q.hw))),q.ore,q.os⟩
 ·rw [Y09 (by rw [Y0k,Y0k];exact Y04 _),Y0k,Y0k,Y0x];rfl
 ·obtain ⟨a,b,c,d,e⟩:=hf p hp;exact ⟨low _ _ a c b e,b,c,nl a,d,e⟩
 ·exact low _ _ (za (q.old i o ho)) (jx ho q.ol) (jx ho q.ow) (jx ho q.os)
theorem append_at (ho:oe.ev cl ρ X=.ok (.loc n) X1)(g1:X1[n]?=some 210)(ha:ae.ev cl ρ X1=.ok v X2)(g:X2[n]?=some 210)(hl:xs.length<1000000) :
  E.ev cl (.m1 .append oe ae p1 p) ρ X=.ok .non (X2.set n (.lst (xs++[v]))):=by
 rw [vm1];refine bnd ho ?_;rw [Q5 g1];refine bnd ha ?_;simp [m1D,g,hl]
theorem jT (ho:oe.ev cl ρ X=.ok (.loc n) X1)(g1:X1[n]?=some 210)(ha:ae.ev cl ρ X1=.ok (.loc k) X2)(g:X2[n]?=some 210)(gk:X2[k]?=some (.lst ys))(hl:xs.length+ys.length<=1000000)(hk:k≠n) :
  E.ev cl (.m1 .extend oe ae p1 p) ρ X=.ok .non (X2.set n (.lst (xs++ys))):=by
 rw [vm1];refine bnd ho ?_;rw [Q5 g1];refine bnd ha ?_;simp [m1D,g,gk,hl,hk]
theorem z44:callI defs (n+1) 52 [.loc H.length,.str z,a] (H++[.obj "Standing" []])=.ok .non (H++[sdO z a]):=by
 rw [zb rfl rfl];exact zH (zn rfl rfl 181 (zn rfl rfl 181 rfl))
theorem jQ (q:St H0 H w d l s r m c bd kvs co u e b ts (qI ns vs.reverse) kn rc pcs){k:Nat}(hl:k=vs.length)(hs:k<1000) :
  ∃ X1,callI defs (n+1) 18 [.loc d,.int k] H=.ok (.loc (H.length+1)) X1/\St H0 X1 w d l s r m c bd kvs co u e b ts ns kn rc pcs/\X1[H.length+1]?=some (.lst vs)/\Kp w d l s r H X1:=by
 have T:callI defs (n+1) 18 [.loc d,.int k] (K46.M H d b ts (qI ns vs.reverse) kn [])=_:=(zb (d:=d_taken) rfl rfl).trans (z02 (zk q.hd) vs k hl hs);rw [q.self] at T;exact ⟨_,T,q.M,yD,Kp.M⟩
end
theorem len_loc (g:H[m]?=some 210):qS 221 H=.ok (.int xs.length) H:=by simp [qS,rdl g]
theorem zm:(h++[x])[h.length]?=some x:=by rw [Y09 176,Y0x];rfl
theorem d2 (h1:e1.ev cl ρ Y=.ok x Y)(h2:e2.ev cl ρ Y=.ok y Y):E.ev cl (.ofL (.disp (.cons e1 (.cons e2 .nil)) p0)) ρ Y=.ok (.loc Y.length) (Y++[.lst [x,y]]):=vofL.trans (bnd (ldisp.trans (bnd (econs.trans (bnd h1 (bnd (econs.trans (bnd h2 (bnd z6c rfl))) rfl))) rfl)) rfl)
section
variable {n:Nat}{H0 H:Hh}{w d l s r m c:Nat}{bd:Int}{kvs:237}{co:O}{u:Int}{b:Bk}{ts ns kn:D}{rc:163}{pcs:List Pc}{v:D}
theorem JM {x:Str}{a tb:D}(q:207)(hp:pcs.length<900000) :
  ∃ H' d' hs,callI defs (n+2) 25 [.loc w,.tup [.str "handle",.str x,a,tb]] H=.ok .non H'/\St H0 H' w d' l s r m c bd kvs co u .non ⟨b.bl,.non,false⟩ (.tup [tb,.non]) .non kn rc (.sd hs x v::.dg d b ts ns kn::pcs)/\(∀ i,i<H.length->i≠d')/\Kp w d l s r H H':=by
 obtain ⟨X1,T,q1,g1,k1⟩:=jQ (vs:=[v]) (k:=1) q rfl 123;have ll:=zk q1.hl;have ls:=zk q1.hs;have lw:=zk q1.hw;have ld:=zk q1.hd;have q3:=q1.under (vy:=.sd X1.length x v::.dg d b ts ns kn::pcs) (b':=⟨b.bl,.non,false⟩) (t:=.tup [tb,.non]) (vj:=.non) (k:=kn) (B:=[sdO x v,.lst 218]) λ p hp=>by
  rcases Y0g.mp hp with rfl | hp
  ·have lr:=zk q1.hr;refine ⟨?_,by show X1.length≠w;omega,by show X1.length≠l;omega,by show X1.length≠r;omega,by show X1.length≠s;omega⟩;show (X1++[sdO x v,_])[X1.length]?=some (sdO x v);rw [Y09 176,Y0x];rfl
  ·rcases Y0g.mp hp with rfl | hp
   ·exact ⟨za q1.hd,Ne.symm q1.wd,q1.dl,q1.dr,q1.ds⟩
   ·exact ⟨za (q1.fs p hp).1,(q1.fs p hp).2.1,(q1.fs p hp).2.2.1,(q1.fs p hp).2.2.2.2.1,(q1.fs p hp).2.2.2.2.2⟩
 have rv:(Pc.sd X1.length x v::Pc.dg d b ts ns kn::pcs).reverse=pcs.reverse++[.dg d b ts ns kn,.sd X1.length x v]:=by simp
 have esg:sg (Pc.sd X1.length x v::Pc.dg d b ts ns kn::pcs)=sg pcs++[.int ((pcs.length:Int)+1)]:=by
  unfold sg;rw [rv,wB,Y0l];show _++[D.int ((0+pcs.length+1:Nat):Int)]=_;rw [Y1j];rfl
 have elf:lf (Pc.sd X1.length x v::Pc.dg d b ts ns kn::pcs)=lf pcs++218:=by
  unfold lf;rw [rv,Y0d];rfl
 rw [esg,elf] at q3;have e2:(X1++[sdO x v,O.lst 218]).set s (.lst (sg pcs++[.int ((pcs.length:Int)+1)]))=(X1++[sdO x v]).set s (.lst (sg pcs++[.int ((pcs.length:Int)+1)]))++[O.lst 218]:=by
  rw [Y22 _ _ ls,Y22 _ _ ls,Y05];rfl
 rw [e2] at q3;have lX:(X1++[sdO x v,O.lst 218]).length=((((X1++[sdO x v]).set s (.lst (sg pcs++[.int ((pcs.length:Int)+1)]))++[O.lst 218]).set l (.lst (lf pcs++218)))).length:=by simp
 have l2:((X1++[sdO x v]).set s (.lst (sg pcs++[.int ((pcs.length:Int)+1)]))).length=X1.length+1:=by simp
 generalize hX2:(X1++[sdO x v]).set s (.lst (sg pcs++[.int ((pcs.length:Int)+1)]))=X2 at q3 lX l2 e2;have gl2:X2[l]?=some 223:=by rw [<- hX2];exact zc q1.ls (za q1.hl)
 have gw2:X2[w]?=some (wk 221 (.loc c) (.int bd) d l s r u .non):=by rw [<- hX2];exact zc q1.ws (za q1.hw)
 have gd2:X2[d]?=some (dg b ts ns kn):=by rw [<- hX2];exact zc q1.ds (za q1.hd)
 generalize hX4:(X2++[O.lst 218]).set l (.lst (lf pcs++218))=X4 at q3 lX;have gw4:X4[w]?=some (wk 221 (.loc c) (.int bd) d l s r u .non):=by rw [<- hX4];exact zc q1.wl (za gw2)
 have gd4:X4[d]?=some (dg b ts ns kn):=by rw [<- hX4];exact zc q1.dl (za gd2)
 have Sd:callI defs (n+1) 52 [.loc X1.length,.str x,v] (X1++[.obj "Standing" []])=.ok .non (X1++[sdO x v]):=z44;have Dd:callI defs (n+1) 51 [.loc X4.length,tb,kn,b.bl,.non] (X4++[.obj "Doing" []])=.ok .non (X4++[dg ⟨b.bl,.non,false⟩ (.tup [tb,.non]) .non kn]):=Wv;rw [lX] at q3;have ex1:∀ {i:Nat}{o:O},X1[i]?=some o->i≠s->X2[i]?=some o:=λ h hn=>by rw [<- hX2];exact zc hn (za h)
 refine ⟨_,_,_,?_,q3,λ i hi=>by have:=zk g1;rw [Y01] at lX;omega,λ i o h1 h2 h3 h4 h5 h=>zc h1 (za (by rw [<- hX4];exact zc h3 (za (ex1 (k1 i o h1 h2 h3 h4 h5 h) h4))))⟩;rw [zb rfl rfl];have gl1:(X1++[sdO x v])[l]?=some 223:=za q1.hl;have LN:qS (.loc l) (X1++[sdO x v])=.ok (.int (pcs.length:Nat)) (X1++[sdO x v]):=by rw [len_loc gl1];simp [lf]
 refine zH (zd 138 (zd (vmk.trans (bnd rfl (bnd (bnd (bnd (bnd rfl (bnd rfl T)) (bnd rfl (jg g1 a0))) rfl) (by rw [Sd];rfl)))) (zU (d:=.non) (h':=X2) ?_ (zU (d:=.non) (h':=X4) ?_ (zn (z:=.loc X4.length) (vmk.trans (bnd rfl (bnd (bnd (bnd rfl (zg gd4 rfl)) (bnd (bnd (bnd rfl (zg gd4 rfl)) rfl) rfl)) (by rw [Dd];rfl)))) rfl (zP (za gw4) 133 rfl) rfl)))))
 ·rw [<- hX2];exact append_at (bnd rfl (zg (za q1.hw) rfl)) (za q1.hs) (bnd (bnd (bnd rfl (zg (za q1.hw) rfl)) LN) rfl) (za q1.hs) (by
   have:(sg pcs).length<=pcs.length:=by
    have z:∀ (l:List Pc) (k:Nat),(pl k l).length<=l.length:=λ l=>by
     induction l with
     | nil=>intro k;exact Y04 _
     | cons p r ih=>intro k;cases p<;>(have:=ih (k+1);simp only [pl,Y03];omega)
    have:=z pcs.reverse 0
    rw [Y0l] at this;exact this
   omega)
 ·rw [<- hX4];have e5:=jT (cl:=callI defs (n+1)) (ρ:=[some (.loc w),some (.tup [.str "handle",.str x,a,tb]),some (.loc d),some (.loc X1.length)]) (X:=X2) (X1:=X2) (X2:=X2++[O.lst 218]) (n:=l) (k:=X2.length) (xs:=lf pcs) (ys:=218) (oe:=.fld (.var 0 139) "left" 139) (ae:=.ofL (.disp (.cons (.var 2 139) (.cons (.var 3 139) .nil)) 139)) (p1:=139) (p:=139) (bnd rfl (zg gw2 rfl)) gl2 (d2 rfl rfl) (za gl2) zm (by simp [lf];omega) (by have:=zk gl2;omega);exact e5
end
theorem yF (g:H[m]?=some (.dK kvs))(e:zF kvs (.inr f)=some v):jf 221 (.str f) H=.ok v H:=by
 have q:jf 221 (.str f) H=match H[m]? with
  | some (.dK kvs)=>(match (wn (.str f)).bind (λ k=>zF kvs k) with | some d=>Res.ok d H | none=>.no)
  | some (.dT kvs)=>(match (jC (.str f)).bind (λ k=>zF kvs k) with | some d=>Res.ok d H | none=>.no)
  | some (.lst xs)=>.no
  | _=>.no:=rfl
 rw [q,g];show (match zF kvs (.inr f) with | some d=>Res.ok d H | none=>.no)=_
 rw [e]
theorem qx {H:Hh}(e:H[i]?=some o):H.set i o=H:=by
 obtain ⟨hd,q⟩:=Y0f.mp e;rw [<- q,List.set_getElem_self]
section
variable {n:Nat}{H0 H:Hh}{w d l s r m c:Nat}{bd:Int}{kvs:237}{co:O}{u:Int}{b b':Bk}{ts ns kn vz vj qQ:D}{rc:163}{pcs:List Pc}{v:D}
noncomputable def Bk.free (b:Bk):Prop:=b.hd=.non\/(b.wt=true/\∃ k,b.hd=.loc k)
theorem z03 (q:St H0 H w d l s r m c bd kvs co u .non b ts ns kn rc pcs)(hf:b.free):callI defs (n+1) 31 [.loc d] H=.ok (.bl false) H:=by
 rw [zb rfl rfl];rcases hf with h | ⟨h,k,h2⟩
 ·exact zi (zr (jc (Q4 (zj (bnd rfl (zg q.hd rfl)) rfl (by rw [h];rfl)))))
 ·exact zi (zr (jc (Jc (zj (bnd rfl (zg q.hd rfl)) rfl (by rw [h2];rfl)) (bnd (bnd (bnd rfl (zg q.hd rfl)) rfl) (by rw [h];rfl)))))
theorem Yx (g:H[i]?=some (dg b ts ns kn)):callI defs (n+2) 10 [.loc i] H=.ok 151 (H++[dg b ts ns kn]):=by
 rw [zb rfl rfl];have Dd:callI defs (n+1) 51 [.loc H.length,.non,kn,b.bl,b.hd] (H++[.obj "Doing" []])=.ok .non (H++[dg ⟨b.bl,b.hd,false⟩ (.tup [.non,.non]) .non kn]):=Wv;exact zi (zd (vmk.trans (bnd rfl (bnd (bnd (bnd rfl (zg g rfl)) (bnd (bnd (bnd rfl (zg g rfl)) (bnd (bnd (bnd rfl (zg g rfl)) rfl) rfl)) rfl)) (by rw [Dd];rfl))))
  (zn (bnd rfl (zg (za g) rfl)) rfl 181 (zn (bnd rfl (zg (za g) rfl)) rfl 181 (zn (bnd rfl (zg (za g) rfl)) rfl 181 (zr rfl)))))
theorem z45 (g:H[m]?=some 210):WV false 221 H=.ok (.bl xs.isEmpty) H:=by
 show (match PI.rd H m with | some xs=>Res.ok (D.bl (ngB false xs.isEmpty)) H | none=>.no)=_
 rw [rdl g];rfl
theorem UW (ho:oe.ev cl ρ H=.ok (.loc n) X)(g:X[n]?=some (.lst (xs++[v]))):E.ev cl (.m0 .pop oe p1 p) ρ H=.ok v (X.set n 210):=by
 rw [vm0];refine bnd ho ?_;simp [m0D,g]
theorem z46 (g:H[m]?=some (.lst (xs++[v]))):WV false 221 H=.ok (.bl false) H:=(z45 g).trans 133
theorem z47 (g:H[i]?=some (dg b ts ns kn)):(match JG "Standing" 145 (.loc i) H with | some b=>Res.ok (D.bl b) H | none=>.no)=.ok (.bl false) H:=by
 have e:JG "Standing" 145 (.loc i) H=some false:=by
  show (match H[i]? with | some (.obj y _)=>if y∈(145:List Str) then some (decide (y="Standing")) else none | _=>none)=_
  rw [g];show (if ("Doing":Str)∈(145:List Str) then some (decide (("Doing":Str)="Standing")) else none)=_
  decide +kernel
 rw [e]
theorem z48 (g:H[i]?=some (sdO x k)):(match JG "Standing" 145 (.loc i) H with | some b=>Res.ok (D.bl b) H | none=>.no)=.ok (.bl true) H:=by
 have e:JG "Standing" 145 (.loc i) H=some true:=by
  show (match H[i]? with | some (.obj y _)=>if y∈(145:List Str) then some (decide (y="Standing")) else none | _=>none)=_
  rw [g];show (if ("Standing":Str)∈(145:List Str) then some (decide (("Standing":Str)="Standing")) else none)=_
  decide +kernel
 rw [e]
theorem z49:sg (.dg a b ts ns kn::pcs)=sg pcs:=by
 unfold sg;rw [Y1d,wB];exact Y0a _
theorem z8h:sg (.sd a x v::pcs)=sg pcs++[.int (pcs.length:Nat)]:=by
 unfold sg;rw [Y1d,wB,Y0l,Y1j];rfl
theorem qP:lf (p::pcs)=lf pcs++[.loc p.at_]:=by unfold lf;rw [Y1d,Y0d];rfl
theorem Qc (hf:b.free)(q:207):Ss.run (callI defs (n+2)) (wG 2 d_leave.body) [some (.loc w),none,none,none] H=.nx [some (.loc w),some v,none,none] H :=
 zd (bnd (bnd 138 (zg q.hd rfl)) rfl) (zx (bnd (bnd 138 (bnd rfl (z03 q hf))) rfl) rfl)
theorem yG {a:Nat}{Hs:Hh}(L:Ss.run (callI defs (n+2)) (wG 2 d_leave.body) [some (.loc w),none,none,none] Hs=.nx [some (.loc w),some v,none,none] H)(q:St H0 H w d l s r m c bd kvs co u .non b ts 155 kn rc (.dg a b' vz vj qQ::pcs)):∃ H' d',callI defs (n+3) 30 [.loc w] Hs=.ok .non H'/\St H0 H' w d' l s r m c bd kvs co u .non b' vz (.tup [v,vj]) qQ rc pcs/\(∀ i,i<H.length->i≠d')/\Kp w d l s r H H':=by
 have hl:H[l]?=some (.lst (lf pcs++[.loc a])):=by rw [q.hl,qP];rfl
 obtain ⟨gf,f1,f2,f3,f4,f5⟩:=q.fs (.dg a b' vz vj qQ) Y0c;have gf:H[a]?=some (dg b' vz vj qQ):=gf;have q3:=q.under (b':=b') (t:=vz) (vj:=vj) (k:=qQ) λ x hx=>⟨by rw [Y0a];exact (q.fs x (Y06 _ hx)).1,(q.fs x (Y06 _ hx)).2.1,(q.fs x (Y06 _ hx)).2.2.1,(q.fs x (Y06 _ hx)).2.2.2.2.1,(q.fs x (Y06 _ hx)).2.2.2.2.2⟩;rw [Y0a,qx (show H[s]?=some (.lst (sg pcs)) by rw [q.hs,z49])] at q3;have q4:=q3.M (J:=[]) (vz:=vz) (vj:=.tup [v,vj]) (qQ:=qQ);refine ⟨_,_,?_,q4,λ i hi=>by omega,λ i o h1 h2 h3 h4 h5 h=>M_o (zc h1 (za (zc h3 h))) (by have:=zk h;omega)⟩;have P:=Wu (n:=n+1) (bl:=b') (ts:=vz) (ns:=vj) (kn:=qQ) (J:=[]) (v:=v) (zk q3.hd);rw [q3.self] at P;have g1:(H.set l 223)[a]?=_:=zc f2 gf;have gw:(H.set l 223)[w]?=_:=zc q.wl q.hw;have l1:(H.set l 223).length=H.length:=Y0k;have S:qe (.loc w) "doing" (.loc (H.set l 223).length) (H.set l 223++[dg b' vz vj qQ])=_:=zP (za gw) 133 rfl;rw [l1] at S;rw [zb (d:=d_leave) rfl rfl];exact zH (Zf 2 L (zx (bnd (bnd 138 (z46 hl)) rfl) (zd (UW 138 hl)
  (j0 (bnd (bnd rfl (z47 g1)) rfl) (zn (bnd rfl (bnd rfl (Yx g1))) rfl (by rw [l1];exact S) (zU (bnd (bnd rfl (zg q3.hw rfl)) (bnd rfl P)) rfl)) rfl))))
theorem Qd (hf:b.free)(q:St H0 H w d l s r m c bd kvs co u .non b ts 155 kn rc []):callI defs (n+3) 30 [.loc w] H=.ok .non (H.set w (wk 221 (.loc c) (.int bd) d l s r u (.tup [.str "done",v]))):=by
 rw [zb rfl rfl];exact zi (Zf 2 (Qc hf q) (Ze (bnd (bnd 138 (z45 q.hl)) rfl) (zn rfl rfl (zP q.hw 133 rfl) rfl)))
theorem Wy:callI defs (n+1) 11 [.tup [y,z],.tup [v,k]] H=.ok (.tup [.tup [z,k],.tup [.tup [y,v],.non]]) H:=by
 rw [zb rfl rfl];exact zi (zd rfl (zL (izip.trans rfl) (zM 144 (zR (zd rfl rfl)) (zM 144 (zR (zd rfl rfl)) jV)) (zr rfl)))
theorem Yy {a:Nat}{x:Str}{kp i0 i1 i2 y z tb:D}(hf:b.free)(q:St H0 H w d l s r m c bd kvs co u .non b ts 155 kn rc (.sd a x kp::pcs))(hv:zF kvs (.inr x)=some (.tup [i0,i1,i2,.tup [y,z,tb]])) :
  ∃ H' d',callI defs (n+3) 30 [.loc w] H=.ok .non H'/\St H0 H' w d' l s r m c bd kvs co u .non ⟨.tup [.non,.non],.non,false⟩ (.tup [tb,.non]) .non (.tup 159) rc pcs/\(∀ i,i<H.length->i≠d')/\Kp w d l s r H H':=by
 have hl:H[l]?=some (.lst (lf pcs++[.loc a])):=by rw [q.hl,qP];rfl
 have hs:H[s]?=some (.lst (sg pcs++[.int (pcs.length:Nat)])):=by rw [q.hs,z8h]
 obtain ⟨gf,f1,f2,f3,f4,f5⟩:=q.fs (.sd a x kp) Y0c;have gf:=gf;have q3:=q.under (b':=⟨.tup [.non,.non],.non,false⟩) (t:=.tup [tb,.non]) (vj:=.non) (k:=.tup 159) λ x hx=>⟨by rw [Y0a];exact (q.fs x (Y06 _ hx)).1,(q.fs x (Y06 _ hx)).2.1,(q.fs x (Y06 _ hx)).2.2.1,(q.fs x (Y06 _ hx)).2.2.2.2.1,(q.fs x (Y06 _ hx)).2.2.2.2.2⟩;rw [Y0a,List.set_comm _ _ (Ne.symm q.ls)] at q3;have gw1:(H.set l 223)[w]?=some (wk 221 (.loc c) (.int bd) d l s r u .non):=zc q.wl q.hw;have gs1:(H.set l 223)[s]?=_:=zc (Ne.symm q.ls) hs;have ga1:(H.set l 223)[a]?=_:=zc f2 gf;have ga2:((H.set l 223).set s (.lst (sg pcs)))[a]?=_:=zc f5 ga1;have gw2:((H.set l 223).set s (.lst (sg pcs)))[w]?=_:=zc q.ws gw1;have gm2:((H.set l 223).set s (.lst (sg pcs)))[m]?=_:=zc (Ne.symm q.sm) (zc (Ne.symm q.lm) q.hm);have l2:((H.set l 223).set s (.lst (sg pcs))).length=H.length:=by rw [Y0k,Y0k]
 refine ⟨_,_,?_,q3,λ i hi=>by omega,λ i o h1 h2 h3 h4 h5 h=>zc h1 (za (zc h4 (zc h3 h)))⟩;generalize hX:(H.set l 223).set s (.lst (sg pcs))=X at ga2 gw2 gm2 l2;have Dd:callI defs (n+2) 51 [.loc X.length,tb,.tup 159,.tup [.non,.non],.non] (X++[.obj "Doing" []])=.ok .non (X++[dg ⟨.tup [.non,.non],.non,false⟩ (.tup [tb,.non]) .non (.tup 159)]):=Wv;have S:qe (.loc w) "doing" 227 (X++[dg ⟨.tup [.non,.non],.non,false⟩ (.tup [tb,.non]) .non (.tup 159)])=_:=zP (za gw2) 133 rfl;rw [l2] at S;rw [zb rfl rfl];refine zH (Zf 2 (Qc hf q) (zx (bnd (bnd 138 (z46 hl)) rfl) (zd (UW 138 hl)
  (zK (bnd (bnd rfl (z48 ga1)) rfl) (zU (by rw [<- hX];exact UW (bnd rfl (zg gw1 rfl)) gs1) (zd (bnd (bnd (bnd rfl (zg gw2 rfl)) (bnd (bnd rfl (zg ga2 rfl)) (yF gm2 hv))) rfl) (zn (vmk.trans (bnd rfl (bnd (bnd (bnd (vcut.trans rfl) (bnd (bnd (jP rfl (bnd rfl (zg ga2 rfl))) rfl) Wy)) rfl) (by rw [Dd];rfl)))) rfl (by rw [l2];exact S) rfl))) rfl))))
end
theorem UX:∀ (l:List Pc) (k j:Nat),j<(pl k l).length->∃ i a x kp,(pl k l)[j]?=some (.int ((k+i:Nat)))/\l[i]?=some (.sd a x kp)
 | [],k,j,h=>by simp [pl] at h
 | .sd a x kp::r,k,0,h=>⟨0,a,x,kp,rfl,rfl⟩
 | .sd a x kp::r,k,j+1,h=>by
  obtain ⟨i,a',x',kp',e1,e2⟩:=UX r (k+1) j (by simp only [pl,Y03] at h;omega);refine ⟨i+1,a',x',kp',?_,by rw [Y1h];exact e2⟩;rw [pl,Y1h,e1,Y25,Y3o 1]
 | .dg a b ts ns kn::r,k,j,h=>by
  obtain ⟨i,a',x',kp',e1,e2⟩:=UX r (k+1) j (by simp only [pl] at h;exact h);refine ⟨i+1,a',x',kp',?_,by rw [Y1h];exact e2⟩;rw [pl,e1,Y25,Y3o 1]
theorem Qe:∀ (l:List Pc) (k k':Nat),(pl k l).length=(pl k' l).length
 | [],_,_=>rfl
 | .sd _ _ _::r,k,k'=>by simp only [pl,Y03];rw [Qe r (k+1) (k'+1)]
 | .dg _ _ _ _ _::r,k,k'=>by simp only [pl];exact Qe r (k+1) (k'+1)
theorem VP:∀ (l:List Pc) (k:Nat),(pl k l).length<=l.length
 | [],_=>Y04 _
 | .sd _ _ _::r,k=>by simp only [pl,Y03];have:=VP r (k+1);omega
 | .dg _ _ _ _ _::r,k=>by simp only [pl,Y03];have:=VP r (k+1);omega
section
variable {n:Nat}{H0 H:Hh}{w d l s r m c:Nat}{bd:Int}{kvs:237}{cvs:List (List Key×D)}{u:Int}{b:Bk}{ts ns kn e:D}{rc:163}{A B:List Pc}{hs:Nat}{x:Str}{kp:D}{dd:Str}
theorem z6k (g:H[c]?=some (.dT cvs))(e:(zF cvs [.inr y,.inr dd]).isSome=t):je .NotIn (.tup [.str y,.str dd]) (.loc c) H=.ok (.bl (!t)) H:=by
 show (match H[c]? with
  | some (.lst ds)=>JF true (.tup [.str y,.str dd]) ds H
  | some (.dK kvs)=>(match wn (.tup [.str y,.str dd]) with | some k=>Res.ok (.bl (ngB true (zF kvs k).isSome)) H | none=>(match kvs with | []=>(match jC (.tup [.str y,.str dd]) with | some _=>.ok (.bl (ngB true false)) H | none=>.no) | _=>.no))
  | some (.dT kvs)=>(match jC (.tup [.str y,.str dd]) with | some k=>Res.ok (.bl (ngB true (zF kvs k).isSome)) H | none=>.no)
  | _=>.no)=_
 rw [g];show Res.ok (D.bl (ngB true (zF cvs [.inr y,.inr dd]).isSome)) H=_;rw [e];cases t<;>rfl
theorem z2z {r1 r3 r5 r6:Option D}(q:St H0 H w d l s r m c bd kvs (.dT cvs) u e b ts ns kn rc (A++.sd hs x kp::B))(hA:∀ a y k,Pc.sd a y k∈A->(zF cvs [.inr y,.inr dd]).isSome=false)(hx:(zF cvs [.inr x,.inr dd]).isSome=true):∀ j,j<=(pl 0 A.reverse).length ->
  whR (λ ρ' h'=>w_then_do_1.evT 204 ρ' h') (λ ρ' h'=>b_then_do_1.run 204 ρ' h') [some (.loc w),r1,some (.str dd),r3,some (.int (((pl 0 B.reverse).length+j:Nat))),r5,r6] H=.nx [some (.loc w),r1,some (.str dd),r3,some (.int (((pl 0 B.reverse).length:Nat))),r5,r6] H:=by
 have rv:(A++Pc.sd hs x kp::B).reverse=B.reverse++158:=by simp
 have sgE:sg (A++.sd hs x kp::B)=pl 0 B.reverse++(.int ((B.length:Nat))::pl (B.length+1) A.reverse):=by
  unfold sg;rw [rv,wB,Y0l,Y1j];rfl
 have lfE:lf (A++.sd hs x kp::B)=lf B++172:=by
  unfold lf;rw [rv,Y0d];rfl
 have hsE:=q.hs;rw [sgE] at hsE;have hlE:=q.hl;rw [lfE] at hlE;have lB:(lf B).length=B.length:=by unfold lf;rw [Y08,Y0l]
 have test:∀ (k i:Nat) (a:Nat) (y:Str) (kq:D) (t:Bool),(pl 0 B.reverse++(D.int ((B.length:Nat))::pl (B.length+1) A.reverse))[k]?=some (.int ((i:Nat)))->(lf B++172)[i]?=some (.loc a)->H[a]?=some (sdO y kq)->(zF cvs [.inr y,.inr dd]).isSome=t ->
   E.evT 204 w_then_do_1 [some (.loc w),r1,some (.str dd),r3,some (.int ((k:Nat))),r5,r6] H=.ok (!t) H:=λ k i a y kq t h1 h2 h3 h4 =>
  Jc (zj rfl rfl (show je .GtE (.int ((k:Nat))) (.int 0) H=.ok (.bl true) H from by show Res.ok (D.bl (decide ((0:Int)<=(k:Int)))) H=_;rw [decide_eq_true 117])) (zj (jP (bnd (bnd 138 (bnd (bnd 138 (bnd rfl (jg hsE (atk h1)))) (jg hlE (atk h2)))) (zg h3 rfl)) rfl) 138 (z6k q.hc h4))
 intro j
 induction j with
 | zero =>
  intro _;refine jr (test (pl 0 B.reverse).length B.length hs x kp true ?_ ?_ (q.fs (.sd hs x kp) 133).1 hx)
  ·rw [Y09 176,Y0x];rfl
  ·rw [Y09 117,lB,Y0x];rfl
 | succ j ih =>
  intro hj;obtain ⟨i,a,y,kq,e1,e2⟩:=UX A.reverse (B.length+1) j (by rw [Qe _ _ 0];omega);have mem:=List.mem_reverse.mp (Y1i e2);refine (zX (test ((pl 0 B.reverse).length+(j+1)) (B.length+1+i) a y kq false ?_ ?_ (q.fs (.sd a y kq) (by simp [mem])).1 (hA a y kq mem)) (zd (bnd rfl (bnd rfl ?_)) rfl)).trans (ih 117)
  ·rw [Y09 117,Y1s,Y1h];exact e1
  ·rw [Y09 117,lB,show B.length+1+i-B.length=i+1 from by omega,Y1h];unfold lf;rw [Y0u,e2];rfl
  ·show Res.ok (D.int ((((pl 0 B.reverse).length+(j+1):Nat):Int)-1)) H=_;rw [show (((pl 0 B.reverse).length+(j+1):Nat):Int)-1=(((pl 0 B.reverse).length+j:Nat):Int) from by omega]
end
theorem z4a {L s:Nat}(g:X[L]?=some 210)(h:s<=xs.length):Yd (.loc L) (some (s:Int)) none X=.ok 227 (X++[.lst (xs.drop s)]):=by
 show (match PI.rd X L with | some xs=>new (.lst (jp xs (some (s:Int)) none)) X | none=>.no)=_
 rw [rdl g];show new (.lst (jp xs (some (s:Int)) none)) X=_
 have:jp xs (some (s:Int)) none=xs.drop s:=by
  unfold jp HT.sIx;simp only [show ¬ ((s:Int)<0) from by omega,if_false,Y2b,Nat.min_eq_left h];rw [Y2j 133]
 rw [this];rfl
theorem VQ {L s:Nat}(g:X[L]?=some 210)(h:s<=xs.length):Yd (.loc L) none (some (s:Int)) X=.ok 227 (X++[.lst (xs.take s)]):=by
 show (match PI.rd X L with | some xs=>new (.lst (jp xs none (some (s:Int)))) X | none=>.no)=_
 rw [rdl g];show new (.lst (jp xs none (some (s:Int)))) X=_
 have:jp xs none (some (s:Int))=xs.take s:=by
  unfold jp HT.sIx;simp only [show ¬ ((s:Int)<0) from by omega,if_false,Y2b,Nat.min_eq_left h,List.drop_zero,Nat.sub_zero]
 rw [this];rfl
theorem VR (g1:h[n]?=some 210)(g2:h[m]?=some (.lst ys))(hl:xs.length+ys.length<=1000000):qw .Add (.loc n) 221 h=.ok (.loc h.length) (h++[.lst (xs++ys)]):=by
 rw [bin_addl,g1,g2];simp [hl,new]
theorem Yz (he:e.ev cl ρ h=.ok x h1):E.ev cl (.ofL (.disp (.cons e .nil) p)) ρ h=.ok (.loc h1.length) (h1++[.lst [x]]):=vofL.trans (bnd (ldisp.trans (bnd (econs.trans (bnd he (bnd z6c rfl))) rfl)) rfl)
theorem Jn {o:List O}(i:Nat)(q:o[i]?=some x):(A++o)[A.length+i]?=some x:=by
 rw [Y09 (Y1r _ _),Y1s];exact q
section
variable {n:Nat}{H0 H:Hh}{w d l s r m c:Nat}{bd:Int}{kvs:237}{co:O}{cvs:List (List Key×D)}{u:Int}{b:Bk}{ts ns kn e:D}{rc:163}{pcs A B:List Pc}{hs:Nat}{x:Str}{kp:D}{dd:Str}{v:D}
theorem St.moved (q:St H0 H w d l s r m c bd kvs co u e b ts ns kn rc (A++B))(hl:H.length<=l')(hs:H.length<=s')(ne:l'≠s')(gl:(H++J)[l']?=some (.lst (lf B)))(gs:(H++J)[s']?=some (.lst (sg B))) :
  St H0 ((H++J).set w (wk 221 (.loc c) (.int bd) d l' s' r u e)) w d l' s' r m c bd kvs co u e b ts ns kn rc B:=by
 refine ⟨Y0b (zk (za q.hw)),zc (Ne.symm q.wd) (za q.hd),zc (Ne.symm (jx q.hw hl)) gl,zc (Ne.symm (jx q.hw hs)) gs,zc (Ne.symm q.wr) (za q.hr),zc (Ne.symm q.wm) (za q.hm),zc (Ne.symm q.wc) (za q.hc),q.wd,jx q.hw hl,jx q.hw hs,q.wr,q.wm,q.wc,jx q.hd hl,jx q.hd hs,q.dr,q.dm,q.dc,Ne.symm (jx q.hr hl),ne,Ne.symm (jx q.hm hl),Ne.symm (jx q.hc hl),jx q.hr hs,q.rm,q.rcc,Ne.symm (jx q.hm hs),Ne.symm (jx q.hc hs),λ p hp=>?_,λ i o ho=>zc (jx ho q.ow) (za (q.old i o ho)),q.ow,Y1n (Y1z (Y29 q.ow (zk q.hw))) hl,q.od,q.ore,Y1n (Y1z (Y29 q.ow (zk q.hw))) hs⟩;obtain ⟨a1,a2,a3,a4,a5,a6⟩:=q.fs p (Y0q _ hp);exact ⟨zc a2 (za a1),a2,jx a1 hl,a4,a5,jx a1 hs⟩
theorem z8i (q:St H0 H w d l s r m c bd kvs co u e b ts ns kn rc (A++.sd hs x kp::B))(hn:(A++Pc.sd hs x kp::B).length<900000) :
  ∃ H',callI defs (n+1) 27 [.loc w,.int (((pl 0 B.reverse).length:Nat))] H=.ok (.loc (H.length+2)) H'/\St H0 H' w d 238 (H.length+4) r m c bd kvs co u e b ts ns kn rc B/\H'[H.length+2]?=some (.lst (.loc hs::lf A++[.loc d]))/\H'.length=H.length+5/\∀ (i:Nat) (o:O),i≠w->H[i]?=some o->H'[i]?=some o:=by
 have rv:(A++Pc.sd hs x kp::B).reverse=B.reverse++158:=by simp
 have sgE:sg (A++.sd hs x kp::B)=pl 0 B.reverse++(.int ((B.length:Nat))::pl (B.length+1) A.reverse):=by
  unfold sg;rw [rv,wB,Y0l,Y1j];rfl
 have lfE:lf (A++.sd hs x kp::B)=lf B++172:=by
  unfold lf;rw [rv,Y0d];rfl
 have hsE:=q.hs;rw [sgE] at hsE;have hlE:=q.hl;rw [lfE] at hlE;have lB:(lf B).length=B.length:=by unfold lf;rw [Y08,Y0l]
 have lA:(lf A).length=A.length:=by unfold lf;rw [Y08,Y0l]
 have lw:=zk q.hw;rw [Y01,Y03] at hn;have P1:jf (.loc s) (.int (((pl 0 B.reverse).length:Nat))) H=.ok (.int ((B.length:Nat))) H:=jg hsE (atk (by rw [Y09 176,Y0x];rfl));have C1:=z4a hlE (s:=B.length) (by rw [Y01,lB];omega);rw [<- lB,List.drop_left] at C1;have AD:=VR (h:=(H++[O.lst 172])++[O.lst [.loc d]]) (za zm) zm (by rw [Y03,lA];show _+1+1<=_;omega);have C2:=VQ (X:=((H++[O.lst 172])++[O.lst [.loc d]])++[O.lst (172++[.loc d])]) (za (za (za hlE))) (s:=B.length) (by rw [Y01,lB];omega);rw [<- lB,List.take_left] at C2;have e3:((H++[O.lst 172])++[O.lst [.loc d]])++[O.lst (172++[.loc d])]++[O.lst (lf B)]=H++167:=by simp
 rw [e3] at C2;have hw4:(H++167)[w]?=some (wk 221 (.loc c) (.int bd) d l s r u e):=za q.hw;have C3:=VQ (X:=(H++167).set w (wk 221 (.loc c) (.int bd) d 238 s r u e)) (zc (Ne.symm q.ws) (za hsE)) (s:=(pl 0 B.reverse).length) (by rw [Y01];omega);rw [List.take_left] at C3;have lX:((H++167).set w (wk 221 (.loc c) (.int bd) d 238 s r u e)).length=H.length+4:=by simp
 rw [lX] at C3;have q2:=St.moved (A:=A++[.sd hs x kp]) (B:=B) (J:=[O.lst 172,O.lst [.loc d],O.lst (172++[.loc d]),O.lst (lf B),O.lst (pl 0 B.reverse)]) (l':=H.length+3) (s':=H.length+4) (by rw [Y05];exact q) 117 117 117 (Jn 3 rfl) (Jn 4 rfl);have e5:((H++167).set w (wk 221 (.loc c) (.int bd) d 238 s r u e)++[O.lst (pl 0 B.reverse)]).set w (wk 221 (.loc c) (.int bd) d 238 (H.length+4) r u e)=(H++[O.lst 172,O.lst [.loc d],O.lst (172++[.loc d]),O.lst (lf B),O.lst (pl 0 B.reverse)]).set w (wk 221 (.loc c) (.int bd) d 238 (H.length+4) r u e):=by
  rw [Y22 _ _ (by rw [Y0k,Y01];omega),List.set_set,Y22 _ _ lw,Y22 _ _ lw,Y05];rfl
 refine ⟨_,?_,q2,zc 117 (Jn 2 rfl),by rw [Y0k,Y01];rfl,λ i o h1 h=>zc h1 (za h)⟩;rw [zb (d:=qC) rfl rfl,<- e5];have l3:(((H++[O.lst 172])++[O.lst [.loc d]])).length=H.length+2:=by simp
 have l4:(((H++[O.lst 172])++[O.lst [.loc d]])++[O.lst (172++[.loc d])]).length=H.length+3:=by simp
 rw [l3] at AD;rw [l4] at C2;exact zi (zd (bnd 138 (bnd rfl P1)) (zd (d:=.loc (H.length+2)) (h':=((H++[O.lst 172])++[O.lst [.loc d]])++[O.lst (172++[.loc d])]) (bnd (vcut.trans (bnd 138 (bnd (qy rfl) (bnd rfl (by rw [<- lB];exact C1))))) (bnd (Yz (bnd rfl (zg (za q.hw) rfl))) AD))
  (zn (z:=.loc 238) (vcut.trans (bnd (bnd rfl (zg (za (za (za q.hw))) rfl)) (bnd rfl (bnd (qy rfl) (by rw [<- lB];exact C2))))) rfl (zP hw4 133 rfl)
  (zn (z:=.loc (H.length+4)) (vcut.trans (bnd (bnd rfl (zg (Y0b (by rw [Y01];omega)) rfl)) (bnd rfl (bnd (qy rfl) C3)))) rfl (zP (za (Y0b (by rw [Y01];omega))) 133 rfl) (zr rfl)))))
end
theorem Jo (q1:e1.ev cl ρ h=.ok x h')(q2:e2.ev cl ρ h'=.ok y h2)(q3:e3.ev cl ρ h2=.ok z h3):E.ev cl (.tup (.cons e1 (.cons e2 (.cons e3 .nil))) p) ρ h=.ok (.tup [x,y,z]) h3:=bnd (bnd q1 (bnd (bnd q2 (bnd (bnd q3 rfl) rfl)) rfl)) rfl
theorem zah (g:H[m]?=some (.dT cvs))(e:zF cvs [.inr x,.inr y]=some v):jf 221 (.tup [.str x,.str y]) H=.ok v H:=by
 have q:jf 221 (.tup [.str x,.str y]) H=match H[m]? with
  | some (.dK kvs)=>(match (wn (.tup [.str x,.str y])).bind (λ k=>zF kvs k) with | some d=>Res.ok d H | none=>.no)
  | some (.dT kvs)=>(match (jC (.tup [.str x,.str y])).bind (λ k=>zF kvs k) with | some d=>Res.ok d H | none=>.no)
  | some (.lst xs)=>.no
  | _=>.no:=rfl
 rw [q,g];show (match zF cvs [.inr x,.inr y] with | some d=>Res.ok d H | none=>.no)=_
 rw [e]
section
variable {n:Nat}{H0 H:Hh}{w d l s r m c:Nat}{bd:Int}{kvs:237}{co:O}{cvs:List (List Key×D)}{u:Int}{b:Bk}{ts ns kn e:D}{rc:163}{pcs A B:List Pc}{hs:Nat}{x:Str}{kp:D}{dd:Str}{v:D}
theorem Qf (q:152)(hu:u<bd):callI defs (n+1) 19 [.loc w] H=.ok (.bl true) (H.set w (wk 221 (.loc c) (.int bd) d l s r (u+1) e)):=by
 rw [zb rfl rfl];exact zi (zx (zj 138 138 (cmp_ge.trans (by rw [decide_eq_false 117]))) (zn (bnd 138 rfl) rfl (zP q.hw 133 rfl) (zr rfl)))
theorem Qg (q:152)(hu:¬ u<bd):callI defs (n+1) 19 [.loc w] H=.ok (.bl false) (H.set w (wk 221 (.loc c) (.int bd) d l s r u (.tup [.str "spent"]))):=by
 rw [zb rfl rfl];exact zi (Ze (zj 138 138 (cmp_ge.trans (by rw [decide_eq_true 117]))) (zn rfl rfl (zP q.hw 133 rfl) (zr rfl)))
noncomputable def doD (x:Str)(v:D):D:=.tup [.str "do",.str x,v]
theorem Oa {a c0 y z tb:D}(q:St H0 H w d l s r m c bd kvs (.dT cvs) u .non b ts 155 kn rc (A++.sd hs x kp::B))(hr:rc.length<1000000)(hu:u<bd)(hn:(A++Pc.sd hs x kp::B).length<900000)(hA:∀ a y k,Pc.sd a y k∈A->(zF cvs [.inr y,.inr dd]).isSome=false)(hx:zF cvs [.inr x,.inr dd]=some (.tup [c0,y,z,tb])) :
  ∃ H' d' l' s' hl,callI defs (n+2) 26 [.loc w,.tup [.str "do",.str dd,a]] H=.ok .non H'/\St H0 H' w d' l' s' r m c bd kvs (.dT cvs) (u+1) .non ⟨.tup [.non,.non],.loc hl,false⟩ (.tup [tb,.non]) .non (.tup 159) (rc++[doD dd v]) B /\
   H'[hl]?=some (.lst (.loc hs::lf A++[.loc d]))/\H'[d]?=some (dg b ts ns kn)/\(∀ p∈A++[.sd hs x kp],H'[p.at_]?=some p.o)/\(∀ i,i<H.length->i≠d'/\i≠l'/\i≠s')/\H.length<=hl/\hl≠d'/\hl≠l'/\hl≠s'/\Kp w d l s r H H':=by
 obtain ⟨X1,T,q1,g1,k1⟩:=jQ (vs:=[v]) (k:=1) q rfl 123;have le1:H.length<=X1.length:=by have:=zk g1;omega
 have q2:=q1.setW (u+1) .non;have q3:=q2.setR (rc++[doD dd v]);generalize hX3:(X1.set w 153).set r (.lst (rc++[doD dd v]))=X3 at q3;have l3:X3.length=X1.length:=by rw [<- hX3,Y0k,Y0k]
 obtain ⟨X4,O4,q4,gh,l4,k4⟩:=z8i q3 hn;have q5:=q4.under (b':=⟨.tup [.non,.non],.loc (X3.length+2),false⟩) (t:=.tup [tb,.non]) (vj:=.non) (k:=.tup 159) λ p hp=>⟨by rw [Y0a];exact (q4.fs p hp).1,(q4.fs p hp).2.1,(q4.fs p hp).2.2.1,(q4.fs p hp).2.2.2.2.1,(q4.fs p hp).2.2.2.2.2⟩;rw [Y0a,qx q4.hs,qx q4.hl] at q5;have gpc:∀ p∈A++[.sd hs x kp],X3[p.at_]?=some p.o/\p.at_≠w:=λ p hp=>by
  have hm:p∈A++Pc.sd hs x kp::B:=by
   rcases Y0r.mp hp with h | h
   ·exact Y0v _ h
   ·rw [Y07.mp h];exact Y0q _ Y0c
  exact ⟨(q3.fs p hm).1,(q3.fs p hm).2.1⟩
 have up:∀ (i:Nat) (o:O),i≠w->X3[i]?=some o->((X4++[dg ⟨.tup [.non,.non],.loc (X3.length+2),false⟩ (.tup [tb,.non]) .non (.tup 159)]).set w (wk 221 (.loc c) (.int bd) X4.length (X3.length+3) (X3.length+4) r (u+1) .non))[i]?=some o:=λ i o h1 h=>zc h1 (za (k4 i o h1 h));have lw:=zk q.hw;refine ⟨_,_,_,_,X3.length+2,?_,q5,zc 117 (za gh),up _ _ (Ne.symm q3.wd) q3.hd,λ p hp=>up _ _ (gpc p hp).2 (gpc p hp).1,λ i hi=>⟨by omega,by omega,by omega⟩,by omega,by omega,by omega,by omega,λ i o h1 h2 h3 h4 h5 h=>up i o h1 (by rw [<- hX3];exact zc h5 (zc h1 (k1 i o h1 h2 h3 h4 h5 h)))⟩;rw [zb rfl rfl];have ghs:X4[hs]?=some (sdO x kp):=k4 _ _ (gpc (.sd hs x kp) 133).2 (gpc (.sd hs x kp) 133).1;have Dd:callI defs (n+1) 51 [.loc X4.length,tb,.tup 159,.tup [.non,.non],.loc (X3.length+2)] (X4++[.obj "Doing" []])=.ok .non (X4++[dg ⟨.tup [.non,.non],.loc (X3.length+2),false⟩ (.tup [tb,.non]) .non (.tup 159)]):=Wv;have gcl:X4[c]?=some (.dT cvs):=q4.hc;have lnS:qS (.loc s) X3=.ok (.int (((pl 0 B.reverse).length+(pl 0 A.reverse).length+1:Nat))) X3:=by
  rw [len_loc q3.hs]
  have:(sg (A++Pc.sd hs x kp::B)).length=(pl 0 B.reverse).length+(pl 0 A.reverse).length+1:=by
   unfold sg;rw [show (A++Pc.sd hs x kp::B).reverse=B.reverse++158 from by simp,wB,Y01];show _+((pl _ A.reverse).length+1)=_;rw [Qe A.reverse _ 0];omega
  rw [this]
 have LOOP:=z2z (n:=n+1) (dd:=dd) (r1:=some (.tup [.str "do",.str dd,a])) (r3:=some v) (r5:=none) (r6:=none) q3 hA (by rw [hx];rfl) (pl 0 A.reverse).length 176;refine zH (ρ:=[some (.loc w),some (.tup [.str "do",.str dd,a]),some (.str dd),some v,some (.int (((pl 0 B.reverse).length:Nat))),some (.loc (X3.length+2)),some (.tup [c0,y,z,tb])]) (zd rfl (zd (bnd (bnd 138 (bnd rfl T)) (bnd rfl (jg g1 a0))) (zx (bnd (bnd (bnd rfl (bnd rfl (Qf q1 hu))) rfl) rfl) (zU (d:=.non) (h':=X3) (by rw [<- hX3];exact append_at (bnd rfl (zg q2.hw rfl)) q2.hr rfl q2.hr hr) (zd (d:=.int (((pl 0 B.reverse).length+(pl 0 A.reverse).length:Nat))) (h':=X3) (bnd (bnd (bnd rfl (zg q3.hw rfl)) lnS) (bnd rfl ?_)) ?_)))))
 ·show Res.ok (D.int ((((pl 0 B.reverse).length+(pl 0 A.reverse).length+1:Nat):Int)-1)) X3=_;rw [show (((pl 0 B.reverse).length+(pl 0 A.reverse).length+1:Nat):Int)-1=(((pl 0 B.reverse).length+(pl 0 A.reverse).length:Nat):Int) from by omega]
 ·show Ss.run _ (.cons (.whil w_then_do_1 b_then_do_1 _) _) [some (.loc w),some (.tup [.str "do",.str dd,a]),some (.str dd),some v,some (.int (((pl 0 B.reverse).length+(pl 0 A.reverse).length:Nat))),none,none] _=_;rw [jE,Zd,LOOP,seqS_nx];refine j0 (zj rfl rfl (show je .Lt (.int (((pl 0 B.reverse).length:Nat))) (.int 0) X3=.ok (.bl false) X3 from by show Res.ok (D.bl (decide ((((pl 0 B.reverse).length:Nat):Int)<0))) X3=_;rw [decide_eq_false 117])) (zd (d:=.loc (X3.length+2)) (h':=X4) (bnd rfl (bnd rfl O4)) (zd (d:=.tup [c0,y,z,tb]) (h':=X4) (bnd (bnd rfl (zg q4.hw rfl)) (bnd (jP (bnd (bnd rfl (bnd rfl (jg gh a0))) (zg ghs rfl)) rfl) (zah gcl hx))) (zn (z:=.loc X4.length) (vmk.trans (bnd rfl (bnd (bnd (bnd (vcut.trans rfl) (bnd (bnd (jP rfl (bnd (bnd rfl (bnd rfl (jg gh a0))) (zg ghs rfl))) rfl) Wy)) rfl) (by rw [Dd];rfl)))) rfl (zP (za q4.hw) 133 rfl) rfl))) rfl
end
theorem z30 (hb:jq tg x ρ=some ρ')(hc:ct ρ' h=.ok false h'):ja tg ρ ct ce x h=.ok none h':=by
 unfold ja;rw [hb];exact bnd hc rfl
theorem Qh (st:stay c H)(at_:Nat)(hf:∀ (i:Nat) (p:Pc),H[p.at_]?=some p.o->f (.tup [.int (i:Nat),.loc p.at_]) H=.ok (match p with | .sd _ _ _=>some (.int ((at_+i:Nat))) | .dg _ _ _ _ _=>none) H) :
  ∀ (L:List Pc) (k:Nat) (acc:163),(∀ p∈L,H[p.at_]?=some p.o)->zZ c f (js k (L.map λ p=>.loc p.at_)) acc H=.ok (acc++pl (at_+k) L) H
 | [],k,acc,_=>by simp [js,zZ,st,pl]
 | p::r,k,acc,hp=>by
  rw [Y0n,js,zZ,if_pos st,hf k p (hp p Y0c)];cases p with
  | sd a x kp =>
   show zZ c f (js (k+1) (r.map λ p=>.loc p.at_)) (acc++[.int ((at_+k:Nat))]) H=_;rw [Qh st at_ hf r (k+1) _ λ q hq=>hp q (Y06 _ hq),Y05];rfl
  | dg a b ts ns kn =>
   show zZ c f (js (k+1) (r.map λ p=>.loc p.at_)) acc H=_;rw [Qh st at_ hf r (k+1) acc λ q hq=>hp q (Y06 _ hq)];rfl
section
variable {n:Nat}{H:Hh}{w hl:Nat}{k at_:Nat}{L:List Pc}
theorem z31 (e1:ρ[1]?=some (some (.loc hl)))(e3:ρ[3]?=some (some (.int ((at_:Nat)))))(g:H[hl]?=some (.lst (L.map λ p=>.loc p.at_)))(hp:∀ p∈L,H[p.at_]?=some p.o)(hn:L.length<=900000)(hcap:jD cap ρ=[none,none,some (.int ((at_:Nat)))]) :
  zZ [(hl,L.map λ p=>.loc p.at_)] (ja Ji (jD cap ρ) (λ ρ' h2=>c_put_on_1.evC 204 ρ' h2) (λ ρ' h2=>e_put_on_1.ev 204 ρ' h2)) (js 0 (L.map λ p=>.loc p.at_)) [] H=.ok (pl at_ L) H:=by
 rw [hcap];refine (Qh (λ p hp=>by rw [Y07.mp hp];exact rdl g) at_ (λ i p hp=>?_) L 0 [] hp).trans (by rw [Nat.add_zero];rfl);cases p with
 | sd a x kp =>
  have hp:=hp;refine ju rfl (h':=H) ?_ (bnd rfl (bnd rfl ?_))
  ·exact ccons.trans (bnd (bnd rfl (z48 hp)) rfl)
  ·rfl
 | dg a b ts ns kn =>
  have hp:=hp;refine z30 rfl ?_;exact ccons.trans (bnd (bnd rfl (z47 hp)) rfl)
end
theorem YA:∀ (xs:163) (k:Nat),(js k xs).length=xs.length
 | [],_=>rfl
 | x::r,k=>by rw [js,Y03,Y03,YA r (k+1)]
theorem z32:jp (x::xs++[y]) (some 1) (some (-1))=xs:=by
 unfold jp HT.sIx;have h1:(x::xs++[y]).length=xs.length+2:=by simp
 simp only [h1];have e1:(min (1:Int).toNat (xs.length+2))=1:=by
  show min 1 (xs.length+2)=1;omega
 simp only [show ¬ ((1:Int)<0) from by decide,if_false,show ((-1:Int)<0) from by decide,if_true,e1];rw [show ((-1:Int)+((xs.length+2:Nat):Int)).toNat=xs.length+1 from by omega];simp
section
variable {n:Nat}{H:Hh}{w d l s r m c hl:Nat}{bd:Int}{u:Int}{e k2:D}{vx sgs:163}{x:Str}{kp:D}{hs d0:Nat}{A:List Pc}{b0:Bk}{ts0 ns0 kn0:D}
theorem z04 (hw:H[w]?=some (wk 221 (.loc c) (.int bd) d l s r u e))(gl:H[l]?=some (.lst vx))(gs:H[s]?=some (.lst sgs))(gh:H[hl]?=some (.lst ((158++242).map λ p=>.loc p.at_)))(hp:∀ p∈158++242,H[p.at_]?=some p.o)
  (nls:l≠s) (nwl:w≠l) (nws:w≠s) (nhl:hl≠l) (nhs:hl≠s) (ns1:hs≠s) (l1:vx.length<400000) (l2:sgs.length<400000) (l3:A.length<400000) :
  ∃ H',callI defs (n+2) 29 [.loc w,.loc hl,k2] H=.ok .non H'/\H'[l]?=some (.lst (vx++[.loc (H.length+1)]++A.reverse.map λ p=>.loc p.at_))/\H'[s]?=some (.lst (sgs++pl vx.length 158))/\H'[H.length+1]?=some (sdO x k2)/\H'.length=H.length+3/\∀ (i:Nat) (o:O),i≠l->i≠s->H[i]?=some o->H'[i]?=some o:=by
 generalize hL:158++242=L at gh hp;have lL:L.length=A.length+2:=by rw [<- hL];simp
 have plE:pl vx.length L=pl vx.length 158:=by rw [<- hL,wB];exact Y0a _
 have lp:(pl vx.length L).length<=A.length+2:=by rw [<- lL];exact VP _ _
 have lw:=zk hw;have ll:=zk gl;have lls:=zk gs;have lhl:=zk gh;have ghs:=hp (.sd hs x kp) (by rw [<- hL];simp);have E0:Vx (.loc hl) H=.ok (([(hl,L.map λ p=>.loc p.at_)],js 0 (L.map λ p=>.loc p.at_)):Ck×List D) H:=by
  show (match PI.rd H hl with | some xs=>Res.ok (([(hl,xs)],js 0 xs):Ck×List D) H | none=>.no)=_
  rw [rdl gh]
 have e2l:((H++[O.lst (pl vx.length L)]).set s 217).length=H.length+1:=by simp
 have gw1:(H++[O.lst (pl vx.length L)])[w]?=_:=za hw;have gs1:(H++[O.lst (pl vx.length L)])[s]?=_:=za gs;have gl1:(H++[O.lst (pl vx.length L)])[l]?=_:=za gl;have gh1:(H++[O.lst (pl vx.length L)])[hl]?=_:=za gh;have ghs1:(H++[O.lst (pl vx.length L)])[hs]?=_:=za ghs;have glast:(H++[O.lst (pl vx.length L)])[H.length]?=_:=zm;have up1:∀ (i:Nat) (o:O),H[i]?=some o->(H++[O.lst (pl vx.length L)])[i]?=some o:=λ i o h=>za h;generalize hX1:H++[O.lst (pl vx.length L)]=X1 at *
 have gw2:(X1.set s 217)[w]?=_:=zc nws gw1;have gl2:(X1.set s 217)[l]?=_:=zc nls gl1;have gh2:(X1.set s 217)[hl]?=_:=zc nhs gh1;have ghs2:(X1.set s 217)[hs]?=_:=zc ns1 ghs1;have gs2:(X1.set s 217)[s]?=some 217:=Y0b (zk gs1);have up2:∀ (i:Nat) (o:O),i≠s->X1[i]?=some o->(X1.set s 217)[i]?=some o:=λ i o hn h=>zc hn h;generalize hX2:X1.set s 217=X2 at *
 have Sd:callI defs (n+1) 52 [.loc X2.length,.str x,k2] (X2++[.obj "Standing" []])=.ok .non (X2++[sdO x k2]):=z44;have gw3:190[w]?=_:=zc nwl (za gw2);have gh3:190[hl]?=_:=zc nhl (za gh2);have gl3:190[l]?=some (.lst (vx++[.loc X2.length])):=Y0b (by rw [Y01];have:=zk gl2;omega);have l3':((X2++[sdO x k2]).set l (.lst (vx++[.loc X2.length]))).length=H.length+2:=by rw [Y0k,Y01,e2l];rfl
 have gsd:190[H.length+1]?=some (sdO x k2):=zc 117 (by rw [<- e2l];exact zm);have gs3:190[s]?=_:=zc (Ne.symm nls) (za gs2);have up3:∀ (i:Nat) (o:O),i≠l->X2[i]?=some o->190[i]?=some o:=λ i o hn h=>zc hn (za h);generalize hX3:(X2++[sdO x k2]).set l (.lst (vx++[.loc X2.length]))=X3 at *
 have C:Yd (.loc hl) (some 1) (some (-1)) X3=.ok (.loc X3.length) (X3++[.lst (A.reverse.map λ p=>.loc p.at_)]):=by
  show (match PI.rd X3 hl with | some xs=>new (.lst (jp xs (some 1) (some (-1)))) X3 | none=>.no)=_
  rw [rdl gh3];show new (.lst (jp (L.map λ p=>.loc p.at_) (some 1) (some (-1)))) X3=_;rw [<- hL,Y0d,Y0n,List.map_singleton,z32];rfl
 refine ⟨(X3++[O.lst (A.reverse.map λ p=>.loc p.at_)]).set l (.lst ((vx++[.loc X2.length])++A.reverse.map λ p=>.loc p.at_)),?_,?_,?_,?_,?_,λ i o h1 h2 h=>zc h1 (za (up3 i o h1 (up2 i o h2 (up1 i o h))))⟩
 ·rw [zb rfl rfl];refine zH (zd (bnd (bnd rfl (zg hw rfl)) (len_loc gl)) (zd (h':=X1) (by
    rw [<- hX1];exact j6 (ienum.trans (bnd rfl E0)) (by rw [YA,Y08,lL];omega) (z31 rfl rfl gh hp 117 rfl)) (zU (h':=X2) (by rw [<- hX2];exact jT (bnd rfl (zg gw1 rfl)) gs1 rfl gs1 glast 117 117) (zU (by
    rw [<- hX3];exact append_at (bnd rfl (zg gw2 rfl)) gl2 (vmk.trans (bnd (bnd (bnd rfl (bnd rfl (jg gh2 (by rw [<- hL];exact a0)))) (zg ghs2 rfl)) (bnd rfl (by rw [Sd];rfl)))) (za gl2) 117) (zU (jT (bnd rfl (zg gw3 rfl)) gl3 (vcut.trans (bnd rfl (bnd (qy rfl) (bnd (qy rfl) C)))) (za gl3) zm (by rw [Y01,Y08,Y0l];show _+1+_<=_;omega) (by have:=zk gl3;omega)) rfl)))))
 ·rw [Y0b (by rw [Y01];have:=zk gl3;omega),e2l]
 ·rw [<- plE];exact zc (Ne.symm nls) (za gs3)
 ·exact zc 117 (za gsd)
 ·rw [Y0k,Y01,l3'];rfl
end
theorem big {X:Hh}(h:X[i]?=some o):X.length+1≠i:=Y1y (Y2z (zk h))
theorem VS:atI (l++[v]) (-1)=some v:=by
 unfold atI ixN;rw [if_neg 123,if_pos 166];show (l++[v])[((-1:Int)+((l++[v]).length:Nat)).toNat]?=_;rw [show ((-1:Int)+((l++[v]).length:Nat)).toNat=l.length from by simp;omega,Y09 176,Y0x];rfl
section
variable {n:Nat}{H0 H:Hh}{w d l s r m c hl:Nat}{bd:Int}{kvs:237}{co:O}{u:Int}{b:Bk}{ts ns kn:D}{rc:163}{pcs A:List Pc}{hs d0:Nat}{x:Str}{kp va vb:D}{b0:Bk}{ts0 ns0 kn0:D}
theorem Ob {t1 t2:D}(q:St H0 H w d l s r m c bd kvs co u .non b ts (.tup [vb,.tup [va,ns]]) kn rc pcs)(hu:u<bd)(hb:b.hd=.loc hl)(gh:H[hl]?=some (.lst ((158++242).map λ p=>.loc p.at_)))
  (hp:∀ p∈158++242,H[p.at_]?=some p.o/\p.at_≠w/\p.at_≠l/\p.at_≠d/\p.at_≠r/\p.at_≠s) (hw':hl≠w) (hl':hl≠l) (hd':hl≠d) (hs':hl≠s) (hr':hl≠r) (l1:pcs.length<300000) (l3:A.length<300000) :
  ∃ H' d' h2,callI defs (n+3) 28 [.loc w,.tup [.str "go",t1,t2]] H=.ok .non H'/\St H0 H' w d' l s r m c bd kvs co (u+1) .non b0 ts0 (.tup [va,ns0]) kn0 rc (A++.sd h2 x vb::.dg d 177 ts ns kn::pcs)/\(∀ i,i<H.length->i≠d')/\Kp w d l s r H H':=by
 obtain ⟨X1,T,q1,g1,k1⟩:=jQ (vs:=[va,vb]) (k:=2) q rfl 123;have le1:H.length<=X1.length:=by have:=zk g1;omega
 have q2:=q1.setW (u+1) .non;have hrne:∀ p∈158++242,X1[p.at_]?=some p.o:=λ p h=>k1 _ _ (hp p h).2.1 (hp p h).2.2.2.1 (hp p h).2.2.1 (hp p h).2.2.2.2.2 (hp p h).2.2.2.2.1 (hp p h).1;have gh1:=k1 _ _ hw' hd' hl' hs' hr' gh;have gd2:=q2.hd;have gw2:=q2.hw;have tk:=Qf (n:=n+1) q1 hu;have up2:∀ (i:Nat) (o:O),i≠w->X1[i]?=some o->(X1.set w 153)[i]?=some o:=λ i o h1 h=>zc h1 h;have jt:(X1.set w 153).length=X1.length:=Y0k;generalize hX2:X1.set w 153=X2 at *
 have gw4:((X2.set d (dg 177 ts ns kn)).set l 195)[w]?=some 153:=zc q1.wl (zc q1.wd gw2);have gd4:((X2.set d (dg 177 ts ns kn)).set l 195)[d]?=some (dg 177 ts ns kn):=zc q1.dl (Y0b (zk gd2));have gl4:((X2.set d (dg 177 ts ns kn)).set l 195)[l]?=some 195:=Y0b (by rw [Y0k];exact zk q2.hl);have up4:∀ (i:Nat) (o:O),i≠w->i≠d->i≠l->X1[i]?=some o->((X2.set d (dg 177 ts ns kn)).set l 195)[i]?=some o:=λ i o h1 h2 h3 h=>zc h3 (zc h2 (up2 i o h1 h));have GR:((X2.set d (dg 177 ts ns kn)).set l 195).length=X1.length:=by rw [Y0k,Y0k,jt]
 have gw3:(X2.set d (dg 177 ts ns kn))[w]?=_:=zc q1.wd gw2;have gl3:(X2.set d (dg 177 ts ns kn))[l]?=some 223:=zc (Ne.symm q1.dl) q2.hl;have AP:=append_at (cl:=callI defs (n+2)) (ρ:=[some (.loc w),some (.tup [.str "go",t1,t2]),some (.loc d),some (.loc (H.length+1))]) (oe:=.fld (.var 0 139) "left" 139) (ae:=.var 2 139) (p1:=139) (p:=139) (bnd rfl (zg gw3 rfl)) gl3 rfl gl3 (by unfold lf;rw [Y08,Y0l];omega);generalize hX4:(X2.set d (dg 177 ts ns kn)).set l 195=X4 at *
 have lfl:(lf pcs++[D.loc d]).length=pcs.length+1:=by unfold lf;simp
 obtain ⟨X5,P5,gl5,gs5,gsd5,GS,up5⟩:=z04 gw4 gl4 (up4 _ _ (Ne.symm q1.ws) (Ne.symm q1.ds) (Ne.symm q1.ls) q1.hs) (up4 _ _ hw' hd' hl' gh1) (λ p h=>up4 _ _ (hp p h).2.1 (hp p h).2.2.2.1 (hp p h).2.2.1 (hrne p h)) q1.ls q1.wl q1.ws hl' hs' (hp (.sd hs x kp) 133).2.2.2.2.2 (by rw [lfl];omega) (by have:=VP pcs.reverse 0;rw [Y0l] at this;show (pl 0 pcs.reverse).length<_;omega) 117;have upA:∀ (i:Nat) (o:O),i≠w->i≠d->i≠l->i≠s->X1[i]?=some o->X5[i]?=some o:=λ i o h1 h2 h3 h4 h=>up5 i o h3 h4 (up4 i o h1 h2 h3 h);have gw5:=up5 w _ q1.wl q1.ws gw4;have gd5:=up5 d _ q1.dl q1.ds gd4;have h0:=hp (.dg d0 b0 ts0 ns0 kn0) 133;have gd0:X5[d0]?=some (dg b0 ts0 ns0 kn0):=upA _ _ h0.2.1 h0.2.2.2.1 h0.2.2.1 h0.2.2.2.2.2 (hrne (.dg d0 b0 ts0 ns0 kn0) 133);have gh5:=upA _ _ hw' hd' hl' hs' gh1;have CP:=Yx (n:=n) gd0;have low:∀ (i:Nat) (o:O),i≠w->X5[i]?=some o->254[i]?=some o:=λ i o h1 h=>zc h1 (za h);have rv:(A++Pc.sd (X4.length+1) x vb::Pc.dg d 177 ts ns kn::pcs).reverse=pcs.reverse++(Pc.dg d 177 ts ns kn::Pc.sd (X4.length+1) x vb::A.reverse):=by simp
 have lfE:lf (A++Pc.sd (X4.length+1) x vb::Pc.dg d 177 ts ns kn::pcs)=(lf pcs++[.loc d])++[.loc (X4.length+1)]++A.reverse.map λ p=>.loc p.at_:=by
  unfold lf;rw [rv,Y0d,Y05,Y05];rfl
 have sgE:sg (A++Pc.sd (X4.length+1) x vb::Pc.dg d 177 ts ns kn::pcs)=sg pcs++pl (lf pcs++[D.loc d]).length 158:=by
  unfold sg;rw [rv,wB,Y0l,Y1j,lfl];rfl
 have q6:St H0 254 w X5.length l s r m c bd kvs co (u+1) .non b0 ts0 ns0 kn0 rc (A++Pc.sd (X4.length+1) x vb::Pc.dg d 177 ts ns kn::pcs):=by
  refine ⟨Y0b (zk (za gw5)),zc (ln gw5) zm,low _ _ (Ne.symm q1.wl) (by rw [lfE];exact gl5),low _ _ (Ne.symm q1.ws) (by rw [sgE];exact gs5),low _ _ (Ne.symm q1.wr) (upA _ _ (Ne.symm q1.wr) (Ne.symm q1.dr) (Ne.symm q1.lr) q1.rs q1.hr),low _ _ (Ne.symm q1.wm) (upA _ _ (Ne.symm q1.wm) (Ne.symm q1.dm) (Ne.symm q1.lm) (Ne.symm q1.sm) q1.hm),low _ _ (Ne.symm q1.wc) (upA _ _ (Ne.symm q1.wc) (Ne.symm q1.dc) (Ne.symm q1.lc) (Ne.symm q1.sc) q1.hc),nl gw5,q1.wl,q1.ws,q1.wr,q1.wm,q1.wc,ln gl5,ln gs5,ln (upA _ _ (Ne.symm q1.wr) (Ne.symm q1.dr) (Ne.symm q1.lr) q1.rs q1.hr),ln (upA _ _ (Ne.symm q1.wm) (Ne.symm q1.dm) (Ne.symm q1.lm) (Ne.symm q1.sm) q1.hm),ln (upA _ _ (Ne.symm q1.wc) (Ne.symm q1.dc) (Ne.symm q1.lc) (Ne.symm q1.sc) q1.hc),q1.lr,q1.ls,q1.lm,q1.lc,q1.rs,q1.rm,q1.rcc,q1.sm,q1.sc,λ p hpm=>?_,λ i o ho=>?_,q1.ow,q1.ol,Y1z (Y29 q1.ow (zk gw5)),q1.ore,q1.os⟩
  ·rcases Y0r.mp hpm with h | h
   ·have hm:p∈158++242:=by simp [h]
    obtain ⟨z1,z2,z3,z4,z5,z6⟩:=hp p hm;have z7:=hrne p hm;exact ⟨low _ _ z2 (upA _ _ z2 z4 z3 z6 z7),z2,z3,nl (upA _ _ z2 z4 z3 z6 z7),z5,z6⟩
   ·rcases Y0g.mp h with rfl | h
    ·exact ⟨low _ _ (big gw4) gsd5,big gw4,big gl4,nl gsd5,big (up4 _ _ (Ne.symm q1.wr) (Ne.symm q1.dr) (Ne.symm q1.lr) q1.hr),big (up4 _ _ (Ne.symm q1.ws) (Ne.symm q1.ds) (Ne.symm q1.ls) q1.hs)⟩
    ·rcases Y0g.mp h with rfl | h
     ·exact ⟨low _ _ (Ne.symm q1.wd) gd5,Ne.symm q1.wd,q1.dl,nl gd5,q1.dr,q1.ds⟩
     ·obtain ⟨z1,z2,z3,z4,z5,z6⟩:=q1.fs p h;exact ⟨low _ _ z2 (upA _ _ z2 z4 z3 z6 z1),z2,z3,nl (upA _ _ z2 z4 z3 z6 z1),z5,z6⟩
  ·exact low _ _ (jx ho q1.ow) (upA _ _ (jx ho q1.ow) (jx ho q1.od) (jx ho q1.ol) (jx ho q1.os) (q1.old i o ho))
 have P:=Wu (n:=n+1) (bl:=b0) (ts:=ts0) (ns:=ns0) (kn:=kn0) (J:=[]) (v:=va) (zk q6.hd);rw [q6.self] at P;refine ⟨_,_,_,?_,q6.M (J:=[]) (vz:=ts0) (vj:=.tup [va,ns0]) (qQ:=kn0),λ i hi=>by omega,λ i o h1 h2 h3 h4 h5 h=>M_o (low i o h1 (upA i o h1 h2 h3 h4 (k1 i o h1 h2 h3 h4 h5 h))) (nl (upA i o h1 h2 h3 h4 (k1 i o h1 h2 h3 h4 h5 h)))⟩;rw [zb (d:=Z3) rfl rfl];have gp2:X2[H.length+1]?=some (.lst [va,vb]):=up2 _ _ (big q.hw) g1;have gp4:X4[H.length+1]?=some (.lst [va,vb]):=up4 _ _ (big q.hw) (big q.hd) (big q.hl) g1;have gp6:254[H.length+1]?=some (.lst [va,vb]):=low _ _ (big q.hw) (upA _ _ (big q.hw) (big q.hd) (big q.hl) (big q.hs) g1);have fh4:yW (.loc d) "held" X4=.ok (.loc hl) X4:=(zg gd4 rfl).trans (by rw [hb]);have fh5:yW (.loc d) "held" X5=.ok (.loc hl) X5:=(zg gd5 rfl).trans (by rw [hb]);have lastE:jf (.loc hl) (.int (-1)) X5=.ok (.loc d0) X5:=jg gh5 (by rw [Y0d];exact VS);exact zH (zd 138 (zd (bnd rfl (bnd rfl T)) (zK (bnd (bnd rfl (bnd rfl tk)) rfl) (zn rfl rfl (zP gd2 133 rfl) (zU (d:=.non) (h':=X4) AP (zU (d:=.non) (h':=X5) (bnd rfl (bnd (bnd (bnd rfl fh4) (bnd (bnd (bnd rfl (bnd rfl (jg gp4 a1))) rfl) rfl)) P5)) (zn (z:=.loc X5.length) (h':=X5++[dg b0 ts0 ns0 kn0]) (bnd (bnd (bnd rfl fh5) (bnd rfl lastE)) (bnd rfl CP)) rfl (zP (za gw5) 133 rfl) (zU (bnd (bnd rfl (zg q6.hw rfl)) (bnd (bnd (bnd rfl (bnd rfl (jg gp6 a0))) rfl) P)) rfl))))) rfl)))
end
noncomputable def tk:List 220->D
 | []=>.non
 | p::r=>.tup [.tup (.str p.1::p.2),tk r]
noncomputable def zt (l:List 220):List D:=(l.filter λ p=>p.1==("clean":Str)).map λ p=>.tup (.str p.1::p.2)
section
variable {n:Nat}{H:Hh}{d:Nat}{b:Bk}{ns kn:D}
theorem Qi:∀ (l:List 220) (X:Hh) (acc:163),(∀ p∈l,PyData.strOk p.1=true)->acc.length+l.length<900000->whR (λ ρ' h'=>w_guards_of_1.evT cl ρ' h') (λ ρ' h'=>b_guards_of_1.run cl ρ' h') [some (.loc d),some 227,some (tk l)] (X++[.lst acc])=.nx [some (.loc d),some 227,some .non] (X++[.lst (acc++zt l)])
 | [],X,acc,_,_=>by
  rw [show zt []=[] from rfl,Y0a];exact jr rfl
 | p::r,X,acc,ho,hl=>by
  have hp:=ho p Y0c;rw [Y03] at hl;have c:je .Eq (.str p.1) (.str "clean") (X++[.lst acc])=.ok (.bl (p.1=="clean")) (X++[.lst acc]):=eqS hp zY;cases hc:(p.1==("clean":Str)) with
  | true =>
   rw [hc] at c;have ih:=Qi (cl:=cl) r X (acc++[.tup (.str p.1::p.2)]) (λ q hq=>ho q (Y06 _ hq)) (by rw [Y01];show acc.length+1+r.length<_;omega);have e:zt (p::r)=.tup (.str p.1::p.2)::zt r:=by unfold zt;rw [List.filter_cons,hc];rfl
   rw [e];rw [Y05] at ih;have st:(X++[O.lst acc]).set X.length (.lst (acc++[.tup (.str p.1::p.2)]))=X++[O.lst (acc++[.tup (.str p.1::p.2)])]:=by
    rw [Y18 _ _ 176,Y0x];rfl
   refine (zX rfl (zK (zj (bnd rfl (bnd rfl (show (match atI (D.str p.1::p.2) 0 with | some d=>Res.ok d _ | none=>.no)=_ from by rw [a0]))) rfl c) (zU (by rw [<- st];exact append_at rfl zm rfl zm 117) rfl) (zd rfl rfl))).trans ih
  | false =>
   rw [hc] at c;have ih:=Qi (cl:=cl) r X acc (λ q hq=>ho q (Y06 _ hq)) 117;have e:zt (p::r)=zt r:=by unfold zt;rw [List.filter_cons,hc];rfl
   rw [e];exact (zX rfl (zx (zj (bnd rfl (bnd rfl (show (match atI (D.str p.1::p.2) 0 with | some d=>Res.ok d _ | none=>.no)=_ from by rw [a0]))) rfl c) (zd rfl rfl))).trans ih
theorem YB (g:H[d]?=some (dg b (tk l) ns kn))(ho:∀ p∈l,PyData.strOk p.1=true)(hl:l.length<900000):callI defs (n+1) 33 [.loc d] H=.ok 151 (H++[.lst (zt l)]):=by
 rw [zb rfl rfl];have L:=Qi (cl:=callI defs n) (d:=d) l H [] ho (by rw [Y1x];omega);rw [Y19] at L;refine zi (zd rfl (zd (bnd rfl (zg (za g) rfl)) ?_));show Ss.run _ (.cons (.whil w_guards_of_1 b_guards_of_1 _) _) [some (.loc d),some 151,some (tk l)] _=_;rw [jE,Zd,L,seqS_nx];exact zr rfl
end
theorem z4b (g:H[i]?=some (dg b ts ns kn)):(match JG "Doing" 145 (.loc i) H with | some b=>Res.ok (D.bl b) H | none=>.no)=.ok (.bl true) H:=by
 have e:JG "Doing" 145 (.loc i) H=some true:=by
  show (match H[i]? with | some (.obj y _)=>if y∈(145:List Str) then some (decide (y="Doing")) else none | _=>none)=_
  rw [g];show (if ("Doing":Str)∈(145:List Str) then some (decide (("Doing":Str)="Doing")) else none)=_
  decide +kernel
 rw [e]
theorem z8j (g:H[i]?=some (sdO x k)):(match JG "Doing" 145 (.loc i) H with | some b=>Res.ok (D.bl b) H | none=>.no)=.ok (.bl false) H:=by
 have e:JG "Doing" 145 (.loc i) H=some false:=by
  show (match H[i]? with | some (.obj y _)=>if y∈(145:List Str) then some (decide (y="Doing")) else none | _=>none)=_
  rw [g];show (if ("Standing":Str)∈(145:List Str) then some (decide (("Standing":Str)="Doing")) else none)=_
  decide +kernel
 rw [e]
theorem z05 (g:H[d]?=some (dg b ts ns kn))(hf:b.free):callI defs (n+1) 31 [.loc d] H=.ok (.bl false) H:=by
 rw [zb rfl rfl];rcases hf with h | ⟨h,k,h2⟩
 ·exact zi (zr (jc (Q4 (zj (bnd rfl (zg g rfl)) rfl (by rw [h];rfl)))))
 ·exact zi (zr (jc (Jc (zj (bnd rfl (zg g rfl)) rfl (by rw [h2];rfl)) (bnd (bnd (bnd rfl (zg g rfl)) rfl) (by rw [h];rfl)))))
theorem YC (g:H[d]?=some (dg b ts ns kn))(h1:b.hd=.loc k)(h2:b.wt=false):callI defs (n+1) 31 [.loc d] H=.ok (.bl true) H:=by
 rw [zb rfl rfl];exact zi (zr (jc (Jc (zj (bnd rfl (zg g rfl)) rfl (by rw [h1];rfl)) (bnd (bnd (bnd rfl (zg g rfl)) rfl) (by rw [h2];rfl)))))
inductive Th (H:Hh)(rr:Nat):List Pc->List D->Nat->Prop
 | nil:Th H rr [] [] 0
 | sd {a:Nat}{x:Str}{k:D}{r:List Pc}{rc:163}{m:Nat}:H[a]?=some (sdO x k)->a≠rr->Th H rr r rc m->Th H rr (.sd a x k::r) rc (m+1)
 | free {a:Nat}{b:Bk}{l:List 220}{ns kn:D}{r:List Pc}{rc:163}{m:Nat}:H[a]?=some (dg b (tk l) ns kn)->a≠rr->(∀ p∈l,PyData.strOk p.1=true)->l.length<900000->b.free->Th H rr r rc m->Th H rr (.dg a b (tk l) ns kn::r) (zt l++rc) (m+1)
 | alone {a hl:Nat}{b:Bk}{l:List (Str×List D)}{ns kn:D}{hp r:List Pc}{rc:List D}{m:Nat}:H[a]?=some (dg b (tk l) ns kn)->a≠rr->(∀ p∈l,PyData.strOk p.1=true)->l.length<900000->b.hd=.loc hl->b.wt=false->hl≠rr->H[hl]?=some (.lst (hp.map λ p=>.loc p.at_))->Th H rr (hp.reverse++r) rc m->Th H rr (.dg a b (tk l) ns kn::r) (zt l++rc) (m+1)
theorem Th.len (h:Th H rr st rc m):st.length<=m:=by
 induction h with
 | nil=>exact Y04 _
 | sd _ _ _ ih=>rw [Y03];omega
 | free _ _ _ _ _ _ ih=>rw [Y03];omega
 | alone _ _ _ _ _ _ _ _ _ ih=>rw [Y01] at ih;rw [Y03];omega
theorem Qj (ho:oe.ev cl ρ H=.ok (.loc n) X)(g:X[n]?=some (.lst (xs++[v]))):E.ev cl (.m0 .pop oe p1 p) ρ H=.ok v (X.set n 210):=by
 rw [vm0];refine bnd ho ?_;simp [m0D,g]
section
variable {n:Nat}{H:Hh}{wl rr:Nat}{r0:Option D}
theorem neN (g:X[wl]?=some (.lst (xs++[v]))):WV true (.loc wl) X=.ok (.bl true) X:=by
 show (match PI.rd X wl with | some xs=>Res.ok (D.bl (ngB true xs.isEmpty)) X | none=>.no)=_
 rw [rdl g];simp [ngB]
theorem z33 {st:List Pc}{rc:163}{m:Nat}(h:Th H rr st rc m):∀ (X:Hh) (x:Option D) (rc0:163),wl≠rr->(∀ (i:Nat) (o:O),H[i]?=some o->i≠rr->i≠wl/\X[i]?=some o) ->
  X[wl]?=some (.lst (lf st))->X[rr]?=some (.lst rc0)->rc0.length+rc.length<900000->m<900000 ->
  ∃ x' X',whR (λ ρ' h'=>w_throw_away_1.evT 182 ρ' h') (λ ρ' h'=>b_throw_away_1.run 182 ρ' h') [r0,some (.loc rr),some (.loc wl),x] X=.nx [r0,some (.loc rr),some (.loc wl),x'] X'/\X'[rr]?=some (.lst (rc0++rc))/\∀ i o,i≠wl->i≠rr->X[i]?=some o->X'[i]?=some o:=by
 induction h with
 | nil =>
  intro X x rc0 _ _ gw gr _ _;exact ⟨x,X,jr (bnd (bnd rfl (by rw [show WV true (.loc wl) X=.ok (.bl false) X from by show (match PI.rd X wl with | some xs=>Res.ok (D.bl (ngB true xs.isEmpty)) X | none=>.no)=_;rw [rdl gw];rfl])) rfl),by rw [Y0a];exact gr,λ i o _ _ h=>h⟩
 | @sd a y k r rc m g na t ih =>
  intro X x rc0 nw K gw gr hl hm;rw [qP] at gw;obtain ⟨a1',a2'⟩:=K _ _ g na;obtain ⟨x',X',e,f1,f2⟩:=ih (X.set wl (.lst (lf r))) (some (.loc a)) rc0 nw (λ i o h1 h2=>⟨(K i o h1 h2).1,zc (K i o h1 h2).1 (K i o h1 h2).2⟩) (Y0b (zk gw)) (zc (Ne.symm nw) gr) hl 117;refine ⟨x',X',Eq.trans (zX (bnd (bnd rfl (neN gw)) rfl) (zd (Qj rfl gw) (zx (bnd (bnd rfl (z8j (zc a1' a2'))) rfl) rfl))) e,f1,λ i o h1 h2 h=>f2 i o h1 h2 (zc h1 h)⟩
 | @free a b l ns kn r rc m g na ho hle hf t ih =>
  intro X x rc0 nw K gw gr hl hm;rw [qP] at gw;rw [Y01] at hl;obtain ⟨a1',a2'⟩:=K _ _ g na;have g1:(X.set wl (.lst (lf r)))[a]?=some (dg b (tk l) ns kn):=zc a1' a2';have gr1:(X.set wl (.lst (lf r)))[rr]?=some (.lst rc0):=zc (Ne.symm nw) gr;have G:=YB (n:=n) g1 ho hle;have lr:=zk gr1;have up:∀ (i:Nat) (o:O),i≠wl->i≠rr->X[i]?=some o->187[i]?=some o:=λ i o h1 h2 h=>zc h2 (za (zc h1 h));obtain ⟨x',X',e,f1,f2⟩:=ih 187 (some (.loc a)) (rc0++zt l) nw (λ i o h1 h2=>⟨(K i o h1 h2).1,up i o (K i o h1 h2).1 h2 (K i o h1 h2).2⟩) (zc nw (za (Y0b (zk gw)))) (Y0b (by rw [Y01];omega)) (by rw [Y01];omega) 117;refine ⟨x',X',Eq.trans (zX (bnd (bnd rfl (neN gw)) rfl) (zd (Qj rfl gw) (zK (bnd (bnd rfl (z4b g1)) rfl) (zU (jT rfl gr1 (bnd rfl (bnd rfl G)) (za gr1) zm 117 117) (zx (bnd (bnd rfl (bnd rfl (z05 (zc na (za g1)) hf))) rfl) rfl)) rfl))) e,by rw [f1,Y05],λ i o h1 h2 h=>f2 i o h1 h2 (up i o h1 h2 h)⟩
 | @alone a hh b l ns kn hp r rc m g na ho hle hb1 hb2 nh gh t ih =>
  intro X x rc0 nw K gw gr hl hm;rw [qP] at gw;rw [Y01] at hl;have tl:=t.len;rw [Y01,Y0l] at tl;obtain ⟨a1',a2'⟩:=K _ _ g na;obtain ⟨b1',b2'⟩:=K _ _ gh nh;have g1:(X.set wl (.lst (lf r)))[a]?=some (dg b (tk l) ns kn):=zc a1' a2';have gr1:(X.set wl (.lst (lf r)))[rr]?=some (.lst rc0):=zc (Ne.symm nw) gr;have G:=YB (n:=n) g1 ho hle;have lr:=zk gr1;have up:∀ (i:Nat) (o:O),i≠wl->i≠rr->X[i]?=some o->187[i]?=some o:=λ i o h1 h2 h=>zc h2 (za (zc h1 h));have gw3:187[wl]?=some (.lst (lf r)):=zc nw (za (Y0b (zk gw)));have gh3:=up _ _ b1' nh b2';have ga3:=up _ _ a1' na a2';have gr3:187[rr]?=some (.lst (rc0++zt l)):=Y0b (by rw [Y01];omega);have lfE:lf (hp.reverse++r)=lf r++hp.map λ p=>.loc p.at_:=by unfold lf;rw [List.reverse_append,Y2s,Y0d]
  have lfl:(lf r).length=r.length:=by unfold lf;rw [Y08,Y0l]
  have X1g:(X.set wl (.lst (lf r))++[O.lst (zt l)])[rr]?=_:=za gr1;have EXT:=jT (ρ:=[r0,some (.loc rr),some (.loc wl),some (.loc a)]) (oe:=.var 1 139) (ae:=.call 33 (.var 3 139) .nil 139 139) (p1:=139) (p:=139) rfl gr1 (bnd rfl (bnd rfl G)) X1g zm 117 117;generalize hY:(X.set wl (.lst (lf r))++[O.lst (zt l)]).set rr (.lst (rc0++zt l))=Y at *
  obtain ⟨x',X',e,f1,f2⟩:=ih (Y.set wl (.lst (lf (hp.reverse++r)))) (some (.loc a)) (rc0++zt l) nw (λ i o h1 h2=>⟨(K i o h1 h2).1,zc (K i o h1 h2).1 (up i o (K i o h1 h2).1 h2 (K i o h1 h2).2)⟩) (Y0b (zk gw3)) (zc (Ne.symm nw) gr3) (by rw [Y01];omega) 117;refine ⟨x',X',Eq.trans (zX (bnd (bnd rfl (neN gw)) rfl) (zd (Qj rfl gw) (zK (bnd (bnd rfl (z4b g1)) rfl) (zU EXT (zK (bnd (bnd rfl (bnd rfl (YC ga3 hb1 hb2))) rfl) (zU (by rw [lfE];exact jT rfl gw3 (bnd rfl ((zg ga3 rfl).trans (by rw [hb1]))) gw3 gh3 (by rw [lfl,Y08];omega) b1') rfl) rfl)) rfl))) e,by rw [f1,Y05],λ i o h1 h2 h=>f2 i o h1 h2 (zc h1 (up i o h1 h2 h))⟩
end
section
variable {n:Nat}{H:Hh}{hl rr:Nat}{hp:List Pc}{rc rc0:163}{m:Nat}
theorem z34 (gh:H[hl]?=some (.lst (hp.map λ p=>.loc p.at_)))(gr:H[rr]?=some (.lst rc0))(t:Th H rr hp.reverse rc m)(h1:rc0.length+rc.length<900000)(h2:m<900000) :
  ∃ X',callI defs (n+2) 32 [.loc hl,.loc rr] H=.ok .non X'/\X'[rr]?=some (.lst (rc0++rc))/\∀ (i:Nat) (o:O),i≠rr->H[i]?=some o->X'[i]?=some o:=by
 have lr:=zk gr;have lfE:lf hp.reverse=hp.map λ p=>D.loc p.at_:=by unfold lf;rw [Y2s]
 obtain ⟨x',X',e,f1,f2⟩:=z33 (wl:=H.length) t (H++[.lst (hp.map λ p=>.loc p.at_)]) none rc0 117 (λ i o h _=>⟨by have:=zk h;omega,za h⟩) (by rw [lfE];exact zm) (za gr) h1 h2;refine ⟨X',?_,f1,λ i o hn h=>f2 i o (by have:=zk h;omega) hn (za h)⟩;rw [zb rfl rfl];have sq:jY (.loc hl) H=some (hp.map λ p=>D.loc p.at_):=rdl gh;refine zH (ρ:=[some (.loc hl),some (.loc rr),some 151,x']) (zd (vlistE.trans (bnd rfl (by rw [sq];rfl))) ?_);show Ss.run _ (.cons (.whil w_throw_away_1 b_throw_away_1 _) _) [some (.loc hl),some (.loc rr),some 151,none] _=_;rw [jE,Zd,e,seqS_nx];rfl
end
abbrev blN:D:=.tup [.non,.non]
theorem zai (hg:PyData.strOk g=true):je .Eq (.str g) .non H=.ok (.bl false) H:=if_pos ⟨hg,rfl,Y1w _⟩
section
variable {n:Nat}{H0 H:Hh}{w d l s r m c:Nat}{bd:Int}{kvs:237}{co:O}{u:Int}{b:Bk}{ts ns kn:D}{rc:163}{pcs:List Pc}
theorem Oc (hg:PyData.strOk g=true):callI defs (n+1) 1 [.str g,blN] H=.ok (.str g) H:=by
 rw [zb rfl rfl];exact zi (zr (BZ (bnd rfl (bnd rfl (zai hg))) rfl))
theorem Od:callI defs (n+1) 1 [.non,blN] H=.ok .non H:=by
 rw [zb rfl rfl];exact zi (zr (BZ rfl rfl))
theorem YD {g:Str}{vs:List Int}{as:163}{nm body:D}{ps:XY} (q:St H0 H w d l s r m c bd kvs co u .non b ts (qI ns (vs.map .int).reverse) kn rc pcs) (hb:b.bl=blN) (hl:as.length=vs.length) (hs:vs.length<1000) (hf:pcs.length<900000) (hg:PyData.strOk g=true) (hv:zF kvs (.inr g)=some (.tup [.str "def",nm,.tup (ps.map .str),.non,body])) (hu:u<bd) :
  ∃ H' d',callI defs (n+2) 24 [.loc w,jM g .non as] H=.ok .non H'/\St H0 H' w d' l s r m c bd kvs co (u+1) .non ⟨blN,.non,false⟩ (.tup [body,.non]) .non (knD (ps.zip vs).reverse) rc (.dg d b ts ns kn::pcs)/\(∀ i,i<H.length->i≠d')/\Kp w d l s r H H':=by
 obtain ⟨X1,T,q1,g1,k1⟩:=jQ (k:=as.length) q (by simp [hl]) 117;have lw:=zk q.hw;have ll:=zk q.hl;have le1:H.length<=X1.length:=by have:=zk g1;omega
 have q2:=q1.setW (u+1) .non;have tk:=Qf (n:=n) q1 hu;have k2:Kp w d l s r H (X1.set w 153):=λ i o h1 h2 h3 h4 h5 h=>zc h1 (k1 i o h1 h2 h3 h4 h5 h);have g2:(X1.set w 153)[H.length+1]?=some (.lst (vs.map .int)):=zc 117 g1;have jt:(X1.set w 153).length=X1.length:=Y0k;generalize hX:X1.set w 153=X2 at *
 have q3:=q2.under (vy:=.dg d b ts ns kn::pcs) (b':=⟨blN,.non,false⟩) (t:=.tup [body,.non]) (vj:=.non) (k:=knD (ps.zip vs).reverse) λ p hp=>by
  rw [Y0a];rcases Y0g.mp hp with rfl | hp
  ·exact ⟨q2.hd,Ne.symm q2.wd,q2.dl,q2.dr,q2.ds⟩
  ·exact ⟨(q2.fs p hp).1,(q2.fs p hp).2.1,(q2.fs p hp).2.2.1,(q2.fs p hp).2.2.2.2.1,(q2.fs p hp).2.2.2.2.2⟩
 rw [Y0a,qx (show X2[s]?=some (.lst (sg (.dg d b ts ns kn::pcs))) by rw [q2.hs,z49]),qP] at q3;have q3:St H0 ((X2.set l 195++[dg ⟨blN,.non,false⟩ (.tup [body,.non]) .non (knD (ps.zip vs).reverse)]).set w (wk 221 (.loc c) (.int bd) X2.length l s r (u+1) .non)) w X2.length l s r m c bd kvs co (u+1) .non ⟨blN,.non,false⟩ (.tup [body,.non]) .non (knD (ps.zip vs).reverse) rc (.dg d b ts ns kn::pcs):=q3;refine ⟨_,_,?_,q3,λ i hi=>by omega,λ i o h1 h2 h3 h4 h5 h=>zc h1 (za (zc h3 (k2 i o h1 h2 h3 h4 h5 h)))⟩;rw [zb rfl rfl];have g3:(X2.set l 195)[H.length+1]?=some (.lst (vs.map .int)):=zc 117 g2;have l3:(X2.set l 195).length=X2.length:=Y0k;have hw3:(X2.set l 195)[w]?=_:=zc q2.wl q2.hw;have A:=append_at (cl:=callI defs (n+1)) (ρ:=[some (.loc w),some (jM g .non as),some (.loc d),some (.loc (H.length+1)),some (.tup [.str "def",nm,.tup (ps.map .str),.non,body]),some blN]) (oe:=.fld (.var 0 139) "left" 139) (ae:=.var 2 139) (p1:=139) (p:=139) (bnd rfl (zg q2.hw rfl)) q2.hl rfl q2.hl (by unfold lf;rw [Y08,Y0l];omega);generalize hX3:X2.set l 195=X3 at g3 l3 hw3 A;have Dd:callI defs (n+1) 51 [.loc X3.length,body,knD (ps.zip vs).reverse,blN,.non] (X3++[.obj "Doing" []])=.ok .non (X3++[dg ⟨blN,.non,false⟩ (.tup [body,.non]) .non (knD (ps.zip vs).reverse)]):=Wv;have fb:yW (.loc d) "block" X2=.ok blN X2:=(zg q2.hd rfl).trans (by rw [hb]);refine zH (zd 138 (zd (bnd rfl (bnd rfl T)) (zK (bnd (bnd rfl (bnd rfl tk)) rfl) (zd (bnd (bnd rfl (zg q2.hw rfl)) (bnd (bnd rfl (bnd (bnd (bnd rfl fb) rfl) (Oc hg))) (yF q2.hm hv))) (zd (jP rfl (bnd rfl (bnd (bnd (bnd rfl fb) rfl) Od))) (zU A
  (zn (vmk.trans (bnd rfl (bnd (bnd (bnd rfl (bnd rfl (Yv g3))) rfl) (by rw [Dd];rfl)))) rfl ((zP (za hw3) 133 rfl).trans (by rw [l3];rfl)) rfl)))) rfl)))
end
structure Cx where
 n:Nat
 H0:Hh
 w:Nat
 r:Nat
 m:Nat
 c:Nat
 bd:Int
 kvs:List (Key×D)
 cvs:List (List Key×D)
structure Lc where
 d:Nat
 l:Nat
 s:Nat
 H:Hh
abbrev Cx.Se (C:Cx)(X:Lc)(u:Int)(e:D)(b:Bk)(ts ns kn:D)(rc:163)(pcs:List Pc):Prop:=St C.H0 X.H C.w X.d X.l X.s C.r C.m C.c C.bd C.kvs (.dT C.cvs) u e b ts ns kn rc pcs
abbrev Cx.S (C:Cx)(X:Lc)(u:Int)(b:Bk)(ts ns kn:D)(rc:163)(pcs:List Pc):Prop:=C.Se X u .non b ts ns kn rc pcs
noncomputable def Sf (C:Cx)(X:Lc)(i:Nat)(o:O):Prop:=X.H[i]?=some o/\i≠C.w/\i≠X.l/\i≠X.d/\i≠C.r/\i≠X.s
noncomputable def Fr (C:Cx)(X Y:Lc):Prop:=∀ i o,Sf C X i o->Sf C Y i o
abbrev wW:D:=.tup [.str "spent"]
noncomputable def Fin (C:Cx)(F:235):List 183->Int->List D->Hh->Prop
 | [],u,rc,H=>F u rc H
 | none::T,u,rc,H=>if u<C.bd then Fin C F T (u+1) rc H else ∃ d l s b ts ns kn pcs,C.Se ⟨d,l,s,H⟩ u wW b ts ns kn rc pcs
 | some e::T,u,rc,H=>Fin C F T u (rc++[e]) H
noncomputable def Ends (C:Cx)(X:Lc)(Q:Hh->Prop):Prop:=∀ x y,∃ ρ' H',Lp (C.n+1) [some (.loc C.w),x,y] X.H=.nx ρ' H'/\Q H'
noncomputable def G (C:Cx)(F:235)(T:List 183)(u:Int)(rc:163)(X:Lc):Prop:=rc.length+T.length<400000->Ends C X (Fin C F T u rc)
section
variable {C:Cx}{X Y Z:Lc}{F:235}{T:List 183}{u:Int}{b b':Bk}{ts ns kn vz vj qQ e:D}{rc:163}{pcs:List Pc}
theorem Fr.tr (a:Fr C X Y)(b:Fr C Y Z):Fr C X Z:=λ i o h=>b i o (a i o h)
theorem Fr.rfl':Fr C X X:=λ _ _ h=>h
theorem Fr.kp (k:Kp C.w X.d X.l X.s C.r X.H H')(h:∀ i,i<X.H.length->i≠X.l->i≠X.s->i≠X.d->i≠d'/\i≠l'/\i≠s'):Fr C X ⟨d',l',s',H'⟩:=λ i o ⟨a,b,c,d,e,f⟩ =>
 ⟨k i o b d c f e a,b,(h i (zk a) c f d).2.1,(h i (zk a) c f d).1,e,(h i (zk a) c f d).2.2⟩
theorem Fr.same (k:Kp C.w X.d X.l X.s C.r X.H H'):Fr C X ⟨X.d,X.l,X.s,H'⟩:=Fr.kp k λ i _ h1 h2 h3=>⟨h3,h1,h2⟩
theorem Fr.new (k:Kp C.w X.d X.l X.s C.r X.H H')(h:∀ i,i<X.H.length->i≠d'):Fr C X ⟨d',X.l,X.s,H'⟩:=Fr.kp k λ i h0 h1 h2 h3=>⟨h i h0,h1,h2⟩
theorem tsk {tk:D}{h2:Hh}{x y:Option D}(q:C.S X u b (.tup [tk,ts]) ns kn rc pcs)(c:callI defs (C.n+4) 14 [.loc C.w,tk] (M X.H X.d b ts ns kn [])=.ok .non h2):Lp (C.n+1) [some (.loc C.w),x,y] X.H=Lp (C.n+1) [some (.loc C.w),some (.loc X.d),some tk] h2:=by
 have:=turn (x:=x) (y:=y) q.at c
 rw [q.self] at this;exact this
theorem lve (q:C.S X u b .non ns kn rc pcs)(c:callI defs (C.n+4) 30 [.loc C.w] X.H=.ok .non h2):Lp (C.n+1) [some (.loc C.w),x,y] X.H=Lp (C.n+1) [some (.loc C.w),some (.loc X.d),y] h2 :=
 zX (zj 138 rfl rfl) (zd 138 (zK (zj (bnd rfl (zg q.hd rfl)) rfl rfl) (zU (bnd rfl (bnd rfl c)) rfl) rfl))
theorem Qk (q:C.Se X u (.tup z) b ts ns kn rc pcs):Lp (C.n+1) [some (.loc C.w),x,y] X.H=.nx [some (.loc C.w),x,y] X.H :=
 jr (zj 138 rfl rfl)
theorem G.by (h:∀ x y,∃ x' y',Lp (C.n+1) [some (.loc C.w),x,y] X.H=Lp (C.n+1) [some (.loc C.w),x',y'] Y.H)(g:G C F T u rc Y):G C F T u rc X:=λ l x y=>by
 obtain ⟨x',y',e⟩:=h x y;obtain ⟨ρ,H',e2,p⟩:=g l x' y';exact ⟨ρ,H',e.trans e2,p⟩
theorem G.rec (g:G C F T u (rc++[a]) X):G C F (some a::T) u rc X:=λ l=>g (by rw [Y01];rw [Y03] at l;show rc.length+1+_<_;omega)
theorem G.recs:∀ {l:163}{rc:163},G C F T u (rc++l) X->G C F (l.map some++T) u rc X
 | [],rc,g=>by rw [Y0a] at g;exact g
 | a::l,rc,g=>G.rec (G.recs (by rw [Y05];exact g))
theorem smp {tk:D}(q:C.S X u b (.tup [tk,ts]) ns kn rc pcs)(c:callI defs (C.n+4) 14 [.loc C.w,tk] (M X.H X.d b ts ns kn [])=.ok .non (M X.H X.d b vz vj qQ J))(k:∀ Y,Fr C X Y->C.S Y u b vz vj qQ rc pcs->G C F T u rc Y):G C F T u rc X :=
 G.by (λ x y=>⟨_,_,tsk q c⟩) (k _ (Fr.same Kp.M) q.M)
theorem Ql:(M X.H X.d b ts ns kn []).length=X.H.length:=by rw [VL];rfl
theorem frM (k:Kp C.w X.d X.l X.s C.r (M X.H X.d b ts ns kn []) H'):Kp C.w X.d X.l X.s C.r X.H H':=λ i o h1 h2 h3 h4 h5 h=>k i o h1 h2 h3 h4 h5 (M_o h h2)
theorem jN (q:C.S X u b (.tup [.tup [.str "num",v],ts]) ns kn rc pcs) (k:∀ Y,Fr C X Y->C.S Y u b ts 155 kn rc pcs->G C F T u rc Y):G C F T u rc X:=smp q (UT q.at) k
theorem wH (q:C.S X u b (.tup [.tup [.str "var",.str x],ts]) ns (knD kl) rc pcs) (hx:PyData.strOk x=true) (hk:∀ p∈kl,PyData.strOk p.1=true) (e:kl.lookup x=some v) (k:∀ Y,Fr C X Y->C.S Y u b ts (.tup [.int v,ns]) (knD kl) rc pcs->G C F T u rc Y):G C F T u rc X:=smp q (UU q.at hx hk e) k
theorem z6l (q:C.S X u b (.tup [.tup [.str "drop"],ts]) ns (.tup [x,k']) rc pcs) (k:∀ Y,Fr C X Y->C.S Y u b ts ns k' rc pcs->G C F T u rc Y):G C F T u rc X:=smp q (Yu q.at) k
theorem Qm (q:C.S X u b (.tup [.tup [.str "op",x,a,c],ts]) ns kn rc pcs) (k:∀ Y,Fr C X Y->C.S Y u b (.tup [a,.tup [c,.tup [.tup [.str "then",.tup [.str "op",x,a,c]],ts]]]) ns kn rc pcs->G C F T u rc Y):G C F T u rc X:=smp q (j7 q.at z41 rfl rfl rfl rfl rfl UP) k
theorem jm (q:C.S X u b (.tup [.tup [.str "then",.tup [.str "op",.str x,a,c]],ts]) (.tup [.int v2,.tup [.int v1,ns]]) kn rc pcs) (hs:Sg x) (h1:Sm v1) (h2:Sm v2) (hv:qT x v1 v2=some v) (k:∀ Y,Fr C X Y->C.S Y u b ts (.tup [.int v,ns]) kn rc pcs->G C F T u rc Y):G C F T u rc X:=smp q (zD q.at z8e (O7 q.at hs h1 h2 hv)) k
theorem z06 (q:C.S X u b (.tup [.tup [.str "let",x,a,c],ts]) ns kn rc pcs) (k:∀ Y,Fr C X Y->C.S Y u b (.tup [a,.tup [.tup [.str "then",.tup [.str "let",x,a,c]],ts]]) ns kn rc pcs->G C F T u rc Y):G C F T u rc X:=smp q (j7 q.at BT rfl rfl rfl rfl rfl Yt) k
theorem Jp (q:C.S X u b (.tup [.tup [.str "then",.tup [.str "let",x,a,c]],ts]) 155 kn rc pcs) (k:∀ Y,Fr C X Y->C.S Y u b (.tup [c,.tup [.tup [.str "drop"],ts]]) ns (.tup [.tup [x,v],kn]) rc pcs->G C F T u rc Y):G C F T u rc X:=smp q (zD q.at z6i (UV q.at)) k
theorem z8k (q:C.S X u b (.tup [.tup [.str "if",a,c,d],ts]) ns kn rc pcs) (k:∀ Y,Fr C X Y->C.S Y u b (.tup [a,.tup [.tup [.str "then",.tup [.str "if",a,c,d]],ts]]) ns kn rc pcs->G C F T u rc Y):G C F T u rc X:=smp q (j7 q.at z3z rfl rfl rfl rfl rfl UQ) k
theorem Wz (q:C.S X u b (.tup [.tup [.str "then",.tup [.str "if",a,c,d]],ts]) (.tup [.int v,ns]) kn rc pcs) (k:∀ Y,Fr C X Y->C.S Y u b (.tup [if v=0 then d else c,ts]) ns kn rc pcs->G C F T u rc Y):G C F T u rc X:=smp q (zD q.at z8f (O8 q.at)) k
theorem Jq (q:C.S X u b (.tup [.tup [.str "guard",a,c],ts]) ns kn rc pcs) (k:∀ Y,Fr C X Y->C.S Y u b (.tup [a,.tup [.tup [.str "then",.tup [.str "guard",a,c]],ts]]) ns kn rc pcs->G C F T u rc Y):G C F T u rc X:=smp q (j7 q.at qH rfl rfl rfl rfl rfl JL) k
theorem YE (q:C.S X u b (.tup [.tup [.str "do",x,a],ts]) ns kn rc pcs) (k:∀ Y,Fr C X Y->C.S Y u b (.tup [a,.tup [.tup [.str "then",.tup [.str "do",x,a]],ts]]) ns kn rc pcs->G C F T u rc Y):G C F T u rc X:=smp q (j7 q.at Ys rfl rfl rfl rfl rfl UO) k
theorem WA (q:C.S X u b (.tup [.tup [.str "handle",x,a,c],ts]) ns kn rc pcs) (k:∀ Y,Fr C X Y->C.S Y u b (.tup [a,.tup [.tup [.str "then",.tup [.str "handle",x,a,c]],ts]]) ns kn rc pcs->G C F T u rc Y):G C F T u rc X:=smp q (j7 q.at Wt rfl rfl rfl rfl rfl Jl) k
theorem z4c (q:C.S X u b (.tup [.tup [.str "go",a,c],ts]) ns kn rc pcs) (k:∀ Y,Fr C X Y->C.S Y u b (.tup [a,.tup [c,.tup [.tup [.str "then",.tup [.str "go",a,c]],ts]]]) ns kn rc pcs->G C F T u rc Y):G C F T u rc X:=smp q (j7 q.at z42 rfl rfl rfl rfl rfl US) k
theorem Qn (q:C.S X u b (.tup [jM g bb as,ts]) ns kn rc pcs) (k:∀ Y,Fr C X Y->C.S Y u b (yE (.tup [.tup [.str "then",jM g bb as],ts]) as) ns kn rc pcs->G C F T u rc Y):G C F T u rc X:=smp q (Yw q.at) k
abbrev clD (v:D):D:=.tup [.str "clean",v]
abbrev guD (v:D):D:=.tup [.str "guard",v]
theorem Kp.tr (a:Kp w d l s r A B)(b:Kp w d l s r B D'):Kp w d l s r A D':=λ i o h1 h2 h3 h4 h5 h=>b i o h1 h2 h3 h4 h5 (a i o h1 h2 h3 h4 h5 h)
theorem Kp.R:Kp w d l s r H (H.set r o):=λ _ _ _ _ _ _ h5 h=>zc h5 h
theorem rct {tk a:D}(q:C.S X u b (.tup [tk,ts]) ns kn rc pcs)(c:callI defs (C.n+4) 14 [.loc C.w,tk] (M X.H X.d b ts ns kn [])=.ok .non h2)(q2:C.S ⟨X.d,X.l,X.s,h2⟩ u b vz vj qQ (rc++[a]) pcs)(kp:Kp C.w X.d X.l X.s C.r (M X.H X.d b ts ns kn []) h2)(k:∀ Y,Fr C X Y->C.S Y u b vz vj qQ (rc++[a]) pcs->G C F T u (rc++[a]) Y):G C F (some a::T) u rc X:=λ l =>
 G.by (λ x y=>⟨_,_,tsk q c⟩) (G.rec (k _ (Fr.same (frM kp)) q2)) l
theorem VT (q:C.S X u b (.tup [clD v,ts]) ns kn rc pcs)(k:∀ Y,Fr C X Y->C.S Y u b ts ns kn (rc++[clD v]) pcs->G C F T u (rc++[clD v]) Y):G C F (some (clD v)::T) u rc X:=λ l=>by
 have q1:C.S ⟨X.d,X.l,X.s,M X.H X.d b ts ns kn []⟩ u b ts ns kn rc pcs:=q.M;refine rct q ?_ (q1.setR _) Kp.R k l;rw [zb rfl rfl];exact zH (zd (bnd rfl (zg q1.hw rfl)) (j0 (zj rfl rfl (eqS zY qG)) (j0 (zj rfl rfl (eqS zY yj)) (j0 (zj rfl rfl (eqS zY we)) (j0 (zj rfl rfl (eqS zY wf)) (zK (zj rfl rfl (eqS zY zY)) (zU (append_at (bnd rfl (zg q1.hw rfl)) q1.hr rfl q1.hr 117) rfl) rfl) rfl) rfl) rfl) rfl))
theorem wX {a c v:D} (q:C.S X u b (.tup [.tup [.str "then",.tup [.str "guard",a,c]],ts]) 155 kn rc pcs) (k:∀ Y,Fr C X Y->C.S Y u b (.tup [c,.tup [clD v,ts]]) ns kn (rc++[guD v]) pcs->G C F T u (rc++[guD v]) Y):G C F (some (guD v)::T) u rc X:=λ l=>by
 have q0:C.S ⟨X.d,X.l,X.s,M X.H X.d b ts 155 kn []⟩ u b ts 155 kn rc pcs:=q.M;obtain ⟨X1,t,q1,g1,k1⟩:=jQ (vs:=[v]) (k:=1) q0 rfl 123;have q2:=q1.setR (rc++[guD v]);have q3:=q2.M (J:=[]) (vz:=.tup [c,.tup [clD v,ts]]) (vj:=ns) (qQ:=kn);refine rct q (zD q.at z00 ?_) q3 (k1.tr (Kp.R.tr Kp.M)) k l;rw [zb (d:=wT) rfl rfl];have f:=wb (bl:=b) (ts:=ts) (ns:=ns) (kn:=kn) (J:=[]) (zk q2.hd);have S:=qO (bl:=b) (ts:=ts) (ns:=ns) (kn:=kn) (J:=[]) (z:=.tup [c,.tup [clD v,ts]]) (zk q2.hd);rw [q2.self] at f S;exact zH (zd (bnd rfl (zg q0.hw rfl)) (zd (bnd (bnd rfl (bnd rfl t)) (bnd rfl (jg g1 a0))) (zU (append_at (bnd rfl (zg q1.hw rfl)) q1.hr rfl q1.hr 117) (zn (jP rfl (jP rfl (bnd rfl f))) rfl S rfl))))
end
section
variable {n:Nat}{H0 H X':Hh}{w d l s r m c hl:Nat}{bd:Int}{kvs:237}{co:O}{u:Int}{b:Bk}{ts ns kn e v a:D}{rc vq:163}{pcs hp:List Pc}{k:Nat}{x:Str}
theorem St.keep (q:152)(k:∀ (i:Nat) (o:O),i≠r->H[i]?=some o->X'[i]?=some o)(gr:X'[r]?=some (.lst vq)):St H0 X' w d l s r m c bd kvs co u e b ts ns kn vq pcs :=
 ⟨k _ _ q.wr q.hw,k _ _ q.dr q.hd,k _ _ q.lr q.hl,k _ _ (Ne.symm q.rs) q.hs,gr,k _ _ (Ne.symm q.rm) q.hm,k _ _ (Ne.symm q.rcc) q.hc,q.wd,q.wl,q.ws,q.wr,q.wm,q.wc,q.dl,q.ds,q.dr,q.dm,q.dc,q.lr,q.ls,q.lm,q.lc,q.rs,q.rm,q.rcc,q.sm,q.sc,
  λ f hf=>⟨k _ _ (q.fs f hf).2.2.2.2.1 (q.fs f hf).1,(q.fs f hf).2⟩,λ i o ho=>k _ _ (jx ho q.ore) (q.old i o ho),q.ow,q.ol,q.od,q.ore,q.os⟩
theorem z07 (q:207)(h1:b.hd=.loc hl)(h2:b.wt=false)(gh:H[hl]?=some (.lst (hp.map λ p=>.loc p.at_)))(t:Th H r hp.reverse vq k)(l1:rc.length+vq.length<900000)(l2:k<900000) :
  ∃ X',Ss.run (callI defs (n+2)) (wG 2 d_leave.body) [some (.loc w),none,none,none] H=.nx [some (.loc w),some v,none,none] X'/\St H0 X' w d l s r m c bd kvs co u .non b ts 155 kn (rc++vq) pcs/\∀ (i:Nat) (o:O),i≠r->H[i]?=some o->X'[i]?=some o:=by
 obtain ⟨X',e,gr,kp⟩:=z34 gh q.hr t l1 l2;refine ⟨X',?_,q.keep kp gr,kp⟩;exact zd (bnd (bnd 138 (zg q.hd rfl)) rfl) (zK (bnd (bnd 138 (bnd rfl (YC q.hd h1 h2))) rfl) (zU (bnd (bnd 138 ((zg q.hd rfl).trans (by rw [h1]))) (bnd (bnd 138 rfl) e)) rfl) rfl)
theorem Jr (q:207)(hu:¬ u<bd):∃ H',callI defs (n+2) 26 [.loc w,.tup [.str "do",.str x,a]] H=.ok .non H'/\St H0 H' w d l s r m c bd kvs co u wW b ts ns kn rc pcs:=by
 obtain ⟨X1,T,q1,g1,_⟩:=jQ (vs:=[v]) (k:=1) q rfl 123;refine ⟨_,?_,q1.setW u wW⟩;rw [zb rfl rfl];exact zi (zd rfl (zd (bnd (bnd 138 (bnd rfl T)) (bnd rfl (jg g1 a0))) (Ze (bnd (bnd (bnd rfl (bnd rfl (Qg q1 hu))) rfl) rfl) rfl)))
theorem UY (q:St H0 H w d l s r m c bd kvs co u .non b ts (.tup [v,.tup [va,ns]]) kn rc pcs)(hu:¬ u<bd):∃ H',callI defs (n+2) 28 [.loc w,.tup [.str "go",t1,t2]] H=.ok .non H'/\St H0 H' w d l s r m c bd kvs co u wW b ts ns kn rc pcs:=by
 obtain ⟨X1,T,q1,g1,_⟩:=jQ (vs:=[va,v]) (k:=2) q rfl 123;refine ⟨_,?_,q1.setW u wW⟩;rw [zb rfl rfl];exact zH (zd 138 (zd (bnd rfl (bnd rfl T)) (zx (bnd (bnd rfl (bnd rfl (Qg q1 hu))) rfl) rfl)))
theorem Qo {vs:List Int}(q:St H0 H w d l s r m c bd kvs co u .non b ts (qI ns (vs.map .int).reverse) kn rc pcs)(hl:as.length=vs.length)(hs:vs.length<1000)(hu:¬ u<bd):∃ H',callI defs (n+2) 24 [.loc w,jM g .non as] H=.ok .non H'/\St H0 H' w d l s r m c bd kvs co u wW b ts ns kn rc pcs:=by
 obtain ⟨X1,T,q1,g1,_⟩:=jQ (k:=as.length) q (by simp [hl]) 117;refine ⟨_,?_,q1.setW u wW⟩;rw [zb rfl rfl];exact zH (zd 138 (zd (bnd rfl (bnd rfl T)) (zx (bnd (bnd rfl (bnd rfl (Qg q1 hu))) rfl) rfl)))
end
section
variable {C:Cx}{X Y Z:Lc}{F:235}{T:List 183}{u:Int}{b b':Bk}{ts ns kn vz vj qQ v:D}{rc vq:163}{pcs A B:List Pc}{x:Str}{hl:Nat}
theorem G.turn {tk:D}(q:C.S X u b (.tup [tk,ts]) ns kn rc pcs)(h:¬ u<C.bd->∃ H',callI defs (C.n+4) 14 [.loc C.w,tk] (M X.H X.d b ts ns kn [])=.ok .non H'/\∃ vj,C.Se ⟨X.d,X.l,X.s,H'⟩ u wW b ts vj kn rc pcs)
  (g:u<C.bd->∃ Y,callI defs (C.n+4) 14 [.loc C.w,tk] (M X.H X.d b ts ns kn [])=.ok .non Y.H/\G C F T (u+1) rc Y):G C F (none::T) u rc X:=λ l x y=>by
 by_cases hu:u<C.bd
 ·obtain ⟨Y,e,k⟩:=g hu;obtain ⟨ρ,H',e2,p⟩:=k (by rw [Y03] at l;omega) (some (.loc X.d)) (some tk);exact ⟨ρ,H',(tsk q e).trans e2,by rw [Fin,if_pos hu];exact p⟩
 ·obtain ⟨H',e,vj,p⟩:=h hu;exact ⟨_,H',(tsk q e).trans (Qk p),by rw [Fin,if_neg hu];exact ⟨_,_,_,_,_,_,_,_,p⟩⟩
theorem YF (q:C.S X u b (.tup [.tup [.str "then",.tup [.str "handle",.str x,a,tb]],ts]) 155 kn rc pcs) (hp:pcs.length<300000) (k:∀ Y d hs,Fr C X Y->C.S Y u ⟨b.bl,.non,false⟩ (.tup [tb,.non]) .non kn rc (.sd hs x v::.dg d b ts ns kn::pcs)->G C F T u rc Y):G C F T u rc X:=by
 have q0:C.S ⟨X.d,X.l,X.s,M X.H X.d b ts 155 kn []⟩ u b ts 155 kn rc pcs:=q.M;obtain ⟨H',d',hs,e,q2,nw,kp⟩:=JM q0 117;exact G.by (λ _ _=>⟨_,_,tsk q (zD q.at O9 e)⟩) (k _ _ _ (Fr.new (frM kp) λ i hi=>nw i (by show i<(M X.H X.d b ts 155 kn []).length;rw [Ql];exact hi)) q2)
theorem z35 (q:C.S X u b (.tup [.tup [.str "then",.tup [.str "do",.str dd,a]],ts]) 155 kn rc (A++.sd hs x kp::B)) (hn:(A++Pc.sd hs x kp::B).length<300000) (hA:∀ a y k,Pc.sd a y k∈A->(zF C.cvs [.inr y,.inr dd]).isSome=false) (hx:zF C.cvs [.inr x,.inr dd]=some (.tup [c0,y,z,tb]))
  (k:∀ Y d hl,Fr C X Y->C.S Y (u+1) ⟨blN,.loc hl,false⟩ (.tup [tb,.non]) .non (.tup 159) (rc++[doD dd v]) B->Sf C Y hl (.lst ((158++[Pc.dg d b ts ns kn]).map λ p=>.loc p.at_))->(∀ p∈158++[Pc.dg d b ts ns kn],Sf C Y p.at_ p.o)->G C F T (u+1) (rc++[doD dd v]) Y):G C F (none::some (doD dd v)::T) u rc X:=λ le=>by
 have q0:C.S ⟨X.d,X.l,X.s,M X.H X.d b ts 155 kn []⟩ u b ts 155 kn rc (A++.sd hs x kp::B):=q.M;refine G.turn q (λ hu=>?_) (λ hu=>?_) le
 ·obtain ⟨H',e,p⟩:=Jr q0 hu;exact ⟨H',zD q.at VN e,_,p⟩
 ·obtain ⟨H',d',l',s',hl,e,q2,g1,g2,g3,nw,lh,n1,n2,n3,kk⟩:=Oa q0 117 hu 117 hA hx;have l0:(M X.H X.d b ts 155 kn []).length=X.H.length:=Ql;have fr:Fr C X ⟨d',l',s',H'⟩:=Fr.kp (frM kk) λ i hi _ _ _=>⟨(nw i (by show i<(M X.H X.d b ts 155 kn []).length;omega)).1,(nw i (by show i<(M X.H X.d b ts 155 kn []).length;omega)).2.1,(nw i (by show i<(M X.H X.d b ts 155 kn []).length;omega)).2.2⟩;have ld:=zk q.hd;have nd:=nw X.d (by show X.d<(M X.H X.d b ts 155 kn []).length;omega);have lw:=zk q.hw;have lr:=zk q.hr;have lh:X.H.length<=hl:=by rw [<- l0];exact lh
  refine ⟨⟨d',l',s',H'⟩,zD q.at VN e,G.rec (k _ X.d hl fr q2 ⟨?_,by omega,n2,n1,by omega,n3⟩ λ p hp=>?_)⟩
  ·rw [g1];simp [lf,Pc.at_]
  ·rcases Y0r.mp hp with h | h
   ·have hm:p∈A++Pc.sd hs x kp::B:=by
     rcases Y0g.mp h with h | h
     ·rw [h];exact Y0q _ Y0c
     ·exact Y0v _ (List.mem_reverse.mp h)
    exact fr _ _ (q.fs p hm)
   ·rw [Y07.mp h];exact ⟨g2,Ne.symm q.wd,nd.2.1,nd.1,q.dr,nd.2.2⟩
theorem z8l (q:C.S X u b (.tup [.tup [.str "then",.tup [.str "go",t1,t2]],ts]) (.tup [vb,.tup [va,ns]]) kn rc pcs) (hb:b.hd=.loc hl) (gh:Sf C X hl (.lst ((158++242).map λ p=>.loc p.at_)))
  (hp:∀ p∈158++242,Sf C X p.at_ p.o) (l1:pcs.length<300000) (l3:A.length<300000)
  (k:∀ Y d h2,Fr C X Y->C.S Y (u+1) b0 ts0 (.tup [va,ns0]) kn0 rc (A++.sd h2 x vb::.dg d 177 ts ns kn::pcs)->G C F T (u+1) rc Y):G C F (none::T) u rc X:=by
 have q0:C.S ⟨X.d,X.l,X.s,M X.H X.d b ts (.tup [vb,.tup [va,ns]]) kn []⟩ u b ts (.tup [vb,.tup [va,ns]]) kn rc pcs:=q.M;refine G.turn q (λ hu=>?_) (λ hu=>?_)
 ·obtain ⟨H',e,p⟩:=UY q0 hu;exact ⟨H',zD q.at z43 e,_,p⟩
 ·have up:∀ {i:Nat}{o:O},Sf C X i o->(M X.H X.d b ts (.tup [vb,.tup [va,ns]]) kn [])[i]?=some o:=λ h=>M_o h.1 h.2.2.2.1;obtain ⟨H',d',h2,e,q2,nw,kk⟩:=Ob q0 hu hb (up gh) (λ p h=>⟨up (hp p h),(hp p h).2⟩) gh.2.1 gh.2.2.1 gh.2.2.2.1 gh.2.2.2.2.2 gh.2.2.2.2.1 l1 l3;exact ⟨⟨d',X.l,X.s,H'⟩,zD q.at z43 e,k _ _ _ (Fr.new (frM kk) λ i hi=>nw i (by show i<(M X.H X.d b ts (.tup [vb,.tup [va,ns]]) kn []).length;rw [Ql];exact hi)) q2⟩
theorem UZ {ps:XY} (q:C.S X u b (.tup [.tup [.str "then",jM g .non as],ts]) (qI ns (vs.map .int).reverse) kn rc pcs) (hb:b.bl=blN) (hl:as.length=vs.length) (hs:vs.length<1000) (hf:pcs.length<300000) (hg:PyData.strOk g=true) (hv:zF C.kvs (.inr g)=some (.tup [.str "def",nm,.tup (ps.map .str),.non,body]))
  (k:∀ Y d,Fr C X Y->C.S Y (u+1) ⟨blN,.non,false⟩ (.tup [body,.non]) .non (knD (ps.zip vs).reverse) rc (.dg d b ts ns kn::pcs)->G C F T (u+1) rc Y):G C F (none::T) u rc X:=by
 have q0:C.S ⟨X.d,X.l,X.s,M X.H X.d b ts (qI ns (vs.map .int).reverse) kn []⟩ u b ts (qI ns (vs.map .int).reverse) kn rc pcs:=q.M;refine G.turn q (λ hu=>?_) (λ hu=>?_)
 ·obtain ⟨H',e,p⟩:=Qo q0 hl hs hu;exact ⟨H',zD q.at VM e,_,p⟩
 ·obtain ⟨H',d',e,q2,nw,kp⟩:=YD q0 hb hl hs 117 hg hv hu;exact ⟨⟨d',X.l,X.s,H'⟩,zD q.at VM e,k _ _ (Fr.new (frM kp) λ i hi=>nw i (by show i<(M X.H X.d b ts (qI ns (vs.map .int).reverse) kn []).length;rw [Ql];exact hi)) q2⟩
theorem Js (hf:b.free)(q:C.S X u b .non 155 kn rc (.dg a b' vz vj qQ::pcs))(k:∀ Y,Fr C X Y->C.S Y u b' vz (.tup [v,vj]) qQ rc pcs->G C F T u rc Y):G C F T u rc X:=by
 obtain ⟨H',d',e,q2,nw,kp⟩:=yG (Qc hf q) q;exact G.by (λ _ _=>⟨_,_,lve q e⟩) (k _ (Fr.new kp nw) q2)
theorem VU {hp:List Pc}(h1:b.hd=.loc hl)(h2:b.wt=false)(gh:X.H[hl]?=some (.lst (hp.map λ p=>.loc p.at_)))(t:Th X.H C.r hp.reverse vq m)(hm:m<900000)(q:C.S X u b .non 155 kn rc (.dg a b' vz vj qQ::pcs))(k:∀ Y,Fr C X Y->C.S Y u b' vz (.tup [v,vj]) qQ (rc++vq) pcs->G C F T u (rc++vq) Y):G C F (vq.map some++T) u rc X:=λ le=>by
 obtain ⟨X',L,q1,k1⟩:=z07 q h1 h2 gh t (by rw [Y01,Y08] at le;omega) hm;obtain ⟨H',d',e,q2,nw,kp⟩:=yG L q1;refine G.by (λ _ _=>⟨_,_,lve q e⟩) (G.recs (k _ (Fr.new (λ i o h1 h2 h3 h4 h5 h=>kp i o h1 h2 h3 h4 h5 (k1 i o h5 h)) λ i hi=>?_) q2)) le;by_cases z:i=C.r
 ·exact nw i (by rw [z];exact zk q1.hr)
 ·exact nw i (zk (k1 i _ z (Y0j hi)))
theorem z8m {kp i0 i1 i2 y z tb:D}(hf:b.free)(q:C.S X u b .non 155 kn rc (.sd a x kp::pcs))(hv:zF C.kvs (.inr x)=some (.tup [i0,i1,i2,.tup [y,z,tb]]))(k:∀ Y,Fr C X Y->C.S Y u ⟨blN,.non,false⟩ (.tup [tb,.non]) .non (.tup 159) rc pcs->G C F T u rc Y):G C F T u rc X:=by
 obtain ⟨H',d',e,q2,nw,kk⟩:=Yy hf q hv;exact G.by (λ _ _=>⟨_,_,lve q e⟩) (k _ (Fr.new kk nw) q2)
theorem V0 (hf:b.free) (q:C.S X u b .non 155 kn rc []) (k:∀ Y,C.Se Y u (.tup [.str "done",v]) b .non 155 kn rc []->F u rc Y.H):G C F [] u rc X:=λ le x y=>by
 have e:=Qd (n:=C.n+1) hf q;have q2:C.Se ⟨X.d,X.l,X.s,X.H.set C.w (wk (.loc C.m) (.loc C.c) (.int C.bd) X.d X.l X.s C.r u (.tup [.str "done",v]))⟩ u (.tup [.str "done",v]) b .non 155 kn rc []:=q.setW u _;exact ⟨_,_,(lve q e).trans (Qk q2),k _ q2⟩
end
structure Lv where
 parts:List Int
 own:List Int
 early:List Int
 goes:Nat
 called:Bool
 more:Int
 en:Int
 kept:Int
 first:Int
 second:Int
structure Nm where
 it:Nat->Str
 dd:Nat->Str
 x:Str
 s:Str
 y:Str
abbrev jv (v:Int):D:=.tup [.str "num",.int v]
abbrev jR (x:Str):D:=.tup [.str "var",.str x]
abbrev opT (o:Str)(a b:D):D:=.tup [.str "op",.str o,a,b]
abbrev z08 (x:Str)(a b:D):D:=.tup [.str "let",.str x,a,b]
abbrev goT (a b:D):D:=.tup [.str "go",a,b]
abbrev qJ (a b:D):D:=.tup [.str "guard",a,b]
abbrev doT (x:Str)(a:D):D:=.tup [.str "do",.str x,a]
abbrev WB (x:Str)(a b:D):D:=.tup [.str "handle",.str x,a,b]
noncomputable def guT:List Int->D->D
 | [],t=>t
 | p::r,t=>qJ (jv p) (guT r t)
noncomputable def eaT (x:Str):List Int->D->D
 | [],t=>t
 | p::r,t=>eaT x r (z08 x (qJ (jv p) (jv 3)) t)
abbrev clP (p:Int):Str×List D:=("clean",[.int p])
abbrev drP:Str×List D:=("drop",[])
abbrev bN:Bk:=⟨blN,.non,false⟩
noncomputable def Nn (i:Int):Prop:=0<=i/\i<100000000000000000
theorem Nn.sm (h:Nn i):Sm i:=by unfold Nn at h;unfold Sm;omega
theorem Qp (h1:0<=a)(h2:0<=b)(h:a+b<=1000000000000000000):qT "+" a b=some (a+b):=by
 rw [show qT "+" a b=(if (a+b).natAbs<=1000000000000000000 then some (a+b) else none) from rfl,if_pos 117]
section
variable {C:Cx}{F:235}{T:List 183}{u:Int}{b:Bk}{ns kn:D}{pcs:List Pc}
theorem yH:∀ (ps:List Int) (l:List 220) (X:Lc) (rc:163),C.S X u b (.tup [guT ps t,tk l]) ns kn rc pcs->(∀ Y,Fr C X Y->C.S Y u b (.tup [t,tk (ps.reverse.map clP++l)]) ns kn (rc++ps.map λ p=>guD (.int p)) pcs->G C F T u (rc++ps.map λ p=>guD (.int p)) Y)->G C F ((ps.map λ p=>guD (.int p)).map some++T) u rc X
 | [],l,X,rc,q,k=>by
  have k:=k X Fr.rfl';rw [Y20,Y0a] at k;exact k q
 | p::r,l,X,rc,q,k=>by
  refine Jq q λ Y1 f1 q1=>jN q1 λ Y2 f2 q2=>wX q2 λ Y3 f3 q3=>yH r (clP p::l) Y3 _ q3 λ Y4 f4 q4=>?_;have k:=k Y4 (f1.tr (f2.tr (f3.tr f4)));rw [Y1d,Y0d,Y05,show rc++(p::r).map (λ p=>guD (.int p))=rc++[guD (.int p)]++r.map (λ p=>guD (.int p)) from List.append_cons ..] at k;exact k q4
theorem Jt:∀ (ps:List Int) (X:Lc) (rc:163),C.S X u b (tk (ps.map clP++l)) ns kn rc pcs->(∀ Y,Fr C X Y->C.S Y u b (tk l) ns kn (rc++ps.map λ p=>clD (.int p)) pcs->G C F T u (rc++ps.map λ p=>clD (.int p)) Y)->G C F ((ps.map λ p=>clD (.int p)).map some++T) u rc X
 | [],X,rc,q,k=>by
  have k:=k X Fr.rfl';rw [Y20,Y0a] at k;exact k q
 | p::r,X,rc,q,k=>by
  refine VT q λ Y1 f1 q1=>Jt r Y1 _ q1 λ Y4 f4 q4=>?_;have k:=k Y4 (f1.tr f4);rw [show rc++(p::r).map (λ p=>clD (.int p))=rc++[clD (.int p)]++r.map (λ p=>clD (.int p)) from List.append_cons ..] at k;exact k q4
theorem Qq:∀ (m:Nat) (kl:List (Str×Int)) (X:Lc),m<=kl.length->C.S X u b (tk (List.replicate m drP++l)) ns (knD kl) rc pcs->(∀ Y kl',Fr C X Y->C.S Y u b (tk l) ns (knD kl') rc pcs->G C F T u rc Y)->G C F T u rc X
 | 0,kl,X,_,q,k=>k X kl Fr.rfl' q
 | m+1,[],X,h,q,k=>by simp at h
 | m+1,p::kl,X,h,q,k=>z6l q λ Y1 f1 q1=>Qq m kl Y1 (by simp at h;omega) q1 λ Y kl' f q=>k Y kl' (f1.tr f) q
end
structure Lw (C:Cx)(N:Nm)(lv:Nat->Lv)(n:Nat)(bdy cls:Nat->D):Prop where
 le:n<=6
 hE:∀ k,k<n->∃ i1 i2,zF C.kvs (.inr (N.it (6+k)))=some (.tup [.str "handler",i1,i2,.tup [.str N.y,.str N.s,opT "+" (jv (lv k).en) (jR N.y)]])
 hF:∀ k,k<n->(lv k).called=true->∃ nm,zF C.kvs (.inr (N.it k))=some (.tup [.str "def",nm,.tup [],.non,bdy k])
 hC:∀ k,k<n->∃ c0,zF C.cvs [.inr (N.it (6+k)),.inr (N.dd k)]=some (.tup [c0,.str N.x,.str N.s,cls k])
 itk:∀ k,k<n->PyData.strOk (N.it k)=true
 xk:PyData.strOk N.x=true
 sk:PyData.strOk N.s=true
 yk:PyData.strOk N.y=true
 xs:N.x≠N.s
 xy:N.x≠N.y
 sy:N.s≠N.y
 nn:∀ k,k<n->Nn (lv k).more/\Nn (lv k).en/\Nn (lv k).kept/\Nn (lv k).first/\Nn (lv k).second
 g2:∀ k,k<n->(lv k).goes<=2
 sz:∀ k,k<n->(lv k).early.length<=1/\(lv k).parts.length<=3/\(lv k).own.length<=3
abbrev blT (L:Lv):List 220:=List.replicate L.early.length drP++L.parts.reverse.map clP
abbrev clT (L:Lv):List 220:=L.own.reverse.map clP++List.replicate L.goes drP
noncomputable def Apc (A:List Pc):Prop:=A=[]\/∃ a kl,A=[Pc.dg a bN (tk []) .non (knD kl)]
abbrev clo (l:List Int):List D:=l.reverse.map λ p=>clD (.int p)
noncomputable def hcl (lv:Nat->Lv):Nat->List D
 | 0=>clo (lv 0).parts
 | k+1=>clo (lv k).own++((if (lv k).goes > 0 then [] else hcl lv k)++clo (lv (k+1)).parts)
inductive Hd (C:Cx)(X:Lc)(N:Nm)(lv:Nat->Lv):Nat->Nat->Prop
 | zero {hl hs d:Nat}{kp:Int}{A:List Pc}{kl:List (Str×Int)}:Sf C X hl (.lst (((Pc.sd hs (N.it 6) (.int kp)::A.reverse)++[Pc.dg d bN (tk (blT (lv 0))) .non (knD kl)]).map λ p=>.loc p.at_))->(∀ p∈(Pc.sd hs (N.it 6) (.int kp)::A.reverse)++[Pc.dg d bN (tk (blT (lv 0))) .non (knD kl)],Sf C X p.at_ p.o)->Apc A->(lv 0).early.length<=kl.length->Hd C X N lv 0 hl
 | succ {k hl h2 hs d a:Nat}{kp:Int}{A:List Pc}{kl k2:List (Str×Int)}:Hd C X N lv k h2->Sf C X hl (.lst (((Pc.sd hs (N.it (6+(k+1))) (.int kp)::(Pc.dg a bN (tk (blT (lv (k+1)))) .non (knD k2)::A).reverse)++[Pc.dg d ⟨blN,.loc h2,decide ((lv k).goes > 0)⟩ (tk (clT (lv k))) .non (knD kl)]).map λ p=>.loc p.at_))->(∀ p∈(Pc.sd hs (N.it (6+(k+1))) (.int kp)::(Pc.dg a bN (tk (blT (lv (k+1)))) .non (knD k2)::A).reverse)++[Pc.dg d ⟨blN,.loc h2,decide ((lv k).goes > 0)⟩ (tk (clT (lv k))) .non (knD kl)],Sf C X p.at_ p.o)->Apc A->(lv (k+1)).early.length<=k2.length->(lv k).goes<=kl.length->Hd C X N lv (k+1) hl
theorem Hd.mono (h:Hd C X N lv k hl)(f:Fr C X Y):Hd C Y N lv k hl:=by
 induction h with
 | zero a b c d=>exact .zero (f _ _ a) (λ p hp=>f _ _ (b p hp)) c d
 | succ _ a b c d e ih=>exact .succ ih (f _ _ a) (λ p hp=>f _ _ (b p hp)) c d e
theorem Z4:∀ (l:List Int),zt (l.map clP)=l.map λ p=>clD (.int p)
 | []=>rfl
 | p::r=>by
  show D.tup _::zt (r.map clP)=_;rw [Z4 r];rfl
theorem Ju:zt (a++b)=zt a++zt b:=by unfold zt;rw [List.filter_append,Y0d]
theorem Z5:∀ (m:Nat),zt (List.replicate m drP)=[]
 | 0=>rfl
 | m+1=>Z5 m
theorem z4d {L:Lv}:zt (blT L)=clo L.parts:=by unfold blT;rw [Ju,Z5,Z4];rfl
theorem z4e {L:Lv}:zt (clT L)=clo L.own:=by unfold clT;rw [Ju,Z5,Z4,Y0a]
theorem z09 {l:List Int}(h:p∈l.map clP):PyData.strOk p.1=true:=by obtain ⟨z,_,rfl⟩:=Y0s.mp h;exact zY
theorem z4f (h:p∈List.replicate m drP):PyData.strOk p.1=true:=by rw [(List.mem_replicate.mp h).2];exact wf
theorem z4g {L:Lv}:∀ p∈blT L,PyData.strOk p.1=true:=λ p hp=>(Y0r.mp hp).elim z4f z09
theorem z4h {L:Lv}:∀ p∈clT L,PyData.strOk p.1=true:=λ p hp=>(Y0r.mp hp).elim z09 z4f
theorem j1:bN.free:=.inl rfl
section
variable {C:Cx}{X:Lc}{N:Nm}{lv:Nat->Lv}{n:Nat}{bdy cls:Nat->D}
theorem z0a (h:Apc A)(s:∀ p∈A,Sf C X p.at_ p.o)(t:Th X.H C.r r rc m):∃ m',Th X.H C.r (A++r) rc m'/\m'<=m+1:=by
 rcases h with rfl | ⟨a,kl,rfl⟩
 ·exact ⟨m,t,by omega⟩
 ·have g:=s _ Y0c;exact ⟨m+1,Th.free g.1 g.2.2.2.2.1 (λ _ h=>nomatch h) 133 j1 t,by omega⟩
theorem z8n (w:Lw C N lv n bdy cls){k hl:Nat}(h:Hd C X N lv k hl):k<n->∃ hp:List Pc,X.H[hl]?=some (.lst (hp.map λ p=>.loc p.at_))/\hl≠C.r/\∀ r rc m,Th X.H C.r r rc m->∃ m',Th X.H C.r (hp.reverse++r) (hcl lv k++rc) m'/\m'<=m+4*(k+1):=by
 induction h with
 | @zero hl hs d kp A kl g s a e =>
  intro hk;refine ⟨_,g.1,g.2.2.2.2.1,λ r rc m t=>?_⟩;have g1:=s (.sd hs (N.it 6) (.int kp)) 133;have g2:=s (.dg d bN (tk (blT (lv 0))) .non (knD kl)) 133;obtain ⟨m1,t1,l1⟩:=z0a a (λ p hp=>s p (by simp [hp])) (Th.sd g1.1 g1.2.2.2.2.1 t);refine ⟨m1+1,?_,by omega⟩;have z:=w.sz 0 hk
  have:=Th.free g2.1 g2.2.2.2.2.1 z4g 166 j1 t1
  rw [z4d] at this;simpa [hcl,Pc.at_] using this
 | @succ k hl h2 hs d a kp A kl k2 hd g s ap e1 e2 ih =>
  intro hk;refine ⟨_,g.1,g.2.2.2.2.1,λ r rc m t=>?_⟩;have g1:=s (.sd hs (N.it (6+(k+1))) (.int kp)) 133;have g2:=s (.dg a bN (tk (blT (lv (k+1)))) .non (knD k2)) 133;have g3:=s (.dg d ⟨blN,.loc h2,decide ((lv k).goes > 0)⟩ (tk (clT (lv k))) .non (knD kl)) 133;obtain ⟨m1,t1,l1⟩:=z0a ap (λ p hp=>s p (by simp [hp])) (Th.sd g1.1 g1.2.2.2.2.1 t);have z:=w.sz (k+1) hk;have z2:=w.sz k 117;have z3:=w.g2 k 117;have t2:=Th.free g2.1 g2.2.2.2.2.1 z4g 166 j1 t1;rw [z4d] at t2;obtain ⟨hp,gh,nr,f⟩:=ih 117;by_cases c:(lv k).goes > 0
  ·have t3:=Th.free g3.1 g3.2.2.2.2.1 z4h 166 (.inr ⟨by simp [c],h2,rfl⟩) t2;rw [z4e] at t3;exact ⟨m1+1+1,by simpa [hcl,c,Pc.at_] using t3,by omega⟩
  ·obtain ⟨m3,t3,l3⟩:=f _ _ _ t2;have t4:=Th.alone g3.1 g3.2.2.2.2.1 z4h 166 rfl (by simp [c]) nr gh t3;rw [z4e] at t4;exact ⟨m3+1,by simpa [hcl,c,Pc.at_] using t4,by omega⟩
end
section
variable (N:Nm)(lv:Nat->Lv)(v:Int)(n:Nat)
mutual
noncomputable def tr:Nat->D
 | 0=>doT (N.dd 0) (jv v)
 | k+1=>WB (N.it (6+k)) (jv (lv k).kept) (if (lv k).called then jM (N.it k) .non [] else bdyT k)
noncomputable def bdyT (k:Nat):D:=guT (lv k).parts (eaT N.x (lv k).early (tr k))
end
noncomputable def V1 (k:Nat):D:=if k+1<n then doT (N.dd (k+1)) (opT "+" (jR (if (lv k).goes > 0 then N.y else N.x)) (jv (lv k).more)) else opT "+" (jR (if (lv k).goes > 0 then N.y else N.x)) (jv (lv k).more)
noncomputable def Oe (k:Nat):D:=if (lv k).goes > 0 then z08 N.y (goT (jv (lv k).first) (jR N.s)) (guT (lv k).own (V1 N lv n k)) else guT (lv k).own (V1 N lv n k)
noncomputable def yI (k:Nat):D:=if (lv k).goes > 1 then z08 N.y (goT (jv (lv k).second) (jv (lv k).kept)) (Oe N lv n k) else Oe N lv n k
noncomputable def ent:Nat->List 183
 | 0=>[]
 | k+1=>(if (lv k).called then [none] else [])++(((lv k).parts.map λ p=>guD (.int p)).map some++(((lv k).early.flatMap λ p=>[guD (.int p),clD (.int p)]).map some++ent k))
noncomputable def gs:Nat->List D->List 183
 | 0,_=>[]
 | g+1,h=>none::(h.map some++gs g h)
noncomputable def nx (k:Nat)(v:Int):Int:=171+(lv k).more
noncomputable def rst:Nat->Nat->Int->List 183
 | 0,_,_=>[]
 | j+1,k,v=>gs (lv k).goes (hcl lv k)++(((lv k).own.map λ p=>guD (.int p)).map some++(if j=0 then (clo (lv k).own++(if (lv k).goes > 0 then [] else hcl lv k)).map some else none::some (doD (N.dd (k+1)) (.int (nx lv k v)))::rst j (k+1) (nx lv k v)))
noncomputable def vl:Nat->Nat->Int->Int
 | 0,_,v=>v
 | j+1,k,v=>vl j (k+1) (nx lv k v)
inductive Pl (mt:List 220):Nat->List 220->List (Str×Int)->List Pc->Prop
 | top:Pl mt n mt [] []
 | lev {k hs a:Nat}{l:List 220}{kn qQ:List (Str×Int)}{A pcs:List Pc}:Pl mt (k+1) l kn pcs->k<n->Apc A->(lv k).early.length<=qQ.length->Pl mt k (blT (lv k)) qQ (A++.sd hs (N.it (6+k)) (.int (lv k).kept)::.dg a bN (tk l) .non (knD kn)::pcs)
end
section
variable {C:Cx}{F:235}{T:List 183}{N:Nm}{lv:Nat->Lv}{v:Int}{n:Nat}{cls:Nat->D}{mt:List 220}
theorem Apc.len (h:Apc A):A.length<=1:=by rcases h with rfl | ⟨_,_,rfl⟩<;>simp
theorem Pl.len (h:Pl N lv n mt k l kn pcs):pcs.length+3*k<=3*n:=by
 induction h with
 | top=>simp
 | lev _ _ a _ ih=>have:=a.len;simp only [Y01,Y03] at ih ⊢;omega
theorem z6m (w:Lw C N lv n (bdyT N lv v) cls):∀ (k:Nat) (X:Lc) (u:Int) (rc:163) (l:List 220) (kn:List (Str×Int)) (pcs:List Pc),Pl N lv n mt k l kn pcs->k<=n->C.S X u bN (.tup [tr N lv v k,tk l]) .non (knD kn) rc pcs ->
  (∀ Y u' vq l' qQ vy,Pl N lv n mt 0 l' qQ vy->C.S Y u' bN (.tup [tr N lv v 0,tk l']) .non (knD qQ) vq vy->G C F T u' vq Y)->G C F (ent lv k++T) u rc X
 | 0,X,u,rc,l,kn,pcs,p,_,q,k=>k X u rc l kn pcs p q
 | k+1,X,u,rc,l,kn,pcs,p,hk,q,kk=>by
  have pl:=p.len;have hn:=w.le;rw [ent,Y05,Y05,Y05];rw [tr] at q;refine WA q λ Y1 _ q1=>jN q1 λ Y2 _ q2=>YF q2 117 λ Y3 d hs _ q3=>?_;have go:∀ (X:Lc) (u:Int) (kl:List (Str×Int)) (A:List Pc),Apc A->C.S X u bN (.tup [bdyT N lv v k,tk []]) .non (knD kl) rc (A++.sd hs (N.it (6+k)) (.int (lv k).kept)::.dg d bN (tk l) .non (knD kn)::pcs)->G C F (((lv k).parts.map λ p=>guD (.int p)).map some++(((lv k).early.flatMap λ p=>[guD (.int p),clD (.int p)]).map some++(ent lv k++T))) u rc X:=λ X u kl A ap q=>by
   rw [bdyT] at q;refine yH (lv k).parts [] X rc q λ Y _ q1=>?_;rw [Y0a] at q1;have z:=(w.sz k 117).1;have pp:∀ kl',(lv k).early.length<=kl'.length->Pl N lv n mt k (blT (lv k)) kl' (A++.sd hs (N.it (6+k)) (.int (lv k).kept)::.dg d bN (tk l) .non (knD kn)::pcs):=λ kl' h=>.lev p 117 ap h;unfold blT at pp
   revert q1 z pp
   generalize (lv k).early=ea;intro q1 z pp
   match ea,z with
   | [],_=>exact z6m w k Y u _ _ kl _ (pp kl 133) 117 q1 kk
   | [e],_ =>
    rw [eaT,eaT] at q1;refine z06 q1 λ Y2 _ q2=>Jq q2 λ Y3 _ q3=>jN q3 λ Y4 _ q4=>wX q4 λ Y5 _ q5=>jN q5 λ Y6 _ q6=>VT q6 λ Y7 _ q7=>Jp q7 λ Y8 _ q8=>?_;exact z6m w k Y8 u _ _ ((N.x,3)::kl) _ (pp _ 133) 117 q8 kk
  cases hc:(lv k).called with
  | false =>
   rw [hc] at q3;exact go Y3 u kn [] 206 q3
  | true =>
   rw [hc] at q3;obtain ⟨nm,hv⟩:=w.hF k 117 hc;refine Qn q3 λ Y4 _ q4=>UZ (vs:=[]) (ps:=[]) q4 rfl rfl 123 166 (w.itk k 117) hv λ Y5 d5 _ q5=>?_;exact go Y5 (u+1) [] [_] (.inr ⟨d5,kn,rfl⟩) q5
theorem z36 {v kn:D}(ap:Apc A)(q:C.S X u bN .non (.tup [v,.non]) kn rc (A++r))(k:∀ Y qQ,Fr C X Y->C.S Y u bN .non (.tup [v,.non]) qQ rc r->G C F T u rc Y):G C F T u rc X:=by
 rcases ap with rfl | ⟨a,kl,rfl⟩
 ·exact k X kn Fr.rfl' q
 ·exact Js j1 q λ Y f q1=>k Y _ f q1
theorem YG (w:Lw C N lv n bdy cls)(hk:k<n)(ap:Apc A)(h:(lv k).early.length<=kl.length)(hv:Nn va)(q:C.S X u bN (tk (blT (lv k))) (.tup [.int va,.non]) (knD kl) rc (A++.sd h2 (N.it (6+k)) (.int vb)::.dg d b ts ns kn::pcs))
  (kk:∀ Y vq,Fr C X Y->C.S Y u b ts (.tup [.int ((lv k).en+va),ns]) kn vq pcs->G C F T u vq Y):G C F ((clo (lv k).parts).map some++T) u rc X:=by
 obtain ⟨i1,i2,he⟩:=w.hE k hk;obtain ⟨_,n2,_⟩:=w.nn k hk;refine Qq _ kl X h q λ Y1 kl1 f1 q1=>?_;rw [<- Y0a ((lv k).parts.reverse.map clP)] at q1;refine Jt _ Y1 rc q1 λ Y2 f2 q2=>z36 ap q2 λ Y3 kn3 f3 q3=>z8m j1 q3 he λ Y4 f4 q4=>?_;have q4:C.S Y4 u bN (.tup [opT "+" (jv (lv k).en) (jR N.y),.non]) .non (knD [(N.s,vb),(N.y,va)]) _ _:=q4;refine Qm q4 λ Y5 f5 q5=>jN q5 λ Y6 f6 q6=>wH q6 w.yk (λ p hp=>by simp at hp;rcases hp with rfl | rfl;exact w.sk;exact w.yk) (v:=va) ?_ λ Y7 f7 q7=>jm q7 206 n2.sm hv.sm (Qp n2.1 hv.1 (by have:=n2.2;have:=hv.2;omega)) λ Y8 f8 q8=>Js j1 q8 λ Y9 f9 q9=>?_
 ·simp [List.lookup,beq_eq_false_iff_ne.mpr (Ne.symm w.sy)]
 ·exact kk Y9 _ (f1.tr (f2.tr (f3.tr (f4.tr (f5.tr (f6.tr (f7.tr (f8.tr f9)))))))) q9
theorem Th.of (w:Lw C N lv n bdy cls)(h:Hd C X N lv k hl)(hk:k<n):∃ (hp:List Pc) (m:Nat),X.H[hl]?=some (.lst (hp.map λ p=>.loc p.at_))/\Th X.H C.r hp.reverse (hcl lv k) m/\m<900000:=by
 obtain ⟨hp,g,_,f⟩:=z8n w h hk;obtain ⟨m,t,l⟩:=f [] [] 0 .nil
 have:=w.le
 rw [Y0a,Y0a] at t;exact ⟨hp,m,g,t,by omega⟩
theorem WC (w:Lw C N lv n bdy cls)(hk:k<n)(hd:Hd C X N lv k h2)(h:(lv k).goes<=kl.length)(q:C.S X u ⟨blN,.loc h2,decide ((lv k).goes > 0)⟩ (tk (clT (lv k))) (.tup [va,.non]) (knD kl) rc (.dg a b ts .non kn::pcs))
  (kk:∀ Y vq,Fr C X Y->C.S Y u b ts (.tup [va,.non]) kn vq pcs->G C F T u vq Y):G C F ((clo (lv k).own).map some++((if (lv k).goes > 0 then [] else hcl lv k).map some++T)) u rc X:=by
 refine Jt _ X rc q λ Y1 f1 q1=>?_;rw [<- Y0a (List.replicate _ drP)] at q1;refine Qq _ kl Y1 h q1 λ Y2 kl2 f2 q2=>?_;by_cases c:(lv k).goes > 0
 ·rw [if_pos c];exact Js (.inr ⟨by simp [c],h2,rfl⟩) q2 λ Y3 f3 q3=>kk Y3 _ (f1.tr (f2.tr f3)) q3
 ·rw [if_neg c];obtain ⟨hp,m,g,t,lm⟩:=Th.of w (hd.mono (f1.tr f2)) hk;exact VU rfl (by simp [c]) g t lm q2 λ Y3 f3 q3=>kk Y3 _ (f1.tr (f2.tr f3)) q3
theorem z37 (w:Lw C N lv n bdy cls) (hd:Hd C X N lv k hl) (hk:k<n) (hv:Nn va) (q:C.S X u b (.tup [.tup [.str "then",goT t1 t2],ts]) (.tup [.int vb,.tup [.int va,ns]]) kn rc pcs) (hb:b.hd=.loc hl) (lp:pcs.length<200000)
  (kk:∀ Y vq,Fr C X Y->C.S Y (u+1) 177 ts (.tup [.int ((lv k).en+va),ns]) kn vq pcs->G C F T (u+1) vq Y):G C F (none::((hcl lv k).map some++T)) u rc X:=by
 cases hd with
 | @zero _ hs d kp A kl g s a e =>
  exact z8l q hb g s 117 (by have:=a.len;omega) λ Y d h2 f q1=>YG w hk a e hv q1 λ Y2 vq f2 q2=>kk Y2 vq (f.tr f2) q2
 | @succ k _ h2 hs d a kp A kl k2 hd g s ap e1 e2 =>
  rw [hcl,Y0d,Y0d,Y05,Y05];exact z8l q hb g s 117 (by have:=ap.len;simp;omega) λ Y d h2 f q1=>WC w 117 (hd.mono f) e2 q1 λ Y2 vq f2 q2=>YG w hk ap e1 hv q2 λ Y3 vq f3 q3=>kk Y3 vq (f.tr (f2.tr f3)) q3
end
section
variable {C:Cx}{F:235}{T:List 183}{N:Nm}{lv:Nat->Lv}{n:Nat}{bdy cls:Nat->D}{mt:List 220}
theorem z0b (w:Lw C N lv n bdy cls) {k hl:Nat}{X:Lc}{u va vb:Int}{b:Bk}{t1 t2 a body:D}{l:List 220}{kl:List (Str×Int)}{pcs:List Pc}{rc:163} (hd:Hd C X N lv k hl) (hk:k<n) (hv:Nn va) (q:C.S X u b (.tup [.tup [.str "then",goT t1 t2],.tup [.tup [.str "then",z08 N.y a body],tk l]]) (.tup [.int vb,.tup [.int va,.non]]) (knD kl) rc pcs) (hb:b.hd=.loc hl) (lp:pcs.length<200000)
  (kk:∀ Y vq,Fr C X Y->C.S Y (u+1) 177 (.tup [body,tk (drP::l)]) .non (knD ((N.y,(lv k).en+va)::kl)) vq pcs->G C F T (u+1) vq Y):G C F (none::((hcl lv k).map some++T)) u rc X :=
 z37 w hd hk hv q hb lp λ Y vq f q1=>Jp q1 λ Y2 f2 q2=>kk Y2 vq (f.tr f2) q2
theorem z8o (w:Lw C N lv n bdy cls){k hl:Nat}{X:Lc}{u v kp:Int}{pcs:List Pc}{rc:163}(hd:Hd C X N lv k hl)(hk:k<n)(lp:pcs.length<200000)(q:C.S X u ⟨blN,.loc hl,false⟩ (.tup [yI N lv n k,tk []]) .non (knD [(N.s,kp),(N.x,v)]) rc pcs)
  (kk:∀ Y u' vq kl,Fr C X Y->(lv k).goes<=kl.length->(∀ p∈kl,PyData.strOk p.1=true)->kl.lookup (if (lv k).goes > 0 then N.y else N.x)=some 171->C.S Y u' ⟨blN,.loc hl,decide ((lv k).goes > 0)⟩ (.tup [guT (lv k).own (V1 N lv n k),tk (List.replicate (lv k).goes drP)]) .non (knD kl) vq pcs->G C F T u' vq Y):G C F (gs (lv k).goes (hcl lv k)++T) u rc X:=by
 obtain ⟨_,n2,n3,n4,n5⟩:=w.nn k hk;have ok0:∀ p∈([(N.s,kp),(N.x,v)]:List (Str×Int)),PyData.strOk p.1=true:=λ p hp=>by simp at hp;rcases hp with rfl | rfl;exact w.sk;exact w.xk
 have okc:∀ (z:Int) (l:List (Str×Int)),(∀ p∈l,PyData.strOk p.1=true)->∀ p∈(N.y,z)::l,PyData.strOk p.1=true:=λ z l h p hp=>by rcases Y0g.mp hp with rfl | hp;exact w.yk;exact h p hp
 have look:∀ z,List.lookup N.s ((N.y,z)::[(N.s,kp),(N.x,v)])=some kp:=λ z=>by simp [List.lookup,beq_eq_false_iff_ne.mpr w.sy]
 have ly:∀ (z:Int) (l:List (Str×Int)),List.lookup N.y ((N.y,z)::l)=some z:=λ z l=>by simp [List.lookup]
 have one:(lv k).goes > 0->∀ (X':Lc) (u':Int) (vq:163) (b:Bk) (g:Nat) (kl:List (Str×Int)),Fr C X X'->b.bl=blN->b.hd=.loc hl->g+1=(lv k).goes->g<=kl.length->(∀ p∈kl,PyData.strOk p.1=true)->kl.lookup N.s=some kp->C.S X' u' b (.tup [Oe N lv n k,tk (List.replicate g drP)]) .non (knD kl) vq pcs->G C F (none::((hcl lv k).map some++T)) u' vq X':=λ hg X' u' vq b g kl f hb hb2 hgg hl ok lk q=>by
  unfold Oe at q;rw [if_pos hg] at q;refine z06 q λ Y1 f1 q1=>z4c q1 λ Y2 f2 q2=>jN q2 λ Y3 f3 q3=>wH q3 w.sk ok lk λ Y4 f4 q4=>z0b w (hd.mono (f.tr (f1.tr (f2.tr (f3.tr f4))))) hk n4 q4 hb2 lp λ Y5 rc5 f5 q5=>?_;refine kk Y5 _ _ ((N.y,(lv k).en+(lv k).first)::kl) (f.tr (f1.tr (f2.tr (f3.tr (f4.tr f5))))) 166 (okc _ _ ok) ?_ ?_
  ·rw [if_pos hg,if_pos hg,ly,Int.add_comm]
  ·rw [<- hgg,decide_eq_true 117];obtain ⟨b1,b2,b3⟩:=b;cases hb;cases hb2;exact q5
 have g2:=w.g2 k hk;by_cases h1:(lv k).goes > 1
 ·have e2:(lv k).goes=2:=by omega
  unfold yI at q;rw [if_pos h1] at q;rw [e2,gs,gs,gs,Y0a,Y1g,Y05];exact z06 q λ Y1 f1 q1=>z4c q1 λ Y2 f2 q2=>jN q2 λ Y3 f3 q3=>jN q3 λ Y4 f4 q4=>z0b w (hd.mono (f1.tr (f2.tr (f3.tr f4)))) hk n5 q4 rfl lp λ Y5 rc5 f5 q5=>one 117 Y5 _ _ _ 1 _ (f1.tr (f2.tr (f3.tr (f4.tr f5)))) rfl rfl 117 133 (okc _ _ ok0) (look _) q5
 ·unfold yI at q;rw [if_neg h1] at q;by_cases h0:(lv k).goes > 0
  ·have e1:(lv k).goes=1:=by omega
   rw [e1,gs,gs,Y0a];exact one h0 X u rc _ 0 _ Fr.rfl' rfl rfl 117 133 ok0 (by simp [List.lookup]) q
  ·have e0:(lv k).goes=0:=by omega
   unfold Oe at q;rw [if_neg h0] at q;rw [e0] at kk ⊢;exact kk X u rc _ Fr.rfl' 133 ok0 (by simp [List.lookup,beq_eq_false_iff_ne.mpr w.xs]) q
theorem z6n {a:Int}(h1:0<=a)(h:a<=1000000000000000000):qT "-" a 3=some (a-3):=by
 rw [show qT "-" a 3=(if (a-3).natAbs<=1000000000000000000 then some (a-3) else none) from rfl,if_pos 117]
theorem z4i (w:Lw C N lv n bdy cls){k:Nat}{v:Int}(hk:k<n)(v0:0<=v)(v1:v<=(k+2)*100000000000000000):Sm 171/\Sm (lv k).more/\qT "+" 171 (lv k).more=some (nx lv k v)/\0<=nx lv k v/\nx lv k v<=(191+2)*100000000000000000/\Sm (nx lv k v)/\qT "-" (nx lv k v) 3=some (nx lv k v-3):=by
 obtain ⟨⟨a1,a2⟩,⟨a3,a4⟩,_,⟨a5,a6⟩,_⟩:=w.nn k hk;have hn:=w.le;have b:0<=171/\171<=(k+2)*100000000000000000:=by split<;>constructor<;>omega
 unfold nx;clear w;generalize 171=z at b;have c:z+(lv k).more<=1000000000000000000:=by omega
 exact ⟨by unfold Sm;omega,by unfold Sm;omega,Qp b.1 a1 c,by omega,by omega,by unfold Sm;omega,z6n 117 c⟩
abbrev mtT (t:D):List 220:=[("num",[.int 3]),("then",[opT "-" t (jv 3)])]
theorem V2 {tt:D}(w:Lw C N lv n bdy (yI N lv n)):∀ (j k:Nat) (X:Lc) (u v:Int) (rc:163) (hl a:Nat) (l:List 220) (kn:List (Str×Int)) (pcs:List Pc),j+1+k=n->Pl N lv n (mtT tt) (k+1) l kn pcs->Hd C X N lv k hl->0<=v->v<=(k+2)*100000000000000000->C.S X u ⟨blN,.loc hl,false⟩ (.tup [yI N lv n k,tk []]) .non (knD [(N.s,(lv k).kept),(N.x,v)]) rc (.dg a bN (tk l) .non (knD kn)::pcs) ->
  (∀ Y u' vq b ns qQ,C.Se Y u' (.tup [.str "done",.int (vl lv (j+1) k v-3)]) b .non ns qQ vq []->F u' vq Y.H)->G C F (rst N lv (j+1) k v) u rc X:=λ j=>by
 induction j with
 | zero =>
  intro k X u v rc hl a l kn pcs hn p hd v0 v1 q kk;have hk:k<n:=by omega
  obtain ⟨o1,o2,o3,o4,o5,o6,o7⟩:=z4i w hk v0 v1;have hn':=w.le;have pl:=p.len;have hp:(Pc.dg a bN (tk l) .non (knD kn)::pcs).length<200000:=by rw [Y03];omega
  rw [rst,if_pos rfl,Y0d,<- Y0a ((if (lv k).goes > 0 then [] else hcl lv k).map some)];refine z8o w hd hk hp q λ Y1 u1 rc1 kl f1 gl ok lk q1=>yH _ _ Y1 rc1 q1 λ Y2 f2 q2=>?_;unfold V1 at q2;rw [if_neg 117] at q2;have e:vl lv 1 k v=nx lv k v:=rfl;rw [Y1j,e] at kk;refine Qm q2 λ Y3 f3 q3=>wH q3 (by split;exact w.yk;exact w.xk) ok lk λ Y4 f4 q4=>jN q4 λ Y5 f5 q5=>jm q5 206 o1 o2 o3 λ Y6 f6 q6=>?_;cases p with
  | lev _ h _ _=>omega
  | top=>exact WC w hk (hd.mono (f1.tr (f2.tr (f3.tr (f4.tr (f5.tr f6)))))) gl q6 λ Y7 rc7 f7 q7=>jN q7 λ Y8 _ q8=>jm q8 (.inr 206) (v1:=nx lv k v) o6 (by unfold Sm;decide) o7 λ Y9 _ q9=>V0 j1 q9 λ Y10 q10=>kk Y10 _ _ _ _ _ q10
 | succ j ih =>
  intro k X u v rc hl a l kn pcs hn p hd v0 v1 q kk;have hk:k<n:=by omega
  obtain ⟨o1,o2,o3,o4,o5,o6,o7⟩:=z4i w hk v0 v1;have hn':=w.le;have pl:=p.len;have hp:(Pc.dg a bN (tk l) .non (knD kn)::pcs).length<200000:=by rw [Y03];omega
  rw [rst,if_neg 117];refine z8o w hd hk hp q λ Y1 u1 rc1 kl f1 gl ok lk q1=>yH _ _ Y1 rc1 q1 λ Y2 f2 q2=>?_;unfold V1 at q2;rw [if_pos 117] at q2;refine YE q2 λ Y3 f3 q3=>Qm q3 λ Y4 f4 q4=>wH q4 (by split;exact w.yk;exact w.xk) ok lk λ Y5 f5 q5=>jN q5 λ Y6 f6 q6=>jm q6 206 o1 o2 o3 λ Y7 f7 q7=>?_;have fr:=f1.tr (f2.tr (f3.tr (f4.tr (f5.tr (f6.tr f7)))));cases p with
  | top=>omega
  | @lev _ hs a' l' qQ _ A vy p2 h2 ap hle =>
   obtain ⟨c0,hx⟩:=w.hC (k+1) h2;refine z35 (A:=.dg a bN (tk (blT (lv (k+1)))) .non (knD kn)::A) q7 (by have:=ap.len;simp at pl ⊢;omega) (λ a y z h=>?_) hx λ Y8 d8 hl8 f8 q8 g8 s8=>?_
   ·rcases ap with rfl | ⟨_,_,rfl⟩<;>simp at h
   ·exact ih (k+1) Y8 _ (nx lv k v) _ hl8 a' l' qQ vy 117 p2 (.succ ((hd.mono fr).mono f8) g8 s8 ap hle gl) o4 o5 q8 kk
theorem z0c {v:Int} (w:Lw C N lv n (bdyT N lv v) (yI N lv n)) (hn:0<n) (hv:Nn v) {X:Lc}{u:Int}{rc:163} (q:C.S X u bN (.tup [opT "-" (tr N lv v n) (jv 3),.non]) .non .non rc []) (kk:∀ Y u' vq b ns qQ,C.Se Y u' (.tup [.str "done",.int (vl lv n 0 v-3)]) b .non ns qQ vq []->F u' vq Y.H):G C F (ent lv n++none::some (doD (N.dd 0) 215)::rst N lv n 0 v) u rc X:=by
 have hn':=w.le;refine Qm q λ Y1 _ q1=>z6m w n Y1 u rc (mtT (tr N lv v n)) [] [] .top 176 q1 λ Y2 u2 rc2 l kn pcs p q2=>?_;rw [tr] at q2;refine YE q2 λ Y3 _ q3=>jN q3 λ Y4 _ q4=>?_;have pl:=p.len;obtain ⟨m,rfl⟩:∃ m,n=m+1:=⟨n-1,by omega⟩;cases p with
 | @lev _ hs a' l' qQ _ A vy p2 h2 ap hle =>
  obtain ⟨c0,hx⟩:=w.hC 0 hn;refine z35 q4 (by have:=ap.len;simp at pl ⊢;omega) (λ a y z h=>?_) hx λ Y8 d8 hl8 f8 q8 g8 s8=>?_
  ·rcases ap with rfl | ⟨_,_,rfl⟩<;>simp at h
  ·exact V2 w m 0 Y8 _ v _ hl8 a' l' qQ vy rfl p2 (.zero g8 s8 ap hle) hv.1 (by have:=hv.2;omega) q8 kk
end
abbrev YH (x:Str)(v:D):D:=.tup [.str "asks",.str x,v]
section
variable {n:Nat}{H0 H:Hh}{w d l s r m c:Nat}{bd:Int}{kvs:237}{co:O}{u:Int}{b:Bk}{ts ns kn v a:D}{rc:163}{pcs:List Pc}{x:Str}
theorem Of (q:207)(hs:sg pcs=[])(hr:rc.length<1000000)(hu:u<bd):∃ H',callI defs (n+2) 26 [.loc w,.tup [.str "do",.str x,a]] H=.ok .non H'/\St H0 H' w d l s r m c bd kvs co (u+1) (YH x v) b ts ns kn (rc++[doD x v]) pcs/\Kp w d l s r H H':=by
 obtain ⟨X1,T,q1,g1,k1⟩:=jQ (vs:=[v]) (k:=1) q rfl 123;have q2:=q1.setW (u+1) .non;have q3:=q2.setR (rc++[doD x v]);have q4:=q3.setW (u+1) (YH x v);refine ⟨_,?_,q4,λ i o h1 h2 h3 h4 h5 h=>zc h1 (zc h5 (zc h1 (k1 i o h1 h2 h3 h4 h5 h)))⟩;rw [zb rfl rfl];have ln:=len_loc q3.hs;rw [hs] at ln;have W:∀ {ρ:En}{h:Hh},ρ[4]?=some (some (.int (-1)))->whR (λ ρ' h'=>w_then_do_1.evT 182 ρ' h') (λ ρ' h'=>b_then_do_1.run 182 ρ' h') ρ h=.nx ρ h:=λ {ρ h} e=>jr (Q4 (zj (by rw [wv,e]) rfl rfl));refine zH (ρ:=[some (.loc w),some (.tup [.str "do",.str x,a]),some 248,some v,some (.int (-1)),none,none]) (zd rfl (zd (bnd (bnd 138 (bnd rfl T)) (bnd rfl (jg g1 a0))) (zx (bnd (bnd (bnd rfl (bnd rfl (Qf q1 hu))) rfl) rfl) (zU (append_at (bnd rfl (zg q2.hw rfl)) q2.hr rfl q2.hr hr) (zd (bnd (bnd (bnd rfl (zg q3.hw rfl)) ln) rfl) ?_)))));show Ss.run _ (.cons (.whil w_then_do_1 b_then_do_1 _) _) _ _=_;rw [jE,Zd,W rfl,seqS_nx];exact zK rfl (zn rfl rfl (zP q3.hw 133 rfl) rfl) rfl
end
section
variable {C:Cx}{X:Lc}{F:235}{T:List 183}
theorem z0d (q:C.S X u b (.tup [.tup [.str "then",.tup [.str "do",.str dd,a]],ts]) 155 kn rc pcs) (hs:sg pcs=[]) (k:∀ Y,Fr C X Y->C.Se Y (u+1) (YH dd v) b ts ns kn (rc++[doD dd v]) pcs->F (u+1) (rc++[doD dd v]) Y.H):G C F [none,some (doD dd v)] u rc X:=λ le x y=>by
 have q0:C.S ⟨X.d,X.l,X.s,M X.H X.d b ts 155 kn []⟩ u b ts 155 kn rc pcs:=q.M;by_cases hu:u<C.bd
 ·obtain ⟨H',e,p,kk⟩:=Of q0 hs 117 hu;exact ⟨_,H',(tsk q (zD q.at VN e)).trans (Qk (X:=⟨X.d,X.l,X.s,H'⟩) p),by rw [Fin,if_pos hu,Fin,Fin];exact k _ (Fr.same (frM kk)) p⟩
 ·obtain ⟨H',e,p⟩:=Jr q0 hu;exact ⟨_,H',(tsk q (zD q.at VN e)).trans (Qk (X:=⟨X.d,X.l,X.s,H'⟩) p),by rw [Fin,if_neg hu];exact ⟨_,_,_,_,_,_,_,_,p⟩⟩
end
structure Dn where
 f:Str
 h:Str
 d:Str
 x:Str
 s:Str
abbrev yl (N:Dn):D:=opT "+" (doT N.d (opT "+" (jR N.x) (jR N.s))) (jv 1)
abbrev inT (N:Dn):D:=jM N.f .non [opT "-" (jR N.x) (jv 1)]
abbrev ifT (N:Dn)(v:Int):D:=.tup [.str "if",jR N.x,WB N.h (jR N.x) (qJ (jR N.x) (inT N)),doT N.d (jv v)]
structure Dw (C:Cx)(N:Dn)(v0:Int)(mn:Nat):Prop where
 hF:∃ nm,zF C.kvs (.inr N.f)=some (.tup [.str "def",nm,.tup [.str N.x],.non,ifT N v0])
 hC:∃ c0,zF C.cvs [.inr N.h,.inr N.d]=some (.tup [c0,.str N.x,.str N.s,yl N])
 fk:PyData.strOk N.f=true
 xk:PyData.strOk N.x=true
 sk:PyData.strOk N.s=true
 xs:N.x≠N.s
 nv:Nn v0
 le:mn<=990
abbrev agT (N:Dn):List 220:=[("num",[.int 1]),("then",[yl N])]
noncomputable def dcl (k:Nat):List D:=(List.range k).map λ i:Nat=>clD (.int ((i:Int)+1))
theorem z8p:dcl (k+1)=dcl k++[clD (.int ((k:Int)+1))]:=by unfold dcl;rw [List.range_succ,Y0d];rfl
inductive Pd (N:Dn)(mn:Nat):Nat->List Pc->Prop
 | top {a:Nat}:Pd N mn mn [.dg a bN (tk []) .non .non]
 | lev {k a a' hs:Nat}{kn qQ:D}{pcs:List Pc}:Pd N mn (k+1) pcs->k<mn->Pd N mn k (.dg a bN (tk [clP ((k:Int)+1)]) .non kn::.sd hs N.h (.int ((k:Int)+1))::.dg a' bN (tk []) .non qQ::pcs)
inductive Hh2 (C:Cx)(X:Lc)(N:Dn):Nat->Nat->Prop
 | one {hl hs a d:Nat}{kn qQ:D}:Sf C X hl (.lst (((Pc.sd hs N.h (.int ((0:Nat)+1))::[Pc.dg a bN (tk [clP ((0:Nat)+1)]) .non kn].reverse)++[Pc.dg d bN (tk []) .non qQ]).map λ p=>.loc p.at_))->(∀ p∈(Pc.sd hs N.h (.int ((0:Nat)+1))::[Pc.dg a bN (tk [clP ((0:Nat)+1)]) .non kn].reverse)++[Pc.dg d bN (tk []) .non qQ],Sf C X p.at_ p.o)->Hh2 C X N 0 hl
 | succ {k hl h2 hs a a' d:Nat}{kn qQ kn2:D}:Hh2 C X N k h2->Sf C X hl (.lst (((Pc.sd hs N.h (.int (((k+1:Nat):Int)+1))::[Pc.dg a' bN (tk []) .non kn2,Pc.dg a bN (tk [clP (((k+1:Nat):Int)+1)]) .non kn].reverse)++[Pc.dg d ⟨blN,.loc h2,false⟩ (tk (agT N)) .non qQ]).map λ p=>.loc p.at_))->(∀ p∈(Pc.sd hs N.h (.int (191+1))::[Pc.dg a' bN (tk []) .non kn2,Pc.dg a bN (tk [clP (191+1)]) .non kn].reverse)++[Pc.dg d ⟨blN,.loc h2,false⟩ (tk (agT N)) .non qQ],Sf C X p.at_ p.o)->Hh2 C X N (k+1) hl
section
variable {C:Cx}{X Y:Lc}{N:Dn}{v0:Int}{mn:Nat}{F:235}{T:List 183}
theorem Hh2.mono (h:Hh2 C X N k hl)(f:Fr C X Y):Hh2 C Y N k hl:=by
 induction h with
 | one a b=>exact .one (f _ _ a) (λ p hp=>f _ _ (b p hp))
 | succ _ a b ih=>exact .succ ih (f _ _ a) (λ p hp=>f _ _ (b p hp))
theorem ok1:∀ p∈([clP i]:List 220),PyData.strOk p.1=true:=λ p hp=>by rw [Y07.mp hp];exact zY
theorem z8q (h:Hh2 C X N k hl):∃ hp:List Pc,X.H[hl]?=some (.lst (hp.map λ p=>.loc p.at_))/\hl≠C.r/\∀ r rc m,Th X.H C.r r rc m->∃ m',Th X.H C.r (hp.reverse++r) (dcl (k+1)++rc) m'/\m'<=m+4*(k+1):=by
 induction h with
 | @one hl hs a d kn qQ g s =>
  refine ⟨_,g.1,g.2.2.2.2.1,λ r rc m t=>?_⟩;have g1:=s (.sd hs N.h (.int ((0:Nat)+1))) 133;have g2:=s (.dg a bN (tk [clP ((0:Nat)+1)]) .non kn) 133;have g3:=s (.dg d bN (tk []) .non qQ) 133;have t1:=Th.free g2.1 g2.2.2.2.2.1 ok1 133 j1 (Th.sd g1.1 g1.2.2.2.2.1 t);have t2:=Th.free g3.1 g3.2.2.2.2.1 (λ _ h=>nomatch h) 133 j1 t1;refine ⟨m+1+1+1,?_,by omega⟩;have e:dcl (0+1)++rc=zt []++(zt [clP ((0:Nat)+1)]++rc):=rfl;rw [e];exact t2
 | @succ k hl h2 hs a a' d kn qQ kn2 hd g s ih =>
  refine ⟨_,g.1,g.2.2.2.2.1,λ r rc m t=>?_⟩;have g1:=s (.sd hs N.h (.int (191+1))) 133;have g2:=s (.dg a bN (tk [clP (191+1)]) .non kn) 133;have g3:=s (.dg a' bN (tk []) .non kn2) 133;have g4:=s (.dg d ⟨blN,.loc h2,false⟩ (tk (agT N)) .non qQ) 133;have t1:=Th.free g2.1 g2.2.2.2.2.1 ok1 133 j1 (Th.sd g1.1 g1.2.2.2.2.1 t);have t2:=Th.free g3.1 g3.2.2.2.2.1 (λ _ h=>nomatch h) 133 j1 t1;obtain ⟨hp,gh,nr,f⟩:=ih;obtain ⟨m3,t3,l3⟩:=f _ _ _ t2;have t4:=Th.alone g4.1 g4.2.2.2.2.1 (λ p hp=>by simp at hp;rcases hp with rfl | rfl;exact qG;exact we) 133 rfl rfl nr gh t3;refine ⟨m3+1,?_,by omega⟩;have e:dcl (k+1+1)++rc=zt (agT N)++(dcl (k+1)++(zt []++(zt [clP (191+1)]++rc))):=by rw [z8p,Y05];rfl
  rw [e];exact t4
noncomputable def F1 (C:Cx)(N:Dn)(mn:Nat)(u:Int)(rc:163)(H:Hh):Prop:=∃ X v b ts ns kn pcs,X.H=H/\C.Se X u (YH N.d v) b ts ns kn rc pcs/\∀ (m':Nat) Y F2,Fr C X Y->(∀ Z u' vq b ns kn,C.Se Z u' (.tup [.str "done",.int (7+min (mn:Int) 1)]) b .non ns kn vq []->F2 u' vq Z.H)->C.S Y u b ts (.tup [.int 7,ns]) kn rc pcs->G { C with n:=m' } F2 ((dcl mn).map some) u rc Y
noncomputable def clb (N:Dn):Nat->Nat->Int->List 183
 | 0,k,v=>[none,some (doD N.d (.int (v+(k+1:Nat))))]
 | j+1,k,v=>none::some (doD N.d (.int (v+(k+1:Nat))))::clb N j (k+1) (v+(k+1:Nat))
theorem z4j {k:Nat}{v:Int}(v0:0<=v)(v1:v<=100000000000000000+k*1000)(hk:k<=990):Sm v/\Sm 191/\qT "+" v 191=some (v+191)/\0<=v+191/\v+191<=100000000000000000+191*1000 :=
 ⟨by unfold Sm;omega,by unfold Sm;omega,Qp v0 117 117,by omega,by omega⟩
theorem z8r (w:Dw C N v0 mn):∀ (j k:Nat) (X:Lc) (u v:Int) (rc:163) (hl a:Nat) (qQ:D) (pcs:List Pc),j+(k+1)=mn->Pd N mn (k+1) pcs->pcs.length+3*(k+1)<=3*mn+1->Hh2 C X N k hl->0<=v->v<=100000000000000000+k*1000->C.S X u ⟨blN,.loc hl,false⟩ (.tup [yl N,tk []]) .non (knD [(N.s,191),(N.x,v)]) rc (.dg a bN (tk []) .non qQ::pcs)->G C (F1 C N mn) (clb N j k v) u rc X:=λ j=>by
 induction j with
 | zero =>
  intro k X u v rc hl a qQ pcs hj p lp hd v0 v1 q;have hle:=w.le;obtain ⟨o1,o2,o3,o4,o5⟩:=z4j v0 v1 (show k<=990 by omega);have ok:∀ p∈([(N.s,191),(N.x,v)]:List (Str×Int)),PyData.strOk p.1=true:=λ p hp=>by simp at hp;rcases hp with rfl | rfl;exact w.sk;exact w.xk
  refine Qm q λ Y1 f1 q1=>YE q1 λ Y2 f2 q2=>Qm q2 λ Y3 f3 q3=>wH q3 w.xk ok (by simp [List.lookup,beq_eq_false_iff_ne.mpr w.xs]) λ Y4 f4 q4=>wH q4 w.sk ok (by simp [List.lookup]) λ Y5 f5 q5=>jm q5 206 o1 o2 o3 λ Y6 f6 q6=>?_;cases p with
  | lev _ h=>omega
  | top =>
   refine z0d q6 rfl λ Y7 f7 q7=>⟨Y7,_,_,_,_,_,_,rfl,q7,λ m' Y8 F2 f8 k2 q8=>?_⟩;refine jN q8 λ Y9 f9 q9=>jm q9 206 (by unfold Sm;decide) (by unfold Sm;decide) (Qp 123 123 123) λ Y10 f10 q10=>?_;obtain ⟨hp,g,_,f⟩:=z8q (hd.mono (f1.tr (f2.tr (f3.tr (f4.tr (f5.tr (f6.tr (f7.tr (f8.tr (f9.tr f10))))))))));obtain ⟨m,t,lm⟩:=f [] [] 0 .nil;rw [Y0a,Y0a] at t;rw [<- hj,Y1j] at k2 ⊢;rw [<- Y0a ((dcl (k+1)).map some)];exact VU rfl rfl g t 117 q10 λ Y11 _ q11=>Js j1 q11 λ Y12 _ q12=>V0 j1 q12 λ Z q13=>k2 Z _ _ _ _ _ (by rw [show min (191) 1=1 from by omega];exact q13)
 | succ j ih =>
  intro k X u v rc hl a qQ pcs hj p lp hd v0 v1 q;have hle:=w.le;obtain ⟨o1,o2,o3,o4,o5⟩:=z4j v0 v1 (show k<=990 by omega);have ok:∀ p∈([(N.s,191),(N.x,v)]:List (Str×Int)),PyData.strOk p.1=true:=λ p hp=>by simp at hp;rcases hp with rfl | rfl;exact w.sk;exact w.xk
  refine Qm q λ Y1 f1 q1=>YE q1 λ Y2 f2 q2=>Qm q2 λ Y3 f3 q3=>wH q3 w.xk ok (by simp [List.lookup,beq_eq_false_iff_ne.mpr w.xs]) λ Y4 f4 q4=>wH q4 w.sk ok (by simp [List.lookup]) λ Y5 f5 q5=>jm q5 206 o1 o2 o3 λ Y6 f6 q6=>?_;cases p with
  | top=>omega
  | @lev _ a1 a2 hs kn1 kn2 vy p2 h2 =>
   obtain ⟨c0,hx⟩:=w.hC;simp only [Y03] at lp;refine z35 (A:=[.dg a bN (tk []) .non qQ,.dg a1 bN (tk [clP (191+1)]) .non kn1]) q6 166 (λ a y z h=>by simp at h) hx λ Y8 d8 hl8 f8 q8 g8 s8=>?_;exact ih (k+1) Y8 _ _ _ hl8 a2 _ vy 117 p2 117 (.succ (hd.mono (f1.tr (f2.tr (f3.tr (f4.tr (f5.tr (f6.tr f8))))))) g8 s8) o4 o5 q8
end
noncomputable def dsc:Nat->List 183
 | 0=>[]
 | k+1=>some (guD (.int ((k:Int)+1)))::none::dsc k
noncomputable def T1 (N:Dn)(v:Int):Nat->List 183
 | 0=>[none,some (doD N.d 215)]
 | m+1=>none::some (doD N.d 215)::clb N m 0 v
section
variable {C:Cx}{N:Dn}{v0:Int}{mn:Nat}{F:235}{T:List 183}
theorem z6o {k:Nat}(h:k<=990):qT "-" ((k:Int)+1) 1=some (k:Int):=by
 rw [show qT "-" ((k:Int)+1) 1=(if ((k:Int)+1-1).natAbs<=1000000000000000000 then some ((k:Int)+1-1) else none) from rfl,if_pos 117,Int.add_sub_cancel]
theorem z4k (w:Dw C N v0 mn):∀ (k:Nat) (X:Lc) (u:Int) (rc:163) (pcs:List Pc),Pd N mn k pcs->k<=mn->pcs.length+3*k<=3*mn+1->C.S X u bN (.tup [ifT N v0,tk []]) .non (knD [(N.x,(k:Int))]) rc pcs ->
  (∀ Y u' vq vy,Pd N mn 0 vy->vy.length<=3*mn+1->C.S Y u' bN (.tup [doT N.d (jv v0),tk []]) .non (knD [(N.x,0)]) vq vy->G C F T u' vq Y)->G C F (dsc k++T) u rc X
 | 0,X,u,rc,pcs,p,_,lp,q,kk=>by
  refine z8k q λ Y1 _ q1=>wH q1 w.xk (λ p hp=>by rw [Y07.mp hp];exact w.xk) (v:=0) (by simp [List.lookup]) λ Y2 _ q2=>Wz q2 λ Y3 _ q3=>kk Y3 u rc pcs p 117 q3
 | k+1,X,u,rc,pcs,p,hk,lp,q,kk=>by
  have hle:=w.le;have ok:∀ p∈([(N.x,191)]:List (Str×Int)),PyData.strOk p.1=true:=λ p hp=>by rw [Y07.mp hp];exact w.xk
  have lk:([(N.x,191)]:List (Str×Int)).lookup N.x=some 191:=by simp [List.lookup]
  obtain ⟨nm,hF⟩:=w.hF;refine z8k q λ Y1 _ q1=>wH q1 w.xk ok lk λ Y2 _ q2=>Wz q2 λ Y3 _ q3=>?_;rw [if_neg 117] at q3;refine WA q3 λ Y4 _ q4=>wH q4 w.xk ok lk λ Y5 _ q5=>YF q5 117 λ Y6 d hs _ q6=>Jq q6 λ Y7 _ q7=>wH q7 w.xk ok lk λ Y8 _ q8=>wX q8 λ Y9 _ q9=>Qn q9 λ Y10 _ q10=>Qm q10 λ Y11 _ q11=>wH q11 w.xk ok lk λ Y12 _ q12=>jN q12 λ Y13 _ q13=>jm q13 (.inr 206) (by unfold Sm;omega) (by unfold Sm;decide) (z6o 117) λ Y14 _ q14=>?_;refine UZ (vs:=[(k:Int)]) (ps:=[N.x]) q14 rfl rfl 133 166 w.fk hF λ Y15 d15 _ q15=>?_;exact z4k w k Y15 _ _ _ (.lev p 117) 117 166 q15 kk
theorem z0e (w:Dw C N v0 mn)(q:C.S X u bN (.tup [jM N.f .non [jv (mn:Int)],.non]) .non .non rc []):G C (F1 C N mn) (none::(dsc mn++T1 N v0 mn)) u rc X:=by
 have hle:=w.le;obtain ⟨nm,hF⟩:=w.hF;refine Qn q λ Y1 _ q1=>jN q1 λ Y2 _ q2=>UZ (vs:=[(mn:Int)]) (ps:=[N.x]) q2 rfl rfl 133 133 w.fk hF λ Y3 d3 _ q3=>?_;refine z4k w mn Y3 _ _ _ .top 176 166 q3 λ Y4 u4 rc4 pcs p lp q4=>YE q4 λ Y5 _ q5=>jN q5 λ Y6 _ q6=>?_;cases mn with
 | zero =>
  cases p with
  | lev _ h=>omega
  | top=>exact z0d q6 rfl λ Y7 f7 q7=>⟨Y7,_,_,_,_,_,_,rfl,q7,λ m' Y8 F2 f8 k2 q8=>Js j1 q8 λ Y9 _ q9=>V0 j1 q9 λ Z q10=>k2 Z _ _ _ _ _ q10⟩
 | succ m =>
  cases p with
  | @lev _ a1 a2 hs kn1 kn2 vy p2 h2 =>
   obtain ⟨c0,hx⟩:=w.hC;simp only [Y03] at lp;have nv:=w.nv;refine z35 (A:=[.dg a1 bN (tk [clP (((0:Nat):Int)+1)]) .non kn1]) q6 166 (λ a y z h=>by simp at h) hx λ Y8 d8 hl8 f8 q8 g8 s8=>?_;exact z8r w m 0 Y8 _ _ _ hl8 a2 _ vy rfl p2 117 (.one g8 s8) nv.1 (by have:=nv.2;omega) q8
noncomputable def cnt:List 183->Nat
 | []=>0
 | none::T=>cnt T+1
 | some _::T=>cnt T
noncomputable def som:List 183->List D
 | []=>[]
 | none::T=>som T
 | some e::T=>e::som T
theorem ZI:∀ (T:List 183) (u:Int) (rc:163),Fin C F T u rc H->u+cnt T<=C.bd->F (u+cnt T) (rc++som T) H
 | [],u,rc,f,_=>by rw [show u+((cnt []:Nat):Int)=u from Y3p u,show rc++som []=rc from Y0a rc];exact f
 | none::T,u,rc,f,h=>by
  rw [cnt] at h ⊢;rw [Fin,if_pos 117] at f
  have:=ZI T (u+1) rc f 117
  rw [show u+((cnt T+1:Nat):Int)=u+1+(cnt T:Nat) from by omega];exact this
 | some e::T,u,rc,f,h=>by
  have:=ZI T u (rc++[e]) f h
  rw [Y05] at this;exact this
noncomputable def wY (bd:Int)(fin:D):List 183->Int->List D->D×List D×Int
 | [],u,rc=>(fin,rc,u)
 | none::T,u,rc=>if u<bd then wY bd fin T (u+1) rc else (wW,rc,u)
 | some e::T,u,rc=>wY bd fin T u (rc++[e])
theorem Qr (hF:∀ u rc,F u rc H->∃ d l s b ts ns kn pcs,C.Se ⟨d,l,s,H⟩ u fin b ts ns kn rc pcs):∀ (T:List 183) (u:Int) (rc:163),Fin C F T u rc H->∃ d l s b ts ns kn pcs,C.Se ⟨d,l,s,H⟩ (wY C.bd fin T u rc).2.2 (wY C.bd fin T u rc).1 b ts ns kn (wY C.bd fin T u rc).2.1 pcs
 | [],u,rc,f=>hF u rc f
 | none::T,u,rc,f=>by
  rw [Fin] at f;rw [wY];by_cases h:u<C.bd
  ·rw [if_pos h] at f ⊢;exact Qr hF T _ _ f
  ·rw [if_neg h] at f ⊢;exact f
 | some e::T,u,rc,f=>Qr hF T u _ f
end
theorem V3:PyData.strOk "def"=true:=by decide +kernel
theorem z0f:PyData.strOk "handler"=true:=by decide +kernel
inductive Itm where
 | fn (x:Str) (p b:D) | hd (x:Str) (cs:List 220) (e:D)
noncomputable def Itm.nm:Itm->Str
 | .fn x _ _=>x
 | .hd x _ _=>x
noncomputable def Itm.d:Itm->D
 | .fn x p b=>.tup [.str "def",.str x,p,.non,b]
 | .hd x cs e=>.tup [.str "handler",.str x,.tup (cs.map λ c=>.tup (.str c.1::c.2)),e]
noncomputable def Itm.cls:Itm->List (List Key×D)
 | .fn _ _ _=>[]
 | .hd x cs _=>cs.map λ c=>([.inr x,.inr c.1],.tup (.str c.1::c.2))
theorem z0g [DecidableEq κ]{acc:List (κ×D)}(h:∀ a∈acc,a.1≠k):¬ (acc.any λ kv=>decide (kv.1=k))=true:=λ e=>by
 obtain ⟨a,ha,e⟩:=List.any_eq_true.mp e;exact h a ha (of_decide_eq_true e)
theorem z0h {κ:Type}[DecidableEq κ]:∀ (qs acc:List (κ×D)),(qs.map (·.1)).Nodup->(∀ q∈qs,∀ a∈acc,a.1≠q.1)->qs.foldl (λ acc kv=>wO acc kv.1 kv.2) acc=acc++qs:=by
 intro qs
 induction qs with
 | nil=>intro acc _ _;simp
 | cons q r ih =>
  intro acc hn ha;rw [Y0n,Y1o] at hn;have e1:wO acc q.1 q.2=acc++[q]:=by
   unfold wO;rw [if_neg (z0g (ha q Y0c))]
  rw [List.foldl_cons,e1,ih _ hn.2 λ z hz a h=>?_,Y05];rfl;rcases Y0r.mp h with h | h
  ·exact ha z (Y06 _ hz) a h
  ·rw [Y07.mp h];exact λ e=>hn.1 (Y0s.mpr ⟨z,hz,e.symm⟩)
theorem qR [DecidableEq κ]:∀ {l:List (κ×D)},(l.map (·.1)).Nodup->(k,v)∈l->zF l k=some v:=by
 intro l
 induction l with
 | nil=>intro _ h;cases h
 | cons q r ih =>
  intro hn hm;rw [Y0n,Y1o] at hn;unfold zF at ih ⊢;rw [Y2a];rcases Y0g.mp hm with e | e
  ·subst e;simp
  ·have:q.1≠k:=λ z=>hn.1 (Y0s.mpr ⟨(k,v),e,z.symm⟩)
   rw [decide_eq_false this];exact ih hn.2 e
abbrev tab (its:List Itm):List (Key×D):=its.map λ i=>(Sum.inr i.nm,i.d)
abbrev j3 (its:List Itm):List (List Key×D):=its.flatMap Itm.cls
noncomputable def ob:List (List Key×D)->O
 | []=>.dK []
 | p::r=>.dT (p::r)
section
variable {n:Nat}{H B:Hh}{m:Nat}{f:Str}{kvs:237}{v:D}{its:List Itm}
theorem inK (g:H[m]?=some (.dK kvs))(e:zF kvs (.inr f)=some v):je .In (.str f) 221 H=.ok (.bl true) H:=by
 show (match H[m]? with
  | some (.lst ds)=>JF false (.str f) ds H
  | some (.dK kvs)=>(match wn (.str f) with | some k=>Res.ok (.bl (ngB false (zF kvs k).isSome)) H | none=>(match kvs with | []=>(match jC (.str f) with | some _=>.ok (.bl (ngB false false)) H | none=>.no) | _=>.no))
  | some (.dT kvs)=>(match jC (.str f) with | some k=>Res.ok (.bl (ngB false (zF kvs k).isSome)) H | none=>.no)
  | _=>.no)=_
 rw [g];show Res.ok (D.bl (ngB false (zF kvs (.inr f)).isSome)) H=_;rw [e];rfl
theorem z8s (g:H[m]?=some (.dK kvs))(e:zF kvs (.inr f)=some (Itm.fn x1 p b).d):callI defs (n+1) 3 [.str f,.loc m] H=.ok (.bl true) H:=by
 rw [zb rfl rfl];exact zi (zr (jc (Jc (zj rfl rfl (inK g e)) (zj (bnd (bnd rfl (bnd rfl (yF g e))) rfl) rfl (eqS V3 V3)))))
theorem z38 (g:H[m]?=some (.dK kvs))(e:zF kvs (.inr f)=some (Itm.fn x1 p b).d):callI defs (n+2) 4 [.str f,.loc m] H=.ok (Itm.fn x1 p b).d H:=by
 rw [zb rfl rfl];exact zi (zx (z8c (bnd (bnd (bnd rfl (bnd rfl (z8s g e))) rfl) rfl) (zj (bnd (bnd rfl (bnd rfl (yF g e))) rfl) rfl rfl)) (zr (bnd rfl (bnd rfl (yF g e)))))
theorem z39 (g:H[m]?=some (.lst [])):callI defs (n+1) 5 [(Itm.fn x1 (.tup []) b).d,.loc m] H=.ok .non H:=by
 rw [zb rfl rfl];exact zH (zx (zj (bnd rfl (len_loc g)) rfl neI) rfl)
theorem z6p (hv:ve.ev cl ρ h=.ok z h1)(ho:oe.ev cl ρ h1=.ok x h2)(he:es.ev cl ρ h2=.ok ds h3)(hl:ds.length<1000)(hp:putT x ds z h3=some h4)(k:Ss.run cl r ρ h4=o):Ss.run cl (.cons (.putT oe es ve p2 p1 p) r) ρ h=o:=by
 rw [<- k,jE,z8b,hv,andS_ok,ho,andS_ok,he,andS_ok,if_pos hl,hp];rfl
theorem z6q (hl:acc.length<1000000)(hn:∀ a∈acc,a.1≠[.inr x,.inr y]):putT (.loc B.length) [.str x,.str y] z (B++[ob acc])=some (B++[ob (acc++[([.inr x,.inr y],z)])]):=by
 have e:putT (.loc B.length) [.str x,.str y] z (B++[ob acc])=match (B++[ob acc])[B.length]? with
  | some (.dT kvs)=>if kvs.length<1000000 then some ((B++[ob acc]).set B.length (.dT (wO kvs [.inr x,.inr y] z))) else none
  | some (.dK [])=>some ((B++[ob acc]).set B.length (.dT [([.inr x,.inr y],z)]))
  | _=>none:=rfl
 have st:∀ A o:O,(B++[A]).set B.length o=B++[o]:=λ A o=>by rw [Y18 _ _ 176,Y0x];rfl
 rw [e,zm];cases acc with
 | nil=>exact congrArg some (st _ _)
 | cons p r =>
  show (if (p::r).length<1000000 then some ((B++[_]).set B.length (.dT (wO (p::r) [Sum.inr x,Sum.inr y] z))) else none)=_;rw [if_pos hl,st]
  have:wO (p::r) [Sum.inr x,Sum.inr y] z=(p::r)++[([.inr x,.inr y],z)]:=by
   unfold wO;rw [if_neg (z0g hn)]
  rw [this];rfl
theorem VW:∀ (cs:List 220) (acc:List (List Key×D)) (c:Option D),(cs.map (·.1)).Nodup->(∀ q∈cs,∀ a∈acc,a.1≠[.inr x,.inr q.1])->acc.length+cs.length<1000000 ->
  ∃ c',jb [] (zJ jK λ ρ' h'=>b_clauses_by_deed_2.run cl ρ' h') (cs.map λ c=>.tup (.str c.1::c.2)) [a,some (.loc B.length),some (.tup (i0::.str x::rs)),c] (B++[ob acc])=.nx [a,some (.loc B.length),some (.tup (i0::.str x::rs)),c'] (B++[ob (acc++cs.map λ c=>([.inr x,.inr c.1],.tup (.str c.1::c.2)))])
 | [],acc,c,_,_,_=>⟨c,by rw [Y20,Y20,Y0a];exact jV⟩
 | q::r,acc,c,hn,ha,hl=>by
  rw [Y0n,Y1o] at hn;rw [Y03] at hl;obtain ⟨c',e⟩:=VW r (acc++[([.inr x,.inr q.1],.tup (.str q.1::q.2))]) (some (.tup (.str q.1::q.2))) hn.2 (λ z hz b hb=>by
   rcases Y0r.mp hb with h | h
   ·exact ha z (Y06 _ hz) b h
   ·rw [Y07.mp h];intro e;simp at e;exact hn.1 (Y0s.mpr ⟨z,hz,e.symm⟩)) (by rw [Y01];show acc.length+1+r.length<_;omega)
  rw [Y05] at e;exact ⟨c',zM 144 (zR (z6p rfl rfl (bnd (bnd rfl (bnd rfl (show (match atI (i0::.str x::rs) 1 with | some d=>Res.ok d _ | none=>.no)=_ from by rw [a1]))) (bnd (bnd (bnd rfl (bnd rfl (show (match atI (.str q.1::q.2) 0 with | some d=>Res.ok d _ | none=>.no)=_ from by rw [a0]))) rfl) rfl)) 133 (z6q 117 (ha q Y0c)) rfl)) e⟩
end
theorem z6r (hi:it.ev cl ρ h=.ok q h2)(hf:jb q.1 (zJ t λ ρ' h'=>b.run cl ρ' h') q.2 ρ h2=.nx ρ' h'):Ss.run cl (.cons (.forr t it b p) .nil) ρ h=.nx ρ' h':=zL hi hf rfl
structure Its (its:List Itm):Prop where
 nd:(its.map Itm.nm).Nodup
 cd:∀ i∈its,(i.cls.map (·.1)).Nodup
 le:its.length<1000
 lc:(j3 its).length<100000
theorem Qs {i:Itm}(h:c∈i.cls):∃ y,c.1=[.inr i.nm,y]:=by
 cases i with
 | fn x p b=>cases h
 | hd x cs e =>
  obtain ⟨z,_,rfl⟩:=Y0s.mp h;exact 150
section
variable {n:Nat}{H B:Hh}{m:Nat}{f:Str}{its:List Itm}
theorem VX:∀ (its:List Itm) (acc:List (List Key×D)) (c e:Option D),(its.map Itm.nm).Nodup->(∀ i∈its,(i.cls.map (·.1)).Nodup)->(∀ i∈its,∀ b∈acc,∀ y,b.1≠[.inr i.nm,y])->acc.length+(j3 its).length<1000000 ->
  ∃ c' e',jb [] (zJ jL λ ρ' h'=>b_clauses_by_deed_1.run cl ρ' h') (its.map Itm.d) [a,some (.loc B.length),c,e] (B++[ob acc])=.nx [a,some (.loc B.length),c',e'] (B++[ob (acc++j3 its)])
 | [],acc,c,e,_,_,_,_=>⟨c,e,by rw [show j3 []=[] from rfl,Y0a];exact jV⟩
 | i::r,acc,c,e,hn,hc,ha,hl=>by
  rw [Y0n,Y1o] at hn;have eC:j3 (i::r)=i.cls++j3 r:=rfl;rw [eC,Y01] at hl;have rcs:=λ e'=>VX (cl:=cl) (a:=a) r (acc++i.cls) (some i.d) e' hn.2 (λ j hj=>hc j (Y06 _ hj)) (λ j hj b hb y=>by
   rcases Y0r.mp hb with h | h
   ·exact ha j (Y06 _ hj) b h y
   ·obtain ⟨z,hz⟩:=Qs h;rw [hz];intro q;simp at q;exact hn.1 (Y0s.mpr ⟨j,hj,q.1.symm⟩)) (by rw [Y01];omega)
  rw [eC,<- Y05];cases i with
  | fn x p b =>
   obtain ⟨c',e',z⟩:=rcs e;rw [show (Itm.fn x p b).cls=[] from rfl,Y0a] at z;rw [show (Itm.fn x p b).cls=[] from rfl,Y0a];exact ⟨c',e',zM 144 (zR (zx (zj rfl rfl (eqS V3 z0f)) rfl)) z⟩
  | hd x cs en =>
   have hcs:=hc (.hd x cs en) Y0c;have hcs:(cs.map (·.1)).Nodup:=by
    unfold Itm.cls at hcs;rw [Y1k] at hcs;refine (Y1v.mpr ?_);refine (Y1v.mp hcs).imp λ {a b} h e=>h ?_;show [Sum.inr x,Sum.inr a.1]=[Sum.inr x,Sum.inr b.1];rw [e]
   obtain ⟨e1,z1⟩:=VW cs acc e hcs (λ q hq b hb=>ha (.hd x cs en) Y0c b hb _) (by unfold Itm.cls at hl;rw [Y08] at hl;omega);obtain ⟨c',e',z⟩:=rcs e1;exact ⟨c',e',zM 144 (zR (zK (zj rfl rfl (eqS z0f z0f)) (z6r rfl z1) rfl)) z⟩
theorem Og (o:Its its):callI defs (n+1) 9 [.tup (its.map Itm.d)] H=.ok 151 (H++[ob (j3 its)]):=by
 rw [zb rfl rfl];obtain ⟨c',e',z⟩:=VX its [] none none o.nd o.cd (λ _ _ _ h=>nomatch h) (by have:=o.lc;rw [Y1x];omega);exact zi (zd rfl (zL rfl z rfl))
noncomputable def pr2:D->Option D
 | .tup (k::x::r)=>some (.tup [x,.tup (k::x::r)])
 | _=>none
theorem YI:∀ (its:List Itm),wo 202=some (tab its)
 | []=>rfl
 | q::r=>by
  show (match Vu (.tup [.str q.nm,q.d]),wo (r.map λ q=>.tup [.str q.nm,q.d]) with | some a,some b=>some (a::b) | _,_=>none)=_
  rw [YI r];rfl
theorem Qt (o:Its its):((tab its).map (·.1)).Nodup:=by
 rw [Y1k];refine Y1v.mpr ((Y1v.mp o.nd).imp λ {a b} h e=>h ?_);exact Sum.inr.inj e
theorem z3a (o:Its its):callI defs (n+1) 2 [.tup (its.map Itm.d)] H=.ok (.loc (H.length+1)) (H++[.lst 202,.dK (tab its)]):=by
 have hl:=o.le;have fm:∀ its:List Itm,(its.map Itm.d).filterMap pr2=its.map λ i=>D.tup [.str i.nm,i.d]:=λ its=>by
  induction its with
  | nil=>rfl
  | cons q r ih =>
   have e1:pr2 q.d=some (.tup [.str q.nm,q.d]):=by cases q<;>rfl
   rw [Y0n,Y2g,e1];show _::_=_;rw [ih,Y0n]
 rw [zb rfl rfl];have C:=j5 (c:=[]) (f:=ja w9 (jD [none] [some (.tup (its.map Itm.d))]) (λ ρ' h2=>c_items_by_name_1.evC 204 ρ' h2) (λ ρ' h2=>e_items_by_name_1.ev 204 ρ' h2)) (h:=H) 144 pr2 (its.map Itm.d) [] λ x hx=>by
  obtain ⟨q,hq,rfl⟩:=Y0s.mp hx;cases q<;>exact ju rfl rfl rfl
 rw [fm,Y19] at C;have g:=zm (h:=H) (x:=O.lst 202);refine zi (zr (vdicP.trans (bnd (j6 (q:=(([]:Ck),its.map Itm.d)) rfl (by rw [Y08];omega) C) ?_)));show (match PI.rd (H++[O.lst _]) H.length with
  | some xs=>if xs.length<=1000000 then (match wo xs with | some kvs=>new (.dK (yX [] kvs)) (H++[O.lst _]) | none=>.no) else .no
  | none=>.no)=_
 rw [rdl g]
 have:yX [] (tab its)=tab its:=(z0h (tab its) [] (Qt o) (λ _ _ _ h=>nomatch h)).trans (Y19 _)
 simp only [Y08,show its.length<=1000000 from by omega,if_true,YI,this];simp [new]
abbrev w0 (H:Hh)(bd:Int):O:=.obj "Walk" [("named",.loc (H.length+1)),("clauses",.loc (H.length+2)),("bound",.int bd),("doing",.non),("left",.loc (H.length+3+1)),("standing",.loc (H.length+3+2)),("record",.loc (H.length+3+3)),("used",.int 0),("end",.non)]
theorem WD {x:Str}{b:D}{bd:Int}(o:Its its)(hf:Itm.fn x (.tup []) b∈its)(g:H[m]?=some (.lst [])) :
  ∃ R,callI defs (n+3) 8 [.tup (its.map Itm.d),.str x,.loc m,.int bd] H=.ok (.loc 238) R/\St H R 238 (H.length+7) (H.length+4) (H.length+5) (H.length+6) (H.length+1) (H.length+2) bd (tab its) (ob (j3 its)) 0 .non bN (.tup [b,.non]) .non .non [] []:=by
 have e:zF (tab its) (.inr x)=some (Itm.fn x (.tup []) b).d:=qR (Qt o) (Y0s.mpr ⟨_,hf,rfl⟩);have A:=z3a (n:=n+1) (H:=H) o;have g1:(H++[O.lst 202,.dK (tab its)])[H.length+1]?=some (.dK (tab its)):=Jn 1 rfl;have gm:=za (B:=[O.lst 202,.dK (tab its)]) g;have l1:(H++[O.lst 202,.dK (tab its)]).length=H.length+2:=by simp
 have od:∀ (i:Nat) (o:O),H[i]?=some o->(H++[O.lst 202,.dK (tab its)])[i]?=some o:=λ i o=>za;generalize (H++[O.lst 202,.dK (tab its)])=H1 at A g1 gm l1 od;have hC:callI defs (n+2) 9 [.tup (its.map Itm.d)] H1=.ok (.loc H1.length) (H1++[ob (j3 its)]):=Og o;have B:callI defs (n+2) 50 [.loc (H1++[ob (j3 its)]).length,.loc (H.length+1),.loc H1.length,.int bd] ((H1++[ob (j3 its)])++[.obj "Walk" []])=_:=z8g;have l2:(H1++[ob (j3 its)]).length=H.length+3:=by rw [Y01,l1];rfl
 rw [l2,l1] at B;have W:∀ (i:Nat) {x:O},[w0 H bd,.lst [],.lst [],.lst []][i]?=some x->208[H.length+3+i]?=some x:=λ i x q=>by rw [<- l2];exact Jn i q
 have gc:208[H.length+2]?=some (ob (j3 its)):=za (by rw [<- l1];exact zm);have od2:∀ (i:Nat) (o:O),H1[i]?=some o->208[i]?=some o:=λ i o h=>za (za h);have l3:((H1++[ob (j3 its)])++[w0 H bd,.lst [],.lst [],.lst []]).length=H.length+7:=by rw [Y01,l2];rfl
 have B:callI defs (n+2) 50 [.loc 238,.loc (H.length+1),.loc (H.length+2),.int bd] ((H1++[ob (j3 its)])++[.obj "Walk" []])=.ok .non 208:=B;generalize hW:208=H3 at B W gc od2 l3;have gm3:=od2 _ _ gm;have W0:=W 0 rfl;have Dd:callI defs (n+2) 51 [.loc H3.length,b,.non,.tup [.non,.non],.non] (H3++[.obj "Doing" []])=.ok .non (H3++[dg bN (.tup [b,.non]) .non .non]):=Wv;have S:qe (.loc 238) "doing" (.loc H3.length) (H3++[dg bN (.tup [b,.non]) .non .non])=some ((H3++[dg bN (.tup [b,.non]) .non .non]).set 238 (wk (.loc (H.length+1)) (.loc (H.length+2)) (.int bd) (H.length+7) (H.length+4) (H.length+5) (H.length+6) 0 .non)) :=
  (zP (za W0) 133 rfl).trans (by rw [l3];rfl)
 refine ⟨(H3++[dg bN (.tup [b,.non]) .non .non]).set 238 (wk (.loc (H.length+1)) (.loc (H.length+2)) (.int bd) (H.length+7) (H.length+4) (H.length+5) (H.length+6) 0 .non),?_,?_⟩
 ·rw [zb rfl rfl];exact zi (zd (bnd rfl (bnd rfl A)) (zd (bnd rfl (bnd rfl (z38 g1 e))) (zU (bnd rfl (bnd rfl (z39 gm))) (zd (vmk.trans (bnd rfl (bnd (bnd (bnd rfl (bnd rfl hC)) rfl) (by rw [l2,l1,B];rfl)))) (zn (z:=.loc H3.length) (vmk.trans (bnd rfl (bnd (bnd (bnd rfl (bnd rfl (Yv (names:=[]) (nums:=[]) gm3))) rfl) (by show mkR _ (callI defs (n+2) 51 [.loc H3.length,b,.non,.tup [.non,.non],.non] (H3++[.obj "Doing" []]))=_;rw [Dd];rfl)))) rfl S rfl)))))
 ·refine ⟨Y0b (by simp [l3]),zc (na 123) ?_,zc (na 123) (za (W 1 rfl)),zc (na 123) (za (W 2 rfl)),zc (na 123) (za (W 3 rfl)),zc (na 123) (za (od2 _ _ g1)),zc (na 123) (za gc),na 123,na 123,na 123,na 123,na 123,na 123,na 123,na 123,na 123,na 123,na 123,na 123,na 123,na 123,na 123,na 123,na 123,na 123,na 123,na 123,λ _ h=>(nomatch h),λ i o ho=>zc (jx ho (Y1r _ _)) (za (od2 _ _ (od _ _ ho))),Y1r _ _,Y1r _ _,Y1r _ _,Y1r _ _,Y1r _ _⟩;rw [Y09 117,show H.length+7-H3.length=0 from by omega];rfl
end
theorem VY:PyData.strOk "asks"=true:=by decide +kernel
theorem Qu:∀ (l:163),cnt (l.map some)=0
 | []=>rfl
 | _::r=>Qu r
theorem VZ:∀ (l:163),som (l.map some)=l
 | []=>rfl
 | a::r=>congrArg (a::·) (VZ r)
theorem z4l:∀ {l:List (List Key×D)},l≠[]->ob l=.dT l
 | [],h=>absurd rfl h
 | _::_,_=>rfl
section
variable {n:Nat}{H:Hh}{m ma:Nat}{its:List Itm}{x:Str}{b fin:D}{bd:Int}{T:List 183}
theorem V4 (e:Ends C X Q):∃ H',callI defs (C.n+5) 13 [.loc C.w] X.H=.ok .non H'/\Q H':=by
 obtain ⟨ρ',H',e1,q⟩:=e none none;refine ⟨H',?_,q⟩;rw [zb rfl rfl];refine zH (ρ:=ρ') ?_;show wq (Lp (C.n+1) [some (.loc C.w),none,none] X.H) _=_;rw [e1];rfl
theorem z8t (o:Its its)(ne:j3 its≠[])(hf:Itm.fn x (.tup []) b∈its)(g:H[m]?=some (.lst []))(ga:H[ma]?=some (.lst []))(hT:T.length<300000)
  (run:∀ (C:Cx) (X:Lc) (F:235),C.bd=bd->C.kvs=tab its->C.cvs=j3 its->C.S X 0 bN (.tup [b,.non]) .non .non [] []->(∀ Y u' vq b ns qQ,C.Se Y u' fin b .non ns qQ vq []->F u' vq Y.H)->G C F T 0 [] X) :
  ∃ Hf rr,callI defs (n+6) 7 [.tup (its.map Itm.d),.str x,.loc m,.loc ma,.int bd] H=.ok (.tup [(wY bd fin T 0 []).1,.loc rr,.int (wY bd fin T 0 []).2.2]) Hf/\Hf[rr]?=some (.lst (wY bd fin T 0 []).2.1)/\∀ (i:Nat) (o:O),H[i]?=some o->Hf[i]?=some o:=by
 obtain ⟨R,B,q⟩:=WD o hf g;rw [z4l ne] at q;have E:=run ⟨n,H,H.length+3,H.length+6,H.length+1,H.length+2,bd,tab its,j3 its⟩ ⟨H.length+7,H.length+4,H.length+5,R⟩ (λ u rc H'=>∃ d l s b ts ns kn pcs,St H H' 238 d l s (H.length+6) (H.length+1) (H.length+2) bd (tab its) (.dT (j3 its)) u fin b ts ns kn rc pcs) rfl rfl rfl q (λ Y u' vq b ns qQ h=>⟨_,_,_,_,_,_,_,_,h⟩);obtain ⟨H1,W,f⟩:=V4 (E (by rw [Y1x];omega));obtain ⟨d,l,s,b',ts,ns,kn,pcs,F⟩:=Qr (λ u rc h=>h) T 0 [] f;have F:=F;refine ⟨H1,H.length+6,?_,F.hr,F.old⟩;rw [zb rfl rfl];exact zi (zd (bnd rfl (bnd rfl B)) (zU (bnd rfl (bnd rfl W)) (zL (w6 rfl (rdl (F.old _ _ ga))) (if_pos λ p hp=>by rw [Y07.mp hp];exact rdl (F.old _ _ ga)) (zr (Jo (bnd rfl (zg F.hw rfl)) (bnd rfl (zg F.hw rfl)) (bnd rfl (zg F.hw rfl)))))))
theorem z8u {N:Dn}{mn:Nat}(o:Its its)(ne:j3 its≠[])(hf:Itm.fn x (.tup []) b∈its)(g:H[m]?=some (.lst []))(ga:H[ma]?=some (.lst [.int 7]))(hT:T.length+mn<300000)(hb:(cnt T:Int)<=bd)
  (run:∀ (C:Cx) (X:Lc),C.bd=bd->C.kvs=tab its->C.cvs=j3 its->C.S X 0 bN (.tup [b,.non]) .non .non [] []->G C (F1 C N mn) T 0 [] X) :
  ∃ Hf rr,callI defs (n+7) 7 [.tup (its.map Itm.d),.str x,.loc m,.loc ma,.int bd] H=.ok (.tup [.tup [.str "done",.int (7+min (mn:Int) 1)],.loc rr,.int (cnt T)]) Hf/\Hf[rr]?=some (.lst (som T++dcl mn))/\∀ (i:Nat) (o:O),H[i]?=some o->Hf[i]?=some o:=by
 obtain ⟨R,B,q⟩:=WD o hf g;rw [z4l ne] at q;have E:=run ⟨n+1,H,H.length+3,H.length+6,H.length+1,H.length+2,bd,tab its,j3 its⟩ ⟨H.length+7,H.length+4,H.length+5,R⟩ rfl rfl rfl q;obtain ⟨H1,W,f⟩:=V4 (E (by rw [Y1x];omega));obtain ⟨X,v,b',ts,ns,kn,pcs,rfl,qa,K⟩:=ZI T 0 [] f (by rw [Int.zero_add];exact hb);rw [Int.zero_add,Y19] at qa K;have q1:=qa.setW (cnt T:Nat) .non;have q2:=q1.M (J:=[]) (vz:=ts) (vj:=.tup [.int 7,ns]) (qQ:=kn);have E2:=K n ⟨X.d,X.l,X.s,M (X.H.set 238 (wk (.loc (H.length+1)) (.loc (H.length+2)) (.int bd) X.d X.l X.s (H.length+6) (cnt T:Nat) .non)) X.d b' ts (.tup [.int 7,ns]) kn []⟩ (λ u rc H'=>∃ d l s b ts ns kn pcs,St H H' 238 d l s (H.length+6) (H.length+1) (H.length+2) bd (tab its) (.dT (j3 its)) u (.tup [.str "done",.int (7+min (mn:Int) 1)]) b ts ns kn rc pcs) (Fr.same λ i o h1 h2 h3 h4 h5 h=>M_o (zc h1 h) h2) (λ Z u' vq b ns qQ h=>⟨_,_,_,_,_,_,_,_,h⟩) q2;have ls:∀ T:List 183,(som T).length<=T.length:=λ T=>by
  induction T with
  | nil=>exact Y04 _
  | cons a r ih=>cases a<;>simp only [som,Y03]<;>omega
 obtain ⟨H2,W2,f2⟩:=V4 (E2 (by have:=ls T;rw [Y08,show (dcl mn).length=mn from by unfold dcl;simp];omega));have f3:=ZI _ _ _ f2 (by rw [Qu];show ((cnt T:Nat):Int)+((0:Nat):Int)<=bd;omega);rw [Qu,VZ,show ((cnt T:Nat):Int)+((0:Nat):Int)=(cnt T:Nat) from Y3p _] at f3;obtain ⟨d,l,s,b2,ts2,ns2,kn2,pcs2,F⟩:=f3;have P:=Wu (n:=n+4) (bl:=b') (ts:=ts) (ns:=ns) (kn:=kn) (J:=[]) (v:=.int 7) (zk q1.hd);rw [q1.self] at P;have AN:callI defs (n+6) 12 [.loc 238,.int 7] X.H=.ok .non H2:=by
  rw [zb rfl rfl];exact zH (zn rfl rfl (zP qa.hw 133 rfl) (zU (bnd (bnd rfl (zg q1.hw rfl)) (bnd rfl P)) (zU (bnd rfl (bnd rfl W2)) rfl)))
 refine ⟨H2,H.length+6,?_,F.hr,F.old⟩;rw [zb rfl rfl];have fw:yW (.loc 238) "end" X.H=.ok (YH N.d v) X.H:=zg qa.hw rfl;exact zi (zd (bnd rfl (bnd rfl B)) (zU (bnd rfl (bnd rfl W)) (zL (w6 rfl (rdl (qa.old _ _ ga))) (zM (λ p hp=>by rw [Y07.mp hp];exact rdl (qa.old _ _ ga)) (zR (zK (zj (bnd (bnd rfl fw) rfl) rfl (eqS VY VY)) (zU (bnd rfl (bnd rfl AN)) rfl) rfl)) (if_pos λ p hp=>by rw [Y07.mp hp];exact rdl (F.old _ _ ga))) (zr (Jo (bnd rfl (zg F.hw rfl)) (bnd rfl (zg F.hw rfl)) (bnd rfl (zg F.hw rfl)))))))
end
noncomputable def azS:Str:="abcdefghijklmnopqrstuvwxyz"
noncomputable def teS:Str:="bcdfghjklmnpqrstvwxyz"
noncomputable def TC:List Nat:=[98,99,100,102,103,104,106,107,108,109,110,112,113,114,115,116,118,119,120,121,122]
theorem z8v:cs azS=(List.range 26).map (·+97):=by decide
theorem z8w:cs teS=TC:=by decide
theorem z8x (i:Int)(h0:0<=i)(h1:i<26)(h:Hh):jf (.str azS) 222 h=.ok (.str (mkS [97+i.toNat])) h:=by
 rw [WX,if_pos 123]
 have:atI azS.cps.toList i=some (97+i.toNat):=by
  rw [<- Y1m h0];refine atk ?_;show (cs azS)[i.toNat]?=_;rw [z8v,Y0u,List.getElem?_range 117];simp;omega
 rw [this];rfl
noncomputable def tc (i:Int):Nat:=TC.getD i.toNat 0
theorem z4m (i:Int)(h0:0<=i)(h1:i<21)(h:Hh):jf (.str teS) 222 h=.ok (.str (mkS [tc i])) h:=by
 rw [WX,if_pos 123];have hl:i.toNat<TC.length:=by show i.toNat<21;omega
 have:atI teS.cps.toList i=some (tc i):=by
  conv=>lhs;rw [<- Y1m h0]
  refine atk ?_;show (cs teS)[i.toNat]?=_;rw [z8w,Y0j hl];unfold tc;rw [Y17,Y0j hl];rfl
 rw [this];rfl
theorem YJ (i:Int):tc i<1114112:=by
 unfold tc;rw [Y17];cases e:TC[i.toNat]? with
 | none=>decide
 | some x =>
  have:∀ y∈TC,y<1114112:=by decide
  exact this x (Y1i e)
theorem z6s (h0:0<=i)(h1:i<21)(h2:0<=j)(h3:j<21)(e:tc i=tc j):i=j:=by
 have:∀ a<21,∀ b<21,TC.getD a 0=TC.getD b 0->a=b:=by decide
 have:=this i.toNat 117 j.toNat 117 e
 omega
section
variable {cl:136}{c:Int}{h:Hh}{a:Int}
noncomputable def tki (c:Int)(k:Nat):Int:=(c/64+k)%21
noncomputable def lk (c:Int)(j:Nat):Int:=(c/64/((j:Int)+1)+5*(j:Int))%26
noncomputable def sgn (c a:Int)(k j:Nat):Nat:=if (j:Int)=a then tc (tki c k) else 97+(lk c j).toNat
theorem Oh:sgn c a k j<1114112:=by
 unfold sgn lk
 split
 ·exact YJ _
 ·omega
theorem z8y (hl:x.length+y.length<=1000):qw .Add (.str (mkS x)) (.str (mkS y)) h=.ok (.str (mkS (x++y))) h:=by
 rw [bin_adds,if_pos (by rw [BR,BR];omega),O6]
theorem G0 {d0 d1 d4 d5 d7:Option D}{k:Nat}:∀ (m j:Nat) (Z:List Nat) (x y:Option D),j+m<=8->Z.length=j->∃ x' y',jb [] (zJ y6 λ ρ' h'=>b_law_names_4.run cl ρ' h') ((List.range' j m).map λ (i:Nat)=>D.int (i:Nat)) [some (.int c),d1,some (.str azS),some (.str teS),d4,d5,some (.int a),d7,some 169,some (.str (mkS Z)),x,y] h=.nx [some (.int c),d1,some (.str azS),some (.str teS),d4,d5,some (.int a),d7,some 169,some (.str (mkS (Z++(List.range' j m).map (sgn c a k)))),x',y'] h
 | 0,j,Z,x,y,_,_=>⟨x,y,by rw [show (List.range' j 0)=[] from rfl,Y20,Y20,Y0a];exact jV⟩
 | m+1,j,Z,x,y,hj,hZ=>by
  have f1:fits (5:Int)=true:=by decide
  have f2:fits (j:Int)=true:=Q3 117;have l0:0<=lk c j:=by unfold lk;omega
  have l1:lk c j<26:=by unfold lk;omega
  have t0:0<=tki c k:=by unfold tki;omega
  have t1:tki c k<21:=by unfold tki;omega
  obtain ⟨x',y',ih⟩:=G0 (d0:=d0) m (j+1) (Z++[sgn c a k j]) (some (.int (j:Nat))) (some (.str (mkS [sgn c a k j]))) 117 (by simp [hZ]);refine ⟨x',y',?_⟩;rw [Y27,Y0n,Y0n];rw [Y05] at ih;refine zM 144 (zR (zd (bnd rfl (bnd (bnd (bnd (bnd 197 (bnd rfl (fdk 117))) (bnd (bnd rfl (bnd rfl (mlk f1 f2))) rfl)) 219) (z8x _ l0 l1 h))) ?_)) ih;by_cases e:(j:Int)=a
  ·have es:sgn c a k j=tc (tki c k):=if_pos e;rw [es];exact zK (zj rfl rfl (eqI.trans (by rw [e,beq_self_eq_true]))) (zd (bnd rfl (bnd (bnd (bnd 197 rfl) 219) (z4m _ t0 t1 h))) rfl) (zd (bnd rfl (bnd rfl (z8y 166))) rfl)
  ·have es:sgn c a k j=97+(lk c j).toNat:=if_neg e;rw [es];exact zx (zj rfl rfl (eqI.trans (by rw [show ((j:Int)==a)=false from by simpa using e]))) (zd (bnd rfl (bnd rfl (z8y 166))) rfl)
noncomputable def nm (c a:Int)(sz:Nat)(k:Nat):Str:=mkS ((List.range' 0 sz).map (sgn c a k))
theorem zaj (e7:ρ[7]?=some (some (.loc P.length)))(e9:ρ[9]?=some (some v))(hl:l.length<1000):E.ev cl (.m1 .append (.var 7 p1) (.var 9 p2) p3 p4) ρ (P++[.lst l])=.ok .non (P++[.lst (l++[v])]):=by
 rw [vm1,wv,e7,bind_ok,Q5 zm,wv,e9,bind_ok];show (match (P++[O.lst l])[P.length]? with | some (.lst xs)=>if xs.length<1000000 then Res.ok D.non ((P++[O.lst l]).set P.length (.lst (xs++[v]))) else .no | _=>.no)=_
 rw [zm];simp only [show l.length<1000000 from by omega,if_true];rw [Y18 _ _ 176,Y0x];rfl
theorem YK {d1 d4:Option D}{sz:Nat}{P:Hh}(hsz:sz<=8):∀ (m k:Nat) (l:163) (x8 x9 x10 x11:Option D),k+m<=13->l.length=k->∃ y8 y9 y10 y11,jb [] (zJ y7 λ ρ' h'=>b_law_names_3.run cl ρ' h') ((List.range' k m).map λ (i:Nat)=>D.int (i:Nat)) [some (.int c),d1,some (.str azS),some (.str teS),d4,some (.int (sz:Nat)),some (.int a),some (.loc P.length),x8,x9,x10,x11] (P++[.lst l])=.nx [some (.int c),d1,some (.str azS),some (.str teS),d4,some (.int (sz:Nat)),some (.int a),some (.loc P.length),y8,y9,y10,y11] (P++[.lst (l++(List.range' k m).map λ k=>.str (nm c a sz k))])
 | 0,k,l,x8,x9,x10,x11,_,_=>⟨x8,x9,x10,x11,by rw [show (List.range' k 0)=[] from rfl,Y20,Y20,Y0a];exact jV⟩
 | m+1,k,l,x8,x9,x10,x11,hk,hl=>by
  obtain ⟨x',y',e⟩:=G0 (d0:=none) sz 0 [] x10 x11 117 rfl;obtain ⟨y8,y9,y10,y11,ih⟩:=YK (d4:=d4) hsz m (k+1) (l++[.str (nm c a sz k)]) (some 169) (some (.str (nm c a sz k))) x' y' 117 (by simp [hl]);refine ⟨y8,y9,y10,y11,?_⟩;rw [Y27,Y0n,Y0n];rw [Y05 l [.str (nm c a sz k)]] at ih;have e0:(Str.ofString "")=mkS []:=by decide
  refine zM 144 (zR (zd (d:=.str (mkS [])) (h':=P++[.lst l]) (by rw [<- e0];rfl) (zL (z3y rfl 117) ?_ (zU (zaj (l:=l) rfl rfl 117) rfl)))) ih;rw [Y2b,Y3c];exact e
end
theorem ZG:∀ l:List Bool,qU (l.map D.bl)=some l
 | []=>rfl
 | b::r=>by show (qU (r.map D.bl)).map (b::·)=_;rw [ZG r];rfl
noncomputable def wds:List Str:=["def","handler","on","end","let","if","call","hand","do","handle","go","guard"]
structure Nms (M:Nat)(H:Hh)(o:Res D):Prop where
 ex:∃ (J:Hh) (ws:XY) (mq:Nat),o=.ok (.loc mq) (H++J)/\(H++J)[mq]?=some (.lst (ws.map D.str))/\ws.length=M/\(∀ x∈ws,PyData.strOk x=true)/\ws.Nodup
theorem z0i {M:Nat}(h:∀ i j,i<j->j<M->f i≠f j):((List.range' 0 M).map f).Nodup:=by
 rw [List.Nodup,Y1v];exact (List.pairwise_lt_range').imp_of_mem λ ha hb lt=>h _ _ lt (by have:=Y3l.mp hb;omega)
theorem Jv {M:Nat}(ha:e.ev cl ρ h=.ok (.int (M:Nat)) h')(hM:M<=1000000):I.ev cl (.rng e p1 p2) ρ h=.ok ([],(List.range' 0 M).map λ k=>.int (k:Nat)) h':=by
 rw [z3y ha 117,Y2b,Y3c]
section
variable {n:Nat}{c:Int}{H:Hh}{M:Nat}
theorem z0j (hi:i<j)(hj:j<21):tc (tki c i)≠tc (tki c j):=λ e=>by
 have:=z6s (by unfold tki;omega) (by unfold tki;omega) (by unfold tki;omega) (by unfold tki;omega) e
 unfold tki at this;omega
theorem z8z {a:Int}{sz i j:Nat}(h0:0<=a)(h1:a<sz)(hi:i<j)(hj:j<21):nm c a sz i≠nm c a sz j:=λ e=>by
 have e:=BQ e;have q:=congrArg (λ l=>l[a.toNat]?) e;have hi':a.toNat<sz:=by omega
 simp only [Y0u,List.getElem?_range' hi',Y2t,Option.some.injEq] at q
 have:((0+1*a.toNat:Nat):Int)=a:=by omega
 unfold sgn at q;rw [if_pos this,if_pos this] at q;exact z0j hi hj q
theorem Qw (hM:M<=13):Nms M H (callI defs (n+1) 38 [.int c,.int (M:Nat)] H):=by
 rw [zb (d:=qD) rfl rfl];obtain ⟨sz,hsz⟩:∃ sz:Nat,(sz:Int)=1+c%8:=⟨(1+c%8).toNat,by omega⟩;have s8:sz<=8:=by omega
 have h0:0<=c/8%(sz:Int):=Y24 _ 117;have h1:c/8%(sz:Int)<sz:=Y1p _ 117;obtain ⟨y8,y9,y10,y11,lp⟩:=YK (P:=H++[.lst (wds.map D.str)]) s8 M 0 [] none none none none 117 rfl;rw [Y19] at lp;generalize hns:((List.range' 0 M).map λ k=>nm c (c/8%(sz:Int)) sz k)=ns;have hnd:((List.range' 0 M).map λ k=>D.str (nm c (c/8%(sz:Int)) sz k))=ns.map D.str:=by rw [<- hns,Y1k];rfl
 rw [hnd] at lp;have nok:∀ x∈ns,PyData.strOk x=true:=λ x hx=>by
  rw [<- hns] at hx;obtain ⟨k,_,rfl⟩:=Y0s.mp hx;exact z3x λ z hz=>by
   obtain ⟨j,_,rfl⟩:=Y0s.mp hz;exact Oh
 have nlen:ns.length=M:=by rw [<- hns];simp
 generalize hP:H++[O.lst (wds.map D.str)]=P at lp;have gw:∀ (B:Hh),(P++B)[H.length]?=some (.lst (wds.map D.str)):=λ B=>za (by rw [<- hP];exact zm);have an:E.evT 204 (.c1 .any (.ofL (.comp e_law_names_1 wx (.seq (.var 7 ⟨296,53,296,68⟩)) c_law_names_1 ["_law_name","_law_words"] [none,some 4] y0 ⟨296,11,296,69⟩)) ⟨296,7,296,10⟩ ⟨296,7,296,70⟩) 140 (P++[.lst (ns.map D.str)])=.ok ((ns.map λ x=>wds.any λ y=>y==x).any id) (P++[.lst (ns.map D.str)]++[.lst ((ns.map λ x=>wds.any λ y=>y==x).map D.bl)]):=by
  refine bnd (x:=.bl ((ns.map λ x=>wds.any λ y=>y==x).any id)) (bnd (j6 (q:=([(P.length,ns.map D.str)],ns.map D.str)) (xs:=(ns.map λ x=>wds.any λ y=>y==x).map D.bl) (h2:=P++[.lst (ns.map D.str)]) (w6 rfl (rdl zm)) (by show (ns.map D.str).length<=1000000;rw [Y08,nlen];omega) ?_) ?_) rfl
  ·have cc:=j5 (c:=[(P.length,ns.map D.str)]) (f:=ja wx (jD [none,some 4] 140) (λ ρ' h2=>c_law_names_1.evC 204 ρ' h2) (λ ρ' h2=>e_law_names_1.ev 204 ρ' h2)) (h:=P++[.lst (ns.map D.str)]) (λ p hp=>by rw [Y07.mp hp];exact rdl zm) (λ d=>match d with | .str x=>some (.bl (wds.any λ y=>y==x)) | _=>none) (ns.map D.str) [] (λ z hz=>by
    obtain ⟨x,hx,rfl⟩:=Y0s.mp hz;refine ju rfl rfl (bnd rfl (bnd rfl ?_));have q:je .In 248 151 (P++[.lst (ns.map D.str)])=match (P++[O.lst (ns.map D.str)])[H.length]? with
     | some (.lst ds)=>JF false 248 ds (P++[.lst (ns.map D.str)])
     | some (.dK kvs)=>(match wn 248 with | some k=>Res.ok (.bl (ngB false (zF kvs k).isSome)) (P++[.lst (ns.map D.str)]) | none=>(match kvs with | []=>(match jC (.str x) with | some _=>.ok (.bl (ngB false false)) (P++[.lst (ns.map D.str)]) | none=>.no) | _=>.no))
     | some (.dT kvs)=>(match jC 248 with | some k=>Res.ok (.bl (ngB false (zF kvs k).isSome)) (P++[.lst (ns.map D.str)]) | none=>.no)
     | _=>.no:=rfl
    rw [q,gw];exact z24)
   refine cc.trans ?_;rw [Y19,Y2i,Y1k]
   congr 1
   exact Y2o (f:=λ x=>D.bl (wds.any λ y=>y==x))▸rfl
  ·show (match (PI.rd _ (P++[O.lst (ns.map D.str)]).length).bind qU with | some bs=>Res.ok (D.bl (bs.any id)) _ | none=>.no)=_
   rw [rdl zm];show (match qU ((ns.map λ x=>wds.any λ y=>y==x).map D.bl) with | some bs=>Res.ok (D.bl (bs.any id)) _ | none=>.no)=_
   rw [ZG]
 by_cases hb:(ns.map λ x=>wds.any λ y=>y==x).any id=true
 ·rw [hb] at an
  let A:List O:=[O.lst (ns.map D.str),O.lst ((ns.map λ x=>wds.any λ y=>y==x).map D.bl)]
  have eA:P++[O.lst (ns.map D.str)]++[O.lst ((ns.map λ x=>wds.any λ y=>y==x).map D.bl)]=P++A:=Y05 ..
  rw [eA] at an;generalize A=A at an;have st:E.ev 204 (.ofL (.comp e_law_names_2 wy (.rng (.var 1 ⟨297,91,297,100⟩) ⟨297,85,297,90⟩ ⟨297,85,297,101⟩) c_law_names_2 ["_law_k","_law_cell","_law_tells"] [none,some 0,some 3] y4 ⟨297,26,297,102⟩)) 140 (P++A)=.ok (.loc (P++A).length) (P++A++[.lst (((List.range' 0 M).map λ k=>mkS [tc (tki c k)]).map D.str)]):=by
   refine j6 (q:=([],(List.range' 0 M).map λ k=>.int (k:Nat))) (h2:=P++A) (Jv rfl 117) (by show _<=_;simp;omega) ?_;have cc:=j5 (c:=[]) (f:=ja wy (jD [none,some 0,some 3] 140) (λ ρ' h2=>c_law_names_2.evC 204 ρ' h2) (λ ρ' h2=>e_law_names_2.ev 204 ρ' h2)) (h:=P++A) 144 (λ d=>match d with | .int k=>some (.str (mkS [tc ((c/64+k)%21)])) | _=>none) ((List.range' 0 M).map λ k=>D.int (k:Nat)) [] (λ z hz=>by
    obtain ⟨k,hk,rfl⟩:=Y0s.mp hz;exact ju rfl rfl (bnd rfl (bnd (bnd (bnd 197 rfl) 219) (z4m _ 117 117 _))))
   refine cc.trans ?_;rw [Y19,Y2i,Y1k]
   congr 1
   exact Y2o (f:=λ k:Nat=>D.str (mkS [tc (tki c k)]))▸rfl
  refine ⟨⟨[.lst (wds.map D.str)]++(A++[.lst (((List.range' 0 M).map λ k=>mkS [tc (tki c k)]).map D.str)]),(List.range' 0 M).map λ k=>mkS [tc (tki c k)],(P++A).length,?_,?_,by simp,?_,z0i λ i j hi hj e=>z0j hi 117 (List.cons.inj (BQ e)).1⟩⟩
  ·rw [<- Y05,<- Y05,hP];refine zi (zd rfl (zd rfl (zd (d:=.loc H.length) (h':=P) (by rw [<- hP];rfl) (zd (d:=.int (sz:Nat)) (bnd rfl (bnd (bnd rfl 219) (by rw [hsz];rfl))) (zd (bnd 197 (bnd rfl (mdk 117))) (zd rfl (zL (Jv rfl 117) lp (zK an (zd st rfl) rfl))))))))
  ·rw [<- Y05,<- Y05,hP];exact zm
  ·intro x hx;obtain ⟨k,_,rfl⟩:=Y0s.mp hx;exact z3x λ z hz=>by rw [Y07.mp hz];exact YJ _
 ·rw [Y3m.mpr hb] at an;refine ⟨⟨[.lst (wds.map D.str)]++([.lst (ns.map D.str)]++[.lst ((ns.map λ x=>wds.any λ y=>y==x).map D.bl)]),ns,P.length,?_,?_,nlen,nok,by rw [<- hns];exact z0i λ i j hi hj=>z8z h0 h1 hi 117⟩⟩
  ·rw [<- Y05,<- Y05,hP];refine zi (zd rfl (zd rfl (zd (d:=.loc H.length) (h':=P) (by rw [<- hP];rfl) (zd (d:=.int (sz:Nat)) (bnd rfl (bnd (bnd rfl 219) (by rw [hsz];rfl))) (zd (bnd 197 (bnd rfl (mdk 117))) (zd rfl (zL (Jv rfl 117) lp (zx an rfl))))))))
  ·rw [<- Y05,<- Y05,hP];exact za zm
end
inductive Al:D->Prop
 | one {s:Str}:PyData.strOk s=true->Al (.tup [.str s])
 | two {s:Str} (v:Int):PyData.strOk s=true->Al (.tup [.str s,.int v])
 | three {s x:Str} (v:Int):PyData.strOk s=true->PyData.strOk x=true->Al (.tup [.str s,.str x,.int v])
section
variable {n:Nat}{H:Hh}
theorem Qx:callI defs (n+1) 35 [.int v] H=.ok (.bl true) H:=by
 rw [zb rfl rfl];exact zi (zr (jc rfl))
theorem z90 (h:Al d):je .Eq d d H=.ok (.bl true) H:=by
 cases h with
 | one h=>simp [pdT,D.pd,D.pds,PyData.canLay0,PyData.canLayAll0,PyData.depth,PyData.depthAll,PyData.eqv,PyData.eqvAll,h]
 | two v h=>simp [pdT,D.pd,D.pds,PyData.canLay0,PyData.canLayAll0,PyData.depth,PyData.depthAll,PyData.eqv,PyData.eqvAll,h]
 | three v h h2=>simp [pdT,D.pd,D.pds,PyData.canLay0,PyData.canLayAll0,PyData.depth,PyData.depthAll,PyData.eqv,PyData.eqvAll,h,h2]
theorem G1 (h:Al e):callI defs (n+2) 36 [e,e] H=.ok (.bl true) H:=by
 rw [zb rfl rfl];have z:=z90 (H:=H) h;cases h with
 | @one s h=>exact zi (zx rfl (zL rfl (zM 144 (show zJ _ _ _ _ _=_ from zK rfl rfl rfl) jV) (zr (bnd rfl (bnd rfl z)))))
 | @two s v h=>exact zi (zx rfl (zL rfl (zM 144 (show zJ _ _ _ _ _=_ from zK rfl rfl rfl) (zM 144 (show zJ _ _ _ _ _=_ from j0 rfl (zx (bnd (bnd (bnd rfl (bnd rfl Qx)) rfl) rfl) rfl) rfl) jV)) (zr (bnd rfl (bnd rfl z)))))
 | @three s x v h h2=>exact zi (zx rfl (zL rfl (zM 144 (show zJ _ _ _ _ _=_ from zK rfl rfl rfl) (zM 144 (show zJ _ _ _ _ _=_ from zK rfl rfl rfl) (zM 144 (show zJ _ _ _ _ _=_ from j0 rfl (zx (bnd (bnd (bnd rfl (bnd rfl Qx)) rfl) rfl) rfl) rfl) jV))) (zr (bnd rfl (bnd rfl z)))))
theorem z91 (g:H[m]?=some 210):isI H 221 4=some true:=by
 show (PI.rd H m).map (λ _=>4==4)=_;rw [rdl g];rfl
theorem G2 (st:stay ck H):∀ (rc:163) (x y:Option D),(∀ d∈rc,Al d)->∃ x' y',jb ck (zJ qZ λ ρ' h'=>b_law_right_1.run (callI defs (n+2)) ρ' h') ((rc.zip rc).map ZY) [a,b,c,d,x,y] H=.nx [a,b,c,d,x',y'] H
 | [],x,y,o=>⟨x,y,if_pos st⟩
 | r::rc,x,y,o=>by
  obtain ⟨x',y',e⟩:=G2 st rc (some r) (some r) λ z hz=>o z (Y06 _ hz);refine ⟨x',y',zM st (show zJ _ _ _ _ _=_ from ?_) e⟩;exact zx (bnd (bnd (bnd rfl (bnd rfl (G1 (o r Y0c)))) rfl) rfl) rfl
theorem G3 (he:Al e)(ho:∀ d∈rc,Al d)(g:H[r]?=some (.lst rc))(ge:H[m]?=some (.lst rc)):callI defs (n+3) 37 [.tup [e,.loc r,.int u],e,.loc m,.int u] H=.ok (.bl true) H:=by
 rw [zb rfl rfl];have zz:Uw (.loc r) 221 H=.ok (([(r,rc),(m,rc)]:Ck),(rc.zip rc).map ZY) H:=by
  have q:Uw (.loc r) 221 H=(match (PI.rd H r).map (λ xs=>(([(r,xs)],xs):Ck×List D)) with
   | some p=>(match (PI.rd H m).map (λ xs=>(([(m,xs)],xs):Ck×List D)) with
    | some q=>Res.ok (p.1++q.1,(p.2.zip q.2).map ZY) H
    | none=>.no)
   | none=>.no):=rfl
  rw [q,rdl g,rdl ge];rfl
 have st:stay [(r,rc),(m,rc)] H:=λ p hp=>by
  rcases Y0g.mp hp with rfl | hp
  ·exact rdl g
  ·rw [Y07.mp hp];exact rdl ge
 obtain ⟨x',y',L⟩:=G2 st rc none none ho;have is1:∀ {ρ:En}{p1 p2 p3 p4 p5 p6 p7:Pos},ρ[0]?=some (some (.tup [e,.loc r,.int u]))->E.evT (callI defs (n+2)) (.un .Not (.isi 4 (.sub (.var 0 p1) (.int 1 p2) p3) p4 p5 p6) p7) ρ H=.ok false H:=λ {ρ p1 p2 p3 p4 p5 p6 p7} q=>by
  simp [E.evT,vun,zae,BM,wv,q,O3,a1,z91 g,unD]
 refine zi (zx rfl (zx (z8c ?_ (zj (bnd rfl (len_loc g)) (bnd rfl (len_loc ge)) (neI.trans 133))) (zL (izip.trans (bnd rfl (bnd rfl zz))) L (zr (jc (z6f (bnd (bnd rfl (bnd rfl (G1 he))) rfl) (bnd (bnd rfl (bnd rfl Qx)) rfl) (zj rfl rfl (eqI.trans (by rw [beq_self_eq_true])))))))));exact is1 rfl
end
noncomputable def drw (c:Int)(k:Nat):Int:=(c%1000003*(2*(k:Int)+1)*48271+7919*(k:Int)+c)%2147483647
theorem z6t (c:Int)(k:Nat):0<=drw c k:=Y24 _ 123
section
variable {n:Nat}{c:Int}{H:Hh}{k:Nat}
theorem mlt (h:i.natAbs<18446744073709551616):fits i=true:=Q3 h
theorem z6u (hk:k<1000):callI defs (n+1) 39 [.int c,.int (k:Nat)] H=.ok (.int (drw c k)) H:=by
 rw [zb rfl rfl];have h1:0<=c%1000003:=Y24 _ 123;have h2:c%1000003<1000003:=Y1p _ 123;have h3:0<=c%1000003*(2*(k:Int)+1):=Int.mul_nonneg h1 117;have h4:c%1000003*(2*(k:Int)+1)<=1000003*2001:=Int.mul_le_mul 117 117 117 117;exact zi (zr (bnd (bnd (bnd (bnd (bnd (bnd rfl 219) (bnd (bnd (bnd rfl (bnd rfl (mlk 123 (mlt 117)))) rfl) (mlk (mlt 117) (mlt 117)))) (bnd rfl (mlk (mlt 117) 123))) (bnd (bnd rfl (bnd rfl (mlk 123 (mlt 117)))) rfl)) rfl) 219))
end
noncomputable def nbs (c:Int)(s m:Nat):List Int:=(List.range' 0 m).map λ k=>(drw c (s+k)*69621+c)%100000000000000000
theorem yJ:(nbs c s m).length=m:=by unfold nbs;simp
theorem z6v:∀ v∈nbs c s m,Nn v:=λ v hv=>by
 obtain ⟨k,_,rfl⟩:=Y0s.mp hv;exact ⟨Y24 _ 123,Y1p _ 123⟩
theorem z6w (c:Int)(k:Nat):drw c k<2147483647:=Y1p _ 123
section
variable {n:Nat}{c:Int}{H:Hh}{s m:Nat}
theorem Oi (hs:s+m<900):callI defs (n+2) 40 [.int c,.int (s:Nat),.int (m:Nat)] H=.ok 151 (H++[.lst ((nbs c s m).map .int)]):=by
 rw [zb rfl rfl];refine zi (zr (j6 (Jv rfl 117) (by show _<=_;simp;omega) ?_));have cc:=j5 (c:=[]) (f:=ja qh (jD [none,some 0,some 1] [some (.int c),some (.int (s:Nat)),some (.int (m:Nat))]) (λ ρ' h2=>c_law_numbers_1.evC 182 ρ' h2) (λ ρ' h2=>e_law_numbers_1.ev 182 ρ' h2)) 144 (λ d=>match d with | .int k=>some (.int ((drw c (s+k.toNat)*69621+c)%100000000000000000)) | _=>none) ((List.range' 0 m).map λ k=>D.int (k:Nat)) [] (λ z hz=>by
  obtain ⟨k,hk,rfl⟩:=Y0s.mp hz;have hk:=Y3l.mp hk;have D1:callI defs (n+1) 39 [.int c,.int ((s:Int)+(k:Int))] H=.ok (.int (drw c (s+k))) H:=z6u 117;have h1:=z6t c (s+k);have h2:=z6w c (s+k);exact ju rfl rfl (bnd (bnd (bnd (bnd rfl (bnd rfl D1)) (bnd rfl (mlk (mlt 117) 123))) rfl) 219))
 refine cc.trans ?_;rw [Y19,Y2i];unfold nbs;rw [Y1k]
 congr 1
 exact Y2o▸rfl
end
noncomputable def jw (c:Int):Lv:=⟨nbs c 0 (c%4).toNat,nbs c 3 (c/4%4).toNat,nbs c 6 (c/96%2).toNat,(c/16%3).toNat,c/48%2==1,(nbs c 7 5).getD 0 0,(nbs c 7 5).getD 1 0,(nbs c 7 5).getD 2 0,(nbs c 7 5).getD 3 0,(nbs c 7 5).getD 4 0⟩
noncomputable def lvK (p o e:Nat)(L:Lv):List (Key×D):=[(.inr "parts",.loc p),(.inr "own",.loc o),(.inr "goes",.int (L.goes:Nat)),(.inr "called",.bl L.called),(.inr "early",.loc e),(.inr "more",.int L.more),(.inr "end",.int L.en),(.inr "kept",.int L.kept),(.inr "first",.int L.first),(.inr "second",.int L.second)]
structure LvAt (H:Hh)(a:Nat)(L:Lv):Prop where
 ex:∃ p o e,H[a]?=some (.dK (lvK p o e L))/\H[p]?=some (.lst (L.parts.map .int))/\H[o]?=some (.lst (L.own.map .int))/\H[e]?=some (.lst (L.early.map .int))
abbrev jF:List D:=[.str "more",.str "end",.str "kept",.str "first",.str "second"]
section
variable {n:Nat}{c:Int}{H R:Hh}
theorem z4n (hl:kvs.length<1000000)(e:wO kvs (.inr x) v=kvs'):Yc 151 248 v (H++(.dK kvs::R))=some (H++(.dK kvs'::R)):=by
 have g:(H++(O.dK kvs::R))[H.length]?=some (.dK kvs):=Jn 0 rfl;show (match (H++(O.dK kvs::R))[H.length]? with
  | some (.dK kvs)=>if kvs.length<1000000 then some ((H++(O.dK _::R)).set H.length (.dK (wO kvs (.inr x) v))) else none
  | _=>none)=_
 rw [g];simp only [hl,if_true,e];rw [Y18 _ _ 176,Y0x];rfl
theorem z3b (g:(H++(.dK kvs::R))[me]?=some (.lst ms))(ek:atI ms k=some v)(ex:atI jF k=some 248)(hl:kvs.length<1000000)(ep:wO kvs (.inr x) v=kvs') :
  zJ wz (λ ρ' h'=>b_law_level_1.run cl ρ' h') (.int k) [a,some 151,some (.loc me),z] (H++(.dK kvs::R))=.nx [a,some 151,some (.loc me),some (.int k)] (H++(.dK kvs'::(R++[.lst jF]))):=by
 have e:H++(O.dK kvs::(R++[.lst jF]))=(H++(O.dK kvs::R))++[.lst jF]:=by simp
 have i1:∀ {p0 p1 p2 p3 p4 p5 p6 p7:Pos},E.ev cl (.sub (.ofL (.disp (.cons (.str "more" p1) (.cons (.str "end" p2) (.cons (.str "kept" p3) (.cons (.str "first" p4) (.cons (.str "second" p5) .nil))))) p6)) (.var 3 p0) p7) [a,some 151,some (.loc me),some (.int k)] (H++(.dK kvs::R))=.ok 248 (H++(.dK kvs::(R++[.lst jF]))):=by
  intro p0 p1 p2 p3 p4 p5 p6 p7;refine bnd rfl (bnd rfl ?_);rw [e];exact jg zm ex
 exact zR (VG (bnd rfl (bnd rfl (jg g ek))) rfl i1 (z4n hl ep) rfl)
end
section
variable {n:Nat}{c:Int}{H:Hh}
theorem z3c {s:Nat}{v:Int}(h0:0<=v)(h1:v<100)(hs:s<100):callI defs (n+2) 40 [.int c,.int (s:Nat),.int v] H=.ok 151 (H++[.lst ((nbs c s v.toNat).map .int)]):=by
 have:=Oi (n:=n) (c:=c) (H:=H) (s:=s) (m:=v.toNat) 117
 rw [Y1m h0] at this;exact this
noncomputable def kt (p:Nat)(L:Lv)(m:Nat):List (Key×D):=(lvK (p+1) (p+2) (p+3) L).take m
theorem nb5:nbs c s 5=[(nbs c s 5).getD 0 0,(nbs c s 5).getD 1 0,(nbs c s 5).getD 2 0,(nbs c s 5).getD 3 0,(nbs c s 5).getD 4 0]:=by
 have h:(nbs c s 5).length=5:=yJ
 match nbs c s 5,h with
 | [a,b,c,d,e],_=>rfl
theorem z3d:∃ J,callI defs (n+3) 41 [.int c] H=.ok 151 (H++(.dK (lvK (H.length+1) (H.length+2) 238 (jw c))::.lst 234::.lst ((jw c).own.map .int)::.lst ((jw c).early.map .int)::J)):=by
 have m4:0<=c%4:=Y24 _ 123;have n4:c%4<4:=Y1p _ 123;have a1:(H++[O.dK []]).length=H.length+1:=by simp
 have a2:((H++[O.dK []])++[O.lst 234]).length=H.length+2:=by simp
 have N1:callI defs (n+2) 40 [.int c,.int 0,.int (c%4)] (H++[.dK []])=.ok (.loc (H++[O.dK []]).length) ((H++[O.dK []])++[.lst 234]):=z3c 117 117 123;have N2:callI defs (n+2) 40 [.int c,.int 3,.int (c/4%4)] ((H++[O.dK []])++[.lst 234])=.ok (.loc ((H++[O.dK []])++[O.lst 234]).length) (((H++[O.dK []])++[.lst 234])++[.lst ((jw c).own.map .int)]):=z3c 117 117 123;rw [a1] at N1;rw [a2] at N2;have N3:∀ X,callI defs (n+2) 40 [.int c,.int 6,.int (c/96%2)] X=.ok 227 (X++[.lst ((jw c).early.map .int)]):=λ X=>z3c 117 117 123;have N4:∀ X,callI defs (n+2) 40 [.int c,.int 7,.int 5] X=.ok 227 (X++[.lst ((nbs c 7 5).map .int)]):=λ X=>z3c 117 117 123;have D6:∀ {q1 q2 q7:Pos}{es:Es}{ρ:En},es.ev (callI defs (n+2)) ρ (H++[.dK []])=.ok [.loc (H.length+1),.loc (H.length+2)] (((H++[O.dK []])++[.lst 234])++[.lst ((jw c).own.map .int)])->E.ev (callI defs (n+2)) (.dispD [("parts",q1),("own",q2)] es q7) ρ H=.ok 151 (H++(.dK (kt H.length (jw c) 2)::[.lst 234,.lst ((jw c).own.map .int)])):=λ {q1 q2 q7 es ρ} e=>by
  rw [z6a];refine bnd e ?_;show (match (((H++[O.dK []])++[O.lst 234])++[O.lst ((jw c).own.map .int)])[H.length]? with | some (.dK [])=>Res.ok (D.loc H.length) ((((H++[O.dK []])++[O.lst 234])++[O.lst ((jw c).own.map .int)]).set H.length (.dK _)) | _=>.no)=_
  rw [za (za zm)];simp only [];rw [Y05,Y05,Y18 _ _ 176,Y0x];rfl
 have ea:∀ (k:237) (R:Hh) (o:O),(H++(O.dK k::R))++[o]=H++(O.dK k::(R++[o])):=λ k R o=>by simp
 have eg:(((jw c).goes:Nat):Int)=c/16%3:=Y1m 117;have ms:(nbs c 7 5).map D.int=[.int (jw c).more,.int (jw c).en,.int (jw c).kept,.int (jw c).first,.int (jw c).second]:=by
  rw [nb5];rfl
 generalize hL:jw c=L at *
 have ec:L.called=(c/48%2==1):=by rw [<- hL];rfl
 let R5:Hh:=[.lst (L.parts.map .int),.lst (L.own.map .int),.lst (L.early.map .int),.lst ((nbs c 7 5).map .int)]
 have gm:∀ (k:237) (J:Hh),(H++(O.dK k::(R5++J)))[H.length+4]?=some (.lst ((nbs c 7 5).map .int)):=λ k J=>Jn 4 rfl;refine ⟨[.lst ((nbs c 7 5).map .int)]++[.lst jF]++[.lst jF]++[.lst jF]++[.lst jF]++[.lst jF],?_⟩;rw [zb rfl rfl];have N3':=N3 (H++(.dK (kt H.length L 4)::[.lst (L.parts.map .int),.lst (L.own.map .int)]));have l3:(H++(O.dK (kt H.length L 4)::[O.lst (L.parts.map .int),.lst (L.own.map .int)])).length=H.length+3:=by simp
 rw [l3,ea] at N3';have N4':=N4 (H++(.dK (kt H.length L 5)::[.lst (L.parts.map .int),.lst (L.own.map .int),.lst (L.early.map .int)]));have l4:(H++(O.dK (kt H.length L 5)::[O.lst (L.parts.map .int),.lst (L.own.map .int),.lst (L.early.map .int)])).length=H.length+4:=by simp
 rw [l4,ea] at N4';have P:∀ (m:Nat) (R:Hh) (x:Str) (v:D),(kt H.length L m).length<1000000->wO (kt H.length L m) (.inr x) v=kt H.length L (m+1)->Yc 151 248 v (H++(.dK (kt H.length L m)::R))=some (H++(.dK (kt H.length L (m+1))::R)):=λ m R x v h e=>z4n h e;have P2:=P 2 [.lst (L.parts.map .int),.lst (L.own.map .int)] "goes" (.int (L.goes:Nat)) (by simp [kt,lvK]) rfl;have P3:=P 3 [.lst (L.parts.map .int),.lst (L.own.map .int)] "called" (.bl L.called) (by simp [kt,lvK]) rfl;have P4:=P 4 ([.lst (L.parts.map .int),.lst (L.own.map .int)]++[.lst (L.early.map .int)]) "early" (.loc 238) (by simp [kt,lvK]) rfl;have hl:∀ m,(kt H.length L m).length<1000000:=λ m=>by simp [kt,lvK];omega
 refine zi (zd (D6 (bnd (bnd rfl (bnd (bnd rfl (bnd (bnd (bnd rfl 219) rfl) rfl)) N1)) (bnd (bnd (bnd rfl (bnd (bnd rfl (bnd (bnd (bnd 197 219) rfl) rfl)) N2)) rfl) rfl)))
  (VG (by rw [eg];exact bnd 197 219) rfl rfl P2
  (VG (by rw [ec];exact bnd (bnd 197 219) (bnd rfl eqI)) rfl rfl P3
  (VG (bnd rfl (bnd (bnd rfl (bnd (bnd (bnd 197 219) rfl) rfl)) N3')) rfl rfl P4
  (zd (bnd rfl (bnd rfl N4')) ?_)))))
 have ms0:=ms;rw [ms] at gm;refine zL (q:=([],[.int 0,.int 1,.int 2,.int 3,.int 4])) (ρ':=[some (.int c),some 151,some (.loc (H.length+4)),some (.int 4)]) (h2:=H++(.dK (kt H.length L 10)::(R5++(((((([]:Hh)++[.lst jF])++[.lst jF])++[.lst jF])++[.lst jF])++[.lst jF])))) rfl ?_ (zr rfl);have st:∀ (m:Nat) (J:Hh) (k:Int) (x:Str) (v:D) (z:Option D),atI [D.int L.more,.int L.en,.int L.kept,.int L.first,.int L.second] k=some v->atI jF k=some 248->wO (kt H.length L m) (.inr x) v=kt H.length L (m+1)->zJ wz (λ ρ' h'=>b_law_level_1.run (callI defs (n+2)) ρ' h') (.int k) [some (.int c),some 151,some (.loc (H.length+4)),z] (H++(.dK (kt H.length L m)::(R5++J)))=.nx [some (.int c),some 151,some (.loc (H.length+4)),some (.int k)] (H++(.dK (kt H.length L (m+1))::(R5++(J++[.lst jF])))):=λ m J k x v z h1 h2 h3=>by
  rw [<- Y05 R5];exact z3b (gm _ J) h1 h2 (hl m) h3
 exact zM 144 (st 5 [] 0 _ _ _ rfl rfl rfl) (zM 144 (st 6 _ 1 _ _ _ rfl rfl rfl) (zM 144 (st 7 _ 2 _ _ _ rfl rfl rfl) (zM 144 (st 8 _ 3 _ _ _ rfl rfl rfl) (zM 144 (st 9 _ 4 _ _ _ rfl rfl rfl) jV))))
end
noncomputable def Ex (H H':Hh):Prop:=∀ (i:Nat) (o:O),H[i]?=some o->H'[i]?=some o
theorem Ex.rfl':Ex H H:=λ _ _ h=>h
theorem Ex.app:Ex H (H++B):=λ _ _ h=>za h
theorem Ex.tr (a:Ex A B)(b:Ex B D'):Ex A D':=λ i o h=>b i o (a i o h)
theorem LvAt.mono {L:Lv}(q:LvAt H a L)(x:Ex H H'):LvAt H' a L:=by
 obtain ⟨p,o,e,h1,h2,h3,h4⟩:=q.ex;exact ⟨p,o,e,x _ _ h1,x _ _ h2,x _ _ h3,x _ _ h4⟩
structure Ctx (H:Hh)(ml mi md mv:Nat)(n:Nat)(N:Nm)(lv:Nat->Lv):Prop where
 gl:∃ as:List Nat,H[ml]?=some (.lst (as.map .loc))/\as.length=n/\∀ k,k<n->∃ a,as[k]?=some a/\LvAt H a (lv k)
 gi:∃ ws:List Str,H[mi]?=some (.lst (ws.map .str))/\∀ k,k<13->ws[k]?=some (N.it k)
 gd:∃ ws:List Str,H[md]?=some (.lst (ws.map .str))/\∀ k,k<13->ws[k]?=some (N.dd k)
 gv:H[mv]?=some (.lst [.str N.x,.str N.s,.str N.y])
section
variable {n:Nat}{H H':Hh}{ml mi md mv m:Nat}{N:Nm}{lv:Nat->Lv}{k:Nat}
theorem Ctx.mono (q:185)(x:Ex H H'):Ctx H' ml mi md mv m N lv:=by
 obtain ⟨as,g,l,f⟩:=q.gl;obtain ⟨ws,g2,f2⟩:=q.gi;obtain ⟨ds,g3,f3⟩:=q.gd;exact ⟨⟨as,x _ _ g,l,λ k hk=>by obtain ⟨a,e,h⟩:=f k hk;exact ⟨a,e,h.mono x⟩⟩,⟨ws,x _ _ g2,f2⟩,⟨ds,x _ _ g3,f3⟩,x _ _ q.gv⟩
theorem Ctx.it (q:185)(hk:k<13):jf (.loc mi) 169 H=.ok (.str (N.it k)) H:=by
 obtain ⟨ws,g,f⟩:=q.gi;exact jg g (atk (by rw [Y0u,f k hk];rfl))
theorem Ctx.dd (q:185)(hk:k<13):jf (.loc md) 169 H=.ok (.str (N.dd k)) H:=by
 obtain ⟨ws,g,f⟩:=q.gd;exact jg g (atk (by rw [Y0u,f k hk];rfl))
theorem Ctx.lvl (q:185)(hk:k<m):∃ a,jf (.loc ml) 169 H=.ok (.loc a) H/\LvAt H a (lv k):=by
 obtain ⟨as,g,l,f⟩:=q.gl;obtain ⟨a,e,h⟩:=f k hk;exact ⟨a,jg g (atk (by rw [Y0u,e];rfl)),h⟩
theorem Ctx.len (q:185):qS (.loc ml) H=.ok (.int (m:Nat)) H:=by
 obtain ⟨as,g,l,f⟩:=q.gl;rw [len_loc g,Y08,l]
theorem G4:∀ (a b:List Int),guT (a++b) t=guT a (guT b t)
 | [],b=>rfl
 | p::r,b=>by rw [Y1g,guT,guT,G4 r b]
theorem G5 (st:stay ck H):∀ (qs:List Int) (t:D) (z:Option D),∃ z',jb ck (zJ qE λ ρ' h'=>b_law_guards_1.run cl ρ' h') (qs.map .int) [a,some t,z] H=.nx [a,some (guT qs.reverse t),z'] H
 | [],t,z=>⟨z,if_pos st⟩
 | q::r,t,z=>by
  obtain ⟨z',e⟩:=G5 st r (qJ (jv q) t) (some (.int q));rw [Y1d,G4];exact ⟨z',zM st (zR (zd rfl rfl)) e⟩
theorem WE (g:H[p]?=some (.lst (ps.map .int))):callI defs (n+1) 42 [.loc p,t] H=.ok (guT ps t) H:=by
 rw [zb rfl rfl];obtain ⟨z',e⟩:=G5 (ck:=[(p,ps.map .int)]) (λ q hq=>by rw [Y07.mp hq];exact rdl g) ps.reverse t none;rw [Y2s] at e;have rv:GO (.loc p) H=.ok ([(p,ps.map .int)],(ps.reverse).map D.int) H:=by
  show (match PI.rd H p with | some xs=>Res.ok (([(p,xs)],xs.reverse):Ck×List D) H | none=>.no)=_
  rw [rdl g];simp
 exact zi (zL (irev.trans (bnd rfl rv)) e (zr rfl))
theorem gtI (e:decide (a > b)=t):je .Gt (.int a) (.int b) H=.ok (.bl t) H:=by
 show Res.ok (D.bl (decide (a > b))) H=_;rw [e]
theorem z92 (e:decide (a<b)=t):je .Lt (.int a) (.int b) H=.ok (.bl t) H:=by
 show Res.ok (D.bl (decide (a<b))) H=_;rw [e]
theorem wZ (q1:e1.ev cl ρ h=.ok x h1)(q2:e2.ev cl ρ h1=.ok y h2)(q3:e3.ev cl ρ h2=.ok z h3)(q4:e4.ev cl ρ h3=.ok u h4):E.ev cl (.tup (.cons e1 (.cons e2 (.cons e3 (.cons e4 .nil)))) p) ρ h=.ok (.tup [x,y,z,u]) h4:=bnd (bnd q1 (bnd (bnd q2 (bnd (bnd q3 (bnd (bnd q4 rfl) rfl)) rfl)) rfl)) rfl
theorem z3e (q1:e1.ev cl ρ h=.ok x h1)(q2:e2.ev cl ρ h1=.ok y h2)(q3:e3.ev cl ρ h2=.ok z h3)(q4:e4.ev cl ρ h3=.ok u h4)(q5:e5.ev cl ρ h4=.ok v h5):E.ev cl (.tup (.cons e1 (.cons e2 (.cons e3 (.cons e4 (.cons e5 .nil))))) p) ρ h=.ok (.tup [x,y,z,u,v]) h5:=bnd (bnd q1 (bnd (bnd q2 (bnd (bnd q3 (bnd (bnd q4 (bnd (bnd q5 rfl) rfl)) rfl)) rfl)) rfl)) rfl
theorem z0k (q:185)(hk:k<m)(hm:m<=6):callI defs (n+2) 43 [.loc ml,.int (k:Nat),.loc md,.str N.x,.str N.s,.str N.y] H=.ok (.tup [.str (N.dd k),.str N.x,.str N.s,yI N lv m k]) H:=by
 obtain ⟨a,ea,la⟩:=q.lvl hk;obtain ⟨p,o,e,h1,h2,h3,h4⟩:=la.ex;have sK:∀ {x:Str}{v:D},zF (lvK p o e (lv k)) (.inr x)=some v->jf (.loc a) 248 H=.ok v H:=λ h=>yF h1 h;have G:=λ t:D=>WE (n:=n) (t:=t) h3;rw [zb rfl rfl];generalize hz:(if (lv k).goes > 0 then N.y else N.x)=z;have S1:Ss.run 182 (wG 3 d_law_clause_of.body) [some (.loc ml),some 169,some (.loc md),some (.str N.x),some (.str N.s),some (.str N.y),none,none,none,none] H=.nx [some (.loc ml),some 169,some (.loc md),some (.str N.x),some (.str N.s),some (.str N.y),some (.loc a),some (jR z),none,none] H:=by
  refine zd (bnd rfl (bnd rfl ea)) (zd rfl ?_);by_cases c:(lv k).goes > 0
  ·rw [if_pos c] at hz;rw [<- hz];exact zK (zj 161 rfl (gtI (decide_eq_true 117))) (zd rfl rfl) rfl
  ·rw [if_neg c] at hz;rw [<- hz];exact zx (zj 161 rfl (gtI (decide_eq_false 117))) rfl
 have S2:Ss.run 182 (wG 2 (w5 3 d_law_clause_of.body)) [some (.loc ml),some 169,some (.loc md),some (.str N.x),some (.str N.s),some (.str N.y),some (.loc a),some (jR z),none,none] H=.nx [some (.loc ml),some 169,some (.loc md),some (.str N.x),some (.str N.s),some (.str N.y),some (.loc a),some (jR z),some (V1 N lv m k),none] H:=by
  refine zd (wZ rfl rfl rfl (jP rfl 161)) ?_;unfold V1;rw [hz];have L:=q.len;by_cases c:k+1<m
  ·rw [if_pos c];have dd:=q.dd (k:=k+1) 117;exact zK (zj rfl (bnd rfl L) (z92 (decide_eq_true 117))) (zd (Jo rfl (bnd rfl (bnd rfl dd)) rfl) rfl) rfl
  ·rw [if_neg c];exact zx (zj rfl (bnd rfl L) (z92 (decide_eq_false 117))) rfl
 refine zi (Zf 3 S1 (Zf 2 S2 (zd (bnd 161 (bnd rfl (G _))) ?_)));have dk:=q.dd (k:=k) 117;unfold yI Oe;by_cases c:(lv k).goes > 0
 ·rw [if_pos c];refine zK (zj 161 rfl (gtI (decide_eq_true 117))) (zd (wZ rfl rfl (Jo rfl (jP rfl 161) rfl) rfl) rfl) ?_;by_cases c2:(lv k).goes > 1
  ·rw [if_pos c2];exact zK (zj 161 rfl (gtI (decide_eq_true 117))) (zd (wZ rfl rfl (Jo rfl (jP rfl 161) (jP rfl 161)) rfl) rfl) (zr (wZ (bnd rfl (bnd rfl dk)) rfl rfl rfl))
  ·rw [if_neg c2];exact zx (zj 161 rfl (gtI (decide_eq_false 117))) (zr (wZ (bnd rfl (bnd rfl dk)) rfl rfl rfl))
 ·rw [if_neg c,if_neg (show ¬ (lv k).goes > 1 by omega)];exact zx (zj 161 rfl (gtI (decide_eq_false 117))) (zx (zj 161 rfl (gtI (decide_eq_false 117))) (zr (wZ (bnd rfl (bnd rfl dk)) rfl rfl rfl)))
end
noncomputable def xj (N:Nm)(j:Nat):Str×List D:=(N.dd (6+j),[.str N.s,.str N.x,goT (jR N.x) (jR N.s)])
noncomputable def hkk (L:Lv):Nat:=(L.kept%8).toNat
noncomputable def hat (L:Lv):Nat:=(L.en%((hkk L:Int)+1)).toNat
noncomputable def hcs (N:Nm)(lv:Nat->Lv)(m k:Nat):List 220:=(((List.range' 0 (hkk (lv k))).map (xj N)).take 164++[(N.dd k,[.str N.x,.str N.s,yI N lv m k])])++((List.range' 0 (hkk (lv k))).map (xj N)).drop 164
noncomputable def hdI (N:Nm)(lv:Nat->Lv)(m k:Nat):Itm:=.hd (N.it (6+k)) (hcs N lv m k) (.tup [.str N.y,.str N.s,opT "+" (jv (lv k).en) (jR N.y)])
abbrev cD (c:Str×List D):D:=.tup (.str c.1::c.2)
section
variable {n:Nat}{H:Hh}{ml mi md mv m:Nat}{N:Nm}{lv:Nat->Lv}{k:Nat}
theorem apL (ho:oe.ev cl ρ (P++[.lst l])=.ok (.loc P.length) (P++[.lst l]))(ha:ae.ev cl ρ (P++[.lst l])=.ok v (P++[.lst l]))(hl:l.length<1000):E.ev cl (.m1 .append oe ae p1 p2) ρ (P++[.lst l])=.ok .non (P++[.lst (l++[v])]):=by
 have:=append_at (p1:=p1) (p:=p2) ho zm ha zm 117
 rw [this,Y18 _ _ 176,Y0x];rfl
theorem G6 (q:185){a0 a1 a2 a10 a11:Option D}:∀ (w j:Nat) (z:Option D),j+w<=7->∃ z',jb [] (zJ qi λ ρ' h'=>b_law_handler_1.run 204 ρ' h') ((List.range' j w).map λ (i:Nat)=>D.int (i:Nat)) [a0,a1,a2,some (.loc md),some (.loc mv),some (.str N.x),some (.str N.s),some (.str N.y),some 151,z,a10,a11] (H++[.lst (((List.range' 0 j).map (xj N)).map cD)])=.nx [a0,a1,a2,some (.loc md),some (.loc mv),some (.str N.x),some (.str N.s),some (.str N.y),some 151,z',a10,a11] (H++[.lst (((List.range' 0 (j+w)).map (xj N)).map cD)])
 | 0,j,z,_=>⟨z,jV⟩
 | w+1,j,z,hj=>by
  obtain ⟨z',e⟩:=G6 q w (j+1) (some (.int (j:Nat))) 117;refine ⟨z',?_⟩;rw [show j+(w+1)=j+1+w from by omega,Y27,Y0n];have dd:=(q.mono (Ex.app (B:=[.lst (((List.range' 0 j).map (xj N)).map cD)]))).dd (k:=6+j) 117;have e6:((6+j:Nat):Int)=6+(j:Int):=by omega
  rw [e6] at dd;have ee:((List.range' 0 (j+1)).map (xj N)).map cD=((List.range' 0 j).map (xj N)).map cD++[cD (xj N j)]:=by
   rw [List.range'_1_concat,Y0d,Y0d,Y1j];rfl
  rw [ee] at e;exact zM 144 (zR (zU (apL rfl (wZ (bnd rfl (bnd rfl dd)) rfl rfl rfl) 166) rfl)) e
theorem Oj (q:185)(hk:k<m)(hm:m<=6)(n1:Nn (lv k).kept)(n2:Nn (lv k).en):∃ H',callI defs (n+3) 44 [.loc ml,.int (k:Nat),.str (N.it (6+k)),.loc md,.loc mv] H=.ok (hdI N lv m k).d H'/\Ex H H':=by
 obtain ⟨a,ea,la⟩:=q.lvl hk;obtain ⟨p,o,e,h1,h2,h3,h4⟩:=la.ex;have k8:((hkk (lv k):Nat):Int)=(lv k).kept%8:=Y1m 117;have kat:((hat (lv k):Nat):Int)=(lv k).en%((hkk (lv k):Int)+1):=Y1m (Y24 _ 117);have kle:hat (lv k)<=hkk (lv k):=by have:=Y1p (lv k).en (show 0<((hkk (lv k):Nat):Int)+1 by omega);omega
 obtain ⟨z',L⟩:=G6 q (hkk (lv k)) 0 none 117;rw [Y1j] at L;generalize hxs:((List.range' 0 (hkk (lv k))).map (xj N)).map cD=xs at L;have lx:xs.length=hkk (lv k):=by rw [<- hxs];simp
 have x1:Ex H (H++[.lst xs]):=Ex.app;have g1:=zm (h:=H) (x:=.lst xs);generalize hX:H++[O.lst xs]=X at L x1 g1;have lX:X.length=H.length+1:=by rw [<- hX];simp
 have qX:=q.mono x1;have sX:∀ {X:Hh}{x:Str}{v:D},Ex H X->zF (lvK p o e (lv k)) (.inr x)=some v->jf (.loc ml) 169 X=.ok (.loc a) X/\jf (.loc a) 248 X=.ok v X:=λ {X x v} hx h=>by
  obtain ⟨as,g,_,f⟩:=q.gl;obtain ⟨a',e',_⟩:=f k hk;have s2:jf (.loc ml) 169 H=.ok (.loc a') H:=jg g (atk (by rw [Y0u,e'];rfl));rw [s2] at ea;cases ea;exact ⟨jg (hx _ _ g) (atk (by rw [Y0u,e'];rfl)),yF (hx _ _ h1) h⟩
 have C1:=VQ g1 (s:=hat (lv k)) 117;have CL:=z0k (n:=n) (qX.mono (Ex.app (B:=[.lst (xs.take 164)]))) hk hm;generalize hc:D.tup [.str (N.dd k),.str N.x,.str N.s,yI N lv m k]=cc at CL;have A1:=VR (h:=(X++[O.lst (xs.take 164)])++[O.lst [cc]]) (n:=X.length) (m:=(X++[O.lst (xs.take 164)]).length) (za zm) zm 166;have C2:=z4a (X:=((X++[O.lst (xs.take 164)])++[O.lst [cc]])++[O.lst (xs.take 164++[cc])]) (za (za (za g1))) (s:=hat (lv k)) 117;have A2:=VR (h:=160++[O.lst (xs.drop 164)]) (n:=((X++[O.lst (xs.take 164)])++[O.lst [cc]]).length) (m:=(((X++[O.lst (xs.take 164)])++[O.lst [cc]])++[O.lst (xs.take 164++[cc])]).length) (za zm) zm 166;have xF:Ex X ((160++[O.lst (xs.drop 164)])++[O.lst ((xs.take 164++[cc])++xs.drop 164)]):=λ i o h=>za (za (za (za (za h))));have gF:=zm (h:=160++[O.lst (xs.drop 164)]) (x:=O.lst ((xs.take 164++[cc])++xs.drop 164));have eF:((xs.take 164++[cc])++xs.drop 164)=(hcs N lv m k).map cD:=by
  unfold hcs;rw [<- hc,<- hxs,Y0d,Y0d,List.map_take,List.map_drop];rfl
 generalize hF:(160++[O.lst (xs.drop 164)])++[O.lst ((xs.take 164++[cc])++xs.drop 164)]=F at A2 xF gF;refine ⟨F,?_,x1.tr xF⟩;rw [zb (d:=wA) rfl rfl];have sK:=sX (x:="kept") (Ex.app (B:=[.lst []])) rfl;have sE:=sX (x:="end") x1 rfl;have sF:=sX (x:="end") (x1.tr xF) rfl;have un:ZX (.loc mv) H=.tup [.str N.x,.str N.s,.str N.y]:=by
  show (match PI.rd H mv with | some xs=>D.tup xs | none=>.non)=_
  rw [rdl q.gv]
 have sq:jY (.loc (160++[O.lst (xs.drop 164)]).length) F=some ((hcs N lv m k).map cD):=by rw [<- eF];exact rdl gF
 have ln:qS 151 X=.ok (.int (hkk (lv k):Nat)) X:=by rw [len_loc g1,lx]
 refine zi (UI (ρ':=[some (.loc ml),some 169,some (.str (N.it (6+k))),some (.loc md),some (.loc mv),some (.str N.x),some (.str N.s),some (.str N.y),none,none,none,none]) rfl (by rw [un];rfl) (zd (d:=.loc H.length) (h':=H++[.lst []]) rfl (zL (q:=([],(List.range' 0 (hkk (lv k))).map λ (i:Nat)=>.int (i:Nat))) (Jv (M:=hkk (lv k)) (by rw [k8];exact bnd (bnd (bnd rfl (bnd rfl sK.1)) (bnd rfl sK.2)) 219) 117) L
  (zd (d:=.int (hat (lv k):Nat)) (h':=X) (by rw [kat];exact bnd (bnd (bnd rfl (bnd rfl sE.1)) (bnd rfl sE.2)) (bnd (bnd (bnd rfl ln) rfl) (mdk 117)))
  (zd (h':=F) (bnd (bnd (vcut.trans (bnd rfl (bnd rfl (bnd (qy rfl) C1)))) (bnd (Yz (bnd rfl (bnd rfl CL))) A1)) (bnd (vcut.trans (bnd rfl (bnd (qy rfl) (bnd rfl C2)))) A2))
  (zd (d:=.tup [.str N.y,.str N.s,opT "+" (jv (lv k).en) (jR N.y)]) (Jo rfl rfl (wZ rfl rfl (jP rfl (bnd (bnd rfl (bnd rfl sF.1)) (bnd rfl sF.2))) rfl))
  (zr (wZ rfl rfl (vtupE.trans (bnd rfl (by rw [sq]))) rfl))))))))
end
noncomputable def pgI (N:Nm)(lv:Nat->Lv)(v:Int)(n:Nat):Nat->List Itm
 | 0=>[]
 | k+1=>(pgI N lv v n k++(if (lv k).called then [.fn (N.it k) (.tup []) (bdyT N lv v k)] else []))++[hdI N lv n k]
noncomputable def Jw (N:Nm)(lv:Nat->Lv)(v:Int)(n:Nat):Itm:=.fn (N.it 12) (.tup []) (opT "-" (tr N lv v n) (jv 3))
section
variable {n:Nat}{H:Hh}{ml mi md mv m:Nat}{N:Nm}{lv:Nat->Lv}{v:Int}
theorem Qy:∀ k,(pgI N lv v m k).length<=2*k
 | 0=>Y04 _
 | k+1=>by
  have:=Qy k
  rw [pgI,Y01,Y01,Y2n]
  split<;>simp<;>omega
theorem Ctx.lvx (q:185)(hk:k<m):∃ a,LvAt H a (lv k)/\∀ Y,Ex H Y->jf (.loc ml) 169 Y=.ok (.loc a) Y:=by
 obtain ⟨as,g,l,f⟩:=q.gl;obtain ⟨a,e,h⟩:=f k hk;exact ⟨a,h,λ Y x=>jg (x _ _ g) (atk (by rw [Y0u,e];rfl))⟩
theorem G7 (st:stay ck X){b0 a1 a2 a4 a5 a7 a8:Option D}(gv:X[mv]?=some (.lst [.str N.x,.str N.s,.str N.y])):∀ (es:List Int) (t:D) (z:Option D),∃ z',jb ck (zJ qj λ ρ' h'=>b_law_program_2.run cl ρ' h') (es.map .int) [b0,a1,a2,some (.loc mv),a4,a5,some t,a7,a8,z] X=.nx [b0,a1,a2,some (.loc mv),a4,a5,some (eaT N.x es t),a7,a8,z'] X
 | [],t,z=>⟨z,if_pos st⟩
 | e::r,t,z=>by
  obtain ⟨z',h⟩:=G7 st gv r (z08 N.x (qJ (jv e) (jv 3)) t) (some (.int e));exact ⟨z',zM st (zR (zd (wZ rfl (bnd rfl (bnd rfl (jg gv a0))) rfl rfl) rfl)) h⟩
theorem G8 (q:185)(hm:m<=6)(nn:∀ k,k<m->Nn (lv k).kept/\Nn (lv k).en):∀ (w k:Nat) (X:Hh) (z7 z8 z9:Option D),k+w=m->Ex H X->X[H.length]?=some (.lst ((pgI N lv v m k).map Itm.d)) ->
  ∃ z7' z8' z9' X',jb [] (zJ qk λ ρ' h'=>b_law_program_1.run (callI defs (n+3)) ρ' h') ((List.range' k w).map λ (i:Nat)=>D.int (i:Nat)) [some (.loc ml),some (.loc mi),some (.loc md),some (.loc mv),some 215,some 151,some (tr N lv v k),z7,z8,z9] X=.nx [some (.loc ml),some (.loc mi),some (.loc md),some (.loc mv),some 215,some 151,some (tr N lv v m),z7',z8',z9'] X'/\Ex H X'/\X'[H.length]?=some (.lst ((pgI N lv v m m).map Itm.d))
 | 0,k,X,z7,z8,z9,hk,x,g=>⟨z7,z8,z9,X,by rw [show k=m from hk];exact jV,x,by rw [<- show k=m from hk];rw [show k=m from hk] at g ⊢;exact g⟩
 | w+1,k,X,z7,z8,z9,hk,x,g=>by
  have km:k<m:=by omega
  have qX:=q.mono x;obtain ⟨a,la,ea⟩:=q.lvx km;have ea:=ea X x;obtain ⟨p,o,e,h10,h2,h3,h4⟩:=la.ex;have h1:=x _ _ h10;have h2:=x _ _ h2;have h4:=x _ _ h4;have sK:∀ {x:Str}{v:D},zF (lvK p o e (lv k)) (.inr x)=some v->jf (.loc a) 248 X=.ok v X:=λ h=>yF h1 h;obtain ⟨n1,n2⟩:=nn k km;have ll:=Qy (N:=N) (lv:=lv) (v:=v) (m:=m) k;obtain ⟨e9,EA⟩:=G7 (ck:=[(e,(lv k).early.map .int)]) (λ q hq=>by rw [Y07.mp hq];exact rdl h4) qX.gv (lv k).early (tr N lv v k) z9;have GU:=WE (n:=n+2) (t:=eaT N.x (lv k).early (tr N lv v k)) h2;have eb:guT (lv k).parts (eaT N.x (lv k).early (tr N lv v k))=bdyT N lv v k:=by rw [bdyT]
  rw [eb] at GU;have it:=qX.it (k:=k) 117;generalize hl1:pgI N lv v m k++(if (lv k).called then [Itm.fn (N.it k) (.tup []) (bdyT N lv v k)] else [])=l1;generalize ht1:(if (lv k).called then jM (N.it k) .non [] else bdyT N lv v k)=t1;have S1:∃ X1,Ex H X1/\X1[H.length]?=some (.lst (l1.map Itm.d))/\∀ {c:E}{p0:Pos}{A:Ss},c.evT (callI defs (n+3)) 198 X=.ok (lv k).called X->((lv k).called=true->A.run (callI defs (n+3)) 198 X=.nx [some (.loc ml),some (.loc mi),some (.loc md),some (.loc mv),some 215,some 151,some (jM (N.it k) .non []),some 169,some (.loc a),e9] (X.set H.length (.lst ((pgI N lv v m k).map Itm.d++[(Itm.fn (N.it k) (.tup []) (bdyT N lv v k)).d]))))->Ss.run (callI defs (n+3)) (.cons (.iff c A .nil p0) .nil) 198 X=.nx [some (.loc ml),some (.loc mi),some (.loc md),some (.loc mv),some 215,some 151,some t1,some 169,some (.loc a),e9] X1:=by
   cases hc:(lv k).called with
   | true =>
    rw [hc,if_pos rfl] at hl1 ht1;refine ⟨X.set H.length (.lst ((pgI N lv v m k).map Itm.d++[(Itm.fn (N.it k) (.tup []) (bdyT N lv v k)).d])),λ i o h=>zc (by have:=zk h;omega) (x i o h),?_,λ {c p0 A} h1 h2=>?_⟩
    ·rw [<- hl1,Y0d];exact Y0b (zk g)
    ·rw [<- ht1];exact zK h1 (h2 rfl) rfl
   | false =>
    rw [hc] at hl1 ht1;refine ⟨X,x,?_,λ {c p0 A} h1 h2=>?_⟩
    ·rw [<- hl1];simpa using g
    ·rw [<- ht1];exact zx h1 rfl
  obtain ⟨X1,x1,gl1,S1⟩:=S1;have q1:=q.mono x1;obtain ⟨X2,HD,x2⟩:=Oj q1 km hm n1 n2;have i6:∀ {Y:Hh},Ctx Y ml mi md mv m N lv->jf (.loc mi) (.int (6+(k:Int))) Y=.ok (.str (N.it (6+k))) Y:=λ {Y} c=>by
   have:=c.it (k:=6+k) 117
   rw [show ((6+k:Nat):Int)=6+(k:Int) from by omega] at this;exact this
  have lh1:l1.length<1000:=by rw [<- hl1,Y01];split<;>simp<;>omega
  have eX:(X2.set H.length (.lst (l1.map Itm.d++[(hdI N lv m k).d])))[H.length]?=some (.lst ((pgI N lv v m (k+1)).map Itm.d)):=by
   rw [Y0b (zk (x2 _ _ gl1)),pgI,hl1,Y0d];rfl
  have xX:Ex H (X2.set H.length (.lst (l1.map Itm.d++[(hdI N lv m k).d]))):=λ i o h=>zc (by have:=zk h;omega) (x2 _ _ (x1 i o h));have et:tr N lv v (k+1)=WB (N.it (6+k)) (jv (lv k).kept) t1:=by rw [tr,ht1]
  obtain ⟨z7',z8',z9',X',R,xr,gr⟩:=G8 q hm nn w (k+1) (X2.set H.length (.lst (l1.map Itm.d++[(hdI N lv m k).d]))) (some 169) (some (.loc a)) e9 117 xX eX;refine ⟨z7',z8',z9',X',?_,xr,gr⟩;rw [Y27,Y0n];rw [et] at R;have sk:=yF (xX _ _ h10) (f:="kept") rfl;refine zM 144 (zR (zd (bnd rfl (bnd rfl ea)) (zL (w6 161 (rdl h4)) EA (zd (d:=bdyT N lv v k) (bnd 161 (bnd rfl GU)) ?_)))) R;have it2:=λ o=>(q.mono (H':=X.set H.length o) λ i o h=>zc (by have:=zk h;omega) (x i o h)).it (k:=k) 117;refine Zf 1 (S1 (bnd 161 rfl) λ _=>zU (append_at rfl g (z3e rfl (bnd rfl (bnd rfl it)) rfl rfl rfl) g (by rw [Y08];omega)) (zd (wZ rfl (bnd rfl (bnd rfl (it2 _))) rfl rfl) rfl)) ?_;exact zU (append_at rfl gl1 (bnd rfl (bnd (bnd rfl (bnd (bnd (bnd rfl (bnd rfl (i6 q1))) rfl) rfl)) HD)) (x2 _ _ gl1) (by rw [Y08];omega)) (zd (wZ rfl (bnd rfl (bnd rfl (i6 (q.mono xX)))) (jP rfl (bnd rfl (bnd rfl sk))) rfl) rfl)
theorem Ol (q:185)(hm:m<=6)(nn:∀ k,k<m->Nn (lv k).kept/\Nn (lv k).en):∃ H',callI defs (n+4) 45 [.loc ml,.loc mi,.loc md,.loc mv,.int v] H=.ok (.tup ((pgI N lv v m m++[Jw N lv v m]).map Itm.d)) H'/\Ex H H':=by
 obtain ⟨z7,z8,z9,X,L,x,g⟩:=G8 q hm nn m 0 (H++[.lst []]) none none none (Y1j _) Ex.app zm;rw [zb rfl rfl];have ll:=Qy (N:=N) (lv:=lv) (v:=v) (m:=m) m;have i12:=(q.mono x).it (k:=12) 123;have d0:=(q.mono (Ex.app (B:=[.lst []]))).dd (k:=0) 123;have ln:=(q.mono (Ex.app (B:=[.lst []]))).len;have sq:jY 151 (X.set H.length (.lst ((pgI N lv v m m).map Itm.d++[(Jw N lv v m).d])))=some ((pgI N lv v m m).map Itm.d++[(Jw N lv v m).d]):=rdl (Y0b (zk g));refine ⟨X.set H.length (.lst ((pgI N lv v m m).map Itm.d++[(Jw N lv v m).d])),?_,λ i o h=>zc (by have:=zk h;omega) (x i o h)⟩;rw [Y0d];have t0:tr N lv v 0=doT (N.dd 0) (jv v):=by rw [tr]
 rw [t0] at L;exact zi (zd rfl (zd (Jo rfl (bnd rfl (bnd rfl d0)) rfl) (zL (Jv (bnd rfl ln) 117) L (zU (h':=X.set H.length (.lst ((pgI N lv v m m).map Itm.d++[(Jw N lv v m).d]))) (append_at rfl g (z3e rfl (bnd rfl (bnd rfl i12)) rfl rfl rfl) g (by rw [Y08];omega)) (zr (vtupE.trans (bnd rfl (by rw [sq];rfl))))))))
end
noncomputable def eD:Option D->D
 | none=>.non
 | some d=>d
theorem yK {l:163}:(l.map some).map eD=l:=by rw [Y1k];exact List.map_id' l
abbrev gul (l:List Int):List D:=l.map λ p=>guD (.int p)
section
variable {n:Nat}{H:Hh}{ml mi md mv m:Nat}{N:Nm}{lv:Nat->Lv}
theorem Jx (h1:e1.ev cl ρ X=.ok (.loc a) X1)(h2:e2.ev cl ρ X1=.ok (.loc b) X2)(g1:X2[a]?=some 210)(g2:X2[b]?=some (.lst ys))(hl:xs.length+ys.length<=1000000):E.ev cl (.bin .Add e1 e2 p) ρ X=.ok (.loc X2.length) (X2++[.lst (xs++ys)]):=bnd h1 (bnd h2 (VR g1 g2 hl))
theorem YL (g:H[p]?=some (.lst (ps.map .int)))(hl:ps.length<1000):callI defs (n+1) 46 [.loc p] H=.ok 151 (H++[.lst (clo ps)]):=by
 rw [zb rfl rfl];have rv:GO (.loc p) H=.ok ([(p,ps.map .int)],(ps.reverse).map D.int) H:=by
  show (match PI.rd H p with | some xs=>Res.ok (([(p,xs)],xs.reverse):Ck×List D) H | none=>.no)=_
  rw [rdl g];simp
 have cc:=j5 (c:=[(p,ps.map .int)]) (f:=ja yc (jD [none] [some (.loc p)]) (λ ρ' h2=>c_law_clean_1.evC 204 ρ' h2) (λ ρ' h2=>e_law_clean_1.ev 204 ρ' h2)) (λ q hq=>by rw [Y07.mp hq];exact rdl g) (λ d=>some (clD d)) (ps.reverse.map .int) [] λ z hz=>ju rfl rfl rfl;rw [Y19,List.filterMap_eq_map',Y1k] at cc;exact zi (zr (j6 (irev.trans (bnd rfl rv)) (by show (ps.reverse.map D.int).length<=_;simp;omega) cc))
noncomputable def eL (lv:Nat->Lv)(k:Nat):List 183:=(if (lv k).called then [none] else [])++((gul (lv k).parts).map some++((lv k).early.flatMap λ p=>[guD (.int p),clD (.int p)]).map some)
theorem z93:ent lv (k+1)=eL lv k++ent lv k:=by rw [ent,eL,Y05,Y05]
theorem G9:∀ (es:List Int) (acc:163) (X:Hh) (dl:Nat) (z:Option D),stay ck X->(∀ p∈ck,p.1<X.length)->X[dl]?=some (.lst acc)->acc.length+2*es.length<=100000 ->
  ∃ z' X' dl',jb ck (zJ Zr λ ρ' h'=>b_law_due_5.run cl ρ' h') (es.map .int) [b0,b1,b2,some (.loc dl),b4,z,b6,b7,b8,b9] X=.nx [b0,b1,b2,some (.loc dl'),b4,z',b6,b7,b8,b9] X'/\Ex X X'/\X'[dl']?=some (.lst (acc++es.flatMap λ p=>[guD (.int p),clD (.int p)]))/\dl' >= min dl X.length
 | [],acc,X,dl,z,st,_,g,_=>⟨z,X,dl,if_pos st,Ex.rfl',by simpa using g,by omega⟩
 | e::r,acc,X,dl,z,st,lc,g,hl=>by
  have x1:Ex X ((X++[.lst [guD (.int e),clD (.int e)]])++[.lst (acc++[guD (.int e),clD (.int e)])]):=Ex.app.tr Ex.app;have st':stay ck ((X++[.lst [guD (.int e),clD (.int e)]])++[.lst (acc++[guD (.int e),clD (.int e)])]):=λ p hp=>by
   have:=st p hp
   unfold PI.rd at this ⊢;rw [Y05,Y16 (lc p hp)];exact this
  obtain ⟨z',X',dl',h,x2,g2,ld⟩:=G9 r (acc++[guD (.int e),clD (.int e)]) ((X++[.lst [guD (.int e),clD (.int e)]])++[.lst (acc++[guD (.int e),clD (.int e)])]) (X++[O.lst [guD (.int e),clD (.int e)]]).length (some (.int e)) st' (λ p hp=>by have:=lc p hp;simp;omega) zm (by simp at hl ⊢;omega);refine ⟨z',X',dl',zM st (zR (zd (Jx rfl (d2 rfl rfl) (za g) zm (by simp at hl ⊢;omega)) rfl)) h,x1.tr x2,?_,by simp at ld;omega⟩;rw [g2,Y05];rfl
theorem z4o (g:X[p]?=some (.lst (ps.map .int)))(hf:∀ d,f d X=.ok (some (guD d)) X):zZ [(p,ps.map .int)] f (ps.map .int) [] X=.ok (gul ps) X:=by
 have cc:=j5 (c:=[(p,ps.map .int)]) (λ q hq=>by rw [Y07.mp hq];exact rdl g) (λ d=>some (guD d)) (ps.map .int) [] λ z _=>hf z;rw [Y19,List.filterMap_eq_map',Y1k] at cc;exact cc
theorem YM {b0 b1 b2 b6 b7 b8 b9:Option D}{as:List Nat}(gl:H[ml]?=some (.lst (as.map .loc)))(la:∀ k,k<m->∃ a,as[k]?=some a/\LvAt H a (lv k))(sz:∀ k,k<m->(lv k).early.length<=1/\(lv k).parts.length<=3)(hm:m<=6):∀ (j:Nat) (acc:List 183) (X:Hh) (dl:Nat) (z4 z5:Option D),j<=m->Ex H X->X[dl]?=some (.lst (acc.map eD))->H.length<=dl->acc.length+10*j<=60 ->
  ∃ z4' z5' X' dl',jb [(ml,as.map .loc)] (zJ Zt λ ρ' h'=>b_law_due_4.run 204 ρ' h') ((as.take j).reverse.map .loc) [b0,b1,b2,some (.loc dl),z4,z5,b6,b7,b8,b9] X=.nx [b0,b1,b2,some (.loc dl'),z4',z5',b6,b7,b8,b9] X'/\Ex H X'/\X'[dl']?=some (.lst ((acc++ent lv j).map eD))/\H.length<=dl'
 | 0,acc,X,dl,z4,z5,_,x,g,hd,_=>⟨z4,z5,X,dl,by rw [List.take_zero];exact if_pos λ q hq=>by rw [Y07.mp hq];exact rdl (x _ _ gl),x,by rw [ent,Y0a];exact g,hd⟩
 | j+1,acc,X,dl,z4,z5,hj,x,g,hd,hl=>by
  obtain ⟨a,ea,lva⟩:=la j 117;obtain ⟨p,o,e,h1,h2,h3,h4⟩:=lva.ex;obtain ⟨s1,s2⟩:=sz j 117;have et:(as.take (j+1)).reverse=a::(as.take j).reverse:=by
   rw [List.take_add_one,ea];simp
  generalize hc1:(if (lv j).called then [none] else []:List 183)=c1;have lc1:c1.length<=1:=by rw [<- hc1];split<;>simp
  have S1:∃ X1,Ex H X1/\X1[dl]?=some (.lst ((acc++c1).map eD))/\Ss.run 204 (wG 1 b_law_due_4) [b0,b1,b2,some (.loc dl),some (.loc a),z5,b6,b7,b8,b9] X=.nx [b0,b1,b2,some (.loc dl),some (.loc a),z5,b6,b7,b8,b9] X1:=by
   have sK:=yF (x _ _ h1) (f:="called") rfl;cases hc:(lv j).called with
   | true =>
    rw [hc] at sK;rw [hc,if_pos rfl] at hc1;refine ⟨X.set dl (.lst (acc.map eD++[.non])),λ i o h=>zc (by have:=zk h;omega) (x i o h),?_,zK (bnd (bnd rfl (bnd rfl sK)) rfl) (zU (append_at rfl g rfl g (by rw [Y08];omega)) rfl) rfl⟩;rw [Y0b (zk g),<- hc1,Y0d];rfl
   | false =>
    rw [hc] at sK;rw [hc] at hc1;exact ⟨X,x,by rw [<- hc1];simpa using g,zx (bnd (bnd rfl (bnd rfl sK)) rfl) rfl⟩
  obtain ⟨X1,x1,g1,S1⟩:=S1;have GC:=z4o (f:=ja Zs (jD [none] [b0,b1,b2,some (.loc dl),some (.loc a),z5,b6,b7,b8,b9]) (λ ρ' h2=>c_law_due_6.evC 204 ρ' h2) (λ ρ' h2=>e_law_due_6.ev 204 ρ' h2)) (x1 _ _ h2) λ d=>ju rfl rfl rfl;have x2:Ex H ((X1++[.lst (gul (lv j).parts)])++[.lst ((acc++c1).map eD++gul (lv j).parts)]):=x1.tr (Ex.app.tr Ex.app);obtain ⟨z5',X3,dl3,L3,x3,g3,ld3⟩:=G9 (ck:=[(e,(lv j).early.map .int)]) (lv j).early ((acc++c1).map eD++gul (lv j).parts) ((X1++[.lst (gul (lv j).parts)])++[.lst ((acc++c1).map eD++gul (lv j).parts)]) (X1++[O.lst (gul (lv j).parts)]).length z5 (λ q hq=>by rw [Y07.mp hq];exact rdl (x2 _ _ h4)) (λ q hq=>by rw [Y07.mp hq];exact zk (x2 _ _ h4)) zm 166;have lX:H.length<=X1.length:=by have:=zk g1;omega
  have eacc:(acc++c1).map eD++gul (lv j).parts++((lv j).early.flatMap λ p=>[guD (.int p),clD (.int p)])=(acc++eL lv j).map eD:=by
   rw [eL,hc1,Y0d,Y0d,Y0d,Y0d,yK,yK];simp only [Y05]
  rw [eacc] at g3;obtain ⟨z4',z5'',X',dl',R,xr,gr,lr⟩:=YM gl la sz hm j (acc++eL lv j) X3 dl3 (some (.loc a)) z5' 117 (x2.tr x3) g3 (by simp at ld3;omega) (by
   have:(eL lv j).length<=6:=by
    have fl:∀ l:List Int,(l.flatMap λ p=>[guD (.int p),clD (.int p)]).length=2*l.length:=λ l=>by
     induction l with
     | nil=>rfl
     | cons a r ih=>rw [List.flatMap_cons,Y01,ih];show 2+2*r.length=2*(r.length+1);omega
    rw [eL,hc1];simp only [Y01,Y08,fl];omega
   rw [Y01];omega)
  refine ⟨z4',z5'',X',dl',?_,xr,by rw [gr,Y05,<- z93],lr⟩;rw [et,Y0n];exact zM (λ q hq=>by rw [Y07.mp hq];exact rdl (x _ _ gl)) (zR (Zf 1 S1 (zd (Jx rfl (j6 (w6 (bnd rfl (bnd rfl (yF (x1 _ _ h1) rfl))) (rdl (x1 _ _ h2))) (by show ((lv j).parts.map D.int).length<=_;simp;omega) GC) (za g1) zm 166) (zL (w6 (bnd rfl (bnd rfl (yF (x2 _ _ h1) rfl))) (rdl (x2 _ _ h4))) L3 rfl)))) R
end
noncomputable def hb (lv:Nat->Lv):Nat->List D
 | 0=>[]
 | k+1=>clo (lv k).own++(if (lv k).goes > 0 then [] else hcl lv k)
theorem Qz:hcl lv k=hb lv k++clo (lv k).parts:=by
 cases k with
 | zero=>rfl
 | succ k=>rw [hcl,hb,Y05]
noncomputable def lq (N:Nm)(lv:Nat->Lv):Nat->Nat->Int->List 183
 | 0,_,_=>[]
 | j+1,k,v=>none::some (doD (N.dd k) 215)::(gs (lv k).goes (hcl lv k)++((gul (lv k).own).map some++lq N lv j (k+1) (nx lv k v)))
theorem z0l:∀ (j k:Nat) (v:Int),j+1+k=n->lq N lv (j+1) k v++(hb lv n).map some=none::some (doD (N.dd k) 215)::rst N lv (j+1) k v
 | 0,k,v,h=>by
  rw [lq,lq,Y0a,rst,if_pos rfl,<- h,show 0+1+k=k+1 from by omega,hb];simp only [Y1g,Y05]
 | j+1,k,v,h=>by
  have ih:=z0l (N:=N) (lv:=lv) (n:=n) j (k+1) (nx lv k v) 117;rw [lq,rst,if_neg 117,<- ih];simp only [Y1g,Y05]
section
variable {n:Nat}{H:Hh}{ml mi md mv m:Nat}{N:Nm}{lv:Nat->Lv}
theorem Ga {cl:136}{b0 b1 b2 b4 b5 b7 b9:Option D}{hl:Nat}{hs:163}:∀ (xs:163) (acc:List 183) (X:Hh) (dl:Nat) (z:Option D),X[dl]?=some (.lst (acc.map eD))->X[hl]?=some (.lst hs)->acc.length+(hs.length+1)*xs.length<=100000 ->
  ∃ z' X' dl',jb [] (zJ Zp λ ρ' h'=>b_law_due_3.run cl ρ' h') xs [b0,b1,b2,some (.loc dl),b4,b5,some (.loc hl),b7,z,b9] X=.nx [b0,b1,b2,some (.loc dl'),b4,b5,some (.loc hl),b7,z',b9] X'/\Ex X X'/\X'[dl']?=some (.lst ((acc++gs xs.length hs).map eD))
 | [],acc,X,dl,z,g,_,_=>⟨z,X,dl,jV,Ex.rfl',by rw [show gs ([]:List D).length hs=[] from rfl,Y0a];exact g⟩
 | x::r,acc,X,dl,z,g,gh,hl'=>by
  rw [Y03,Nat.mul_add,Nat.mul_one] at hl';have gh1:(X++[O.lst [.non]]++[O.lst (acc.map eD++[.non])])[hl]?=some (.lst hs):=za (za gh);have e:acc.map eD++[.non]++hs=(acc++none::hs.map some).map eD:=by
   rw [Y0d,Y0n,yK,Y05];rfl
  have A:=Jx (cl:=cl) (ρ:=[b0,b1,b2,some (.loc dl),b4,b5,some (.loc hl),b7,some x,b9]) (e1:=.bin .Add (.var 3 139) (.ofL (.disp (.cons (.non 139) .nil) 139)) 139) (e2:=.var 6 139) (p:=139) (Jx rfl (Yz rfl) (za g) zm 166) rfl zm gh1 166;rw [e] at A;have x1:Ex X ((X++[O.lst [.non]]++[O.lst (acc.map eD++[.non])])++[O.lst ((acc++none::hs.map some).map eD)]):=λ i o h=>za (za (za h));obtain ⟨z',X',dl',R,xr,gr⟩:=Ga r (acc++none::hs.map some) ((X++[O.lst [.non]]++[O.lst (acc.map eD++[.non])])++[O.lst ((acc++none::hs.map some).map eD)]) (X++[O.lst [.non]]++[O.lst (acc.map eD++[.non])]).length (some x) zm (x1 _ _ gh) 166;refine ⟨z',X',dl',zM 144 (zR (zd A rfl)) R,x1.tr xr,?_⟩;rw [gr,Y03,gs,Y05,Y1g]
theorem QA (sz:∀ k,k<m->(lv k).parts.length<=3/\(lv k).own.length<=3):∀ k,k<=m->(hb lv k).length<=6*k
 | 0,_=>Y04 _
 | k+1,h=>by
  have ih:=QA sz k 117
  have:=sz k 117
  have e:(hcl lv k).length=(hb lv k).length+(lv k).parts.length:=by rw [Qz];simp
  rw [hb,Y01,Y08,Y0l]
  split
  ·simp;omega
  ·omega
theorem Gb (q:185)(hm:m<=6)(sz:∀ k,k<m->(lv k).parts.length<=3/\(lv k).own.length<=3)(g2:∀ k,k<m->(lv k).goes<=2){b5 b9:Option D}:∀ (j k:Nat) (acc:List 183) (X:Hh) (dl hl:Nat) (v:Int) (z4 z7 z8:Option D),k+j=m->Ex H X->X[dl]?=some (.lst (acc.map eD))->X[hl]?=some (.lst (hb lv k))->acc.length<=100+100*k ->
  ∃ z4' z7' z8' X' dl' hl',jb [] (zJ Zq λ ρ' h'=>b_law_due_1.run 182 ρ' h') ((List.range' k j).map λ (i:Nat)=>D.int (i:Nat)) [some (.loc ml),some (.loc md),some 215,some (.loc dl),z4,b5,some (.loc hl),z7,z8,b9] X=.nx [some (.loc ml),some (.loc md),some (.int (vl lv j k v)),some (.loc dl'),z4',b5,some (.loc hl'),z7',z8',b9] X'/\Ex H X'/\X'[dl']?=some (.lst ((acc++lq N lv j k v).map eD))/\X'[hl']?=some (.lst (hb lv m))
 | 0,k,acc,X,dl,hl,v,z4,z7,z8,hk,x,gd,gh,la=>⟨z4,z7,z8,X,dl,hl,jV,x,by rw [lq,Y0a];exact gd,by rw [<- show k=m from hk];exact gh⟩
 | j+1,k,acc,X,dl,hl,v,z4,z7,z8,hk,x,gd,gh,la=>by
  have km:k<m:=by omega
  obtain ⟨a,lva,ea⟩:=q.lvx km;obtain ⟨p,o,e,h1,h2,h3,h4⟩:=lva.ex;obtain ⟨s1,s2⟩:=sz k km;have gg:=g2 k km;have lh:=QA sz k 117;have lc:(hcl lv k).length<=6*k+3:=by rw [Qz,Y01,Y08,Y0l];omega
  have sK:∀ {Y:Hh}{x:Str}{v:D},Ex H Y->zF (lvK p o e (lv k)) (.inr x)=some v->jf (.loc a) 248 Y=.ok v Y:=λ hx h=>yF (hx _ _ h1) h;have CL:=YL (n:=n) (x _ _ h2) 117;have A1:∀ {ρ:En}{e2:E}{p0 p1:Pos},ρ[6]?=some (some (.loc hl))->e2.ev 182 ρ X=.ok 227 (X++[.lst (clo (lv k).parts)])->E.ev 182 (.bin .Add (.var 6 p1) e2 p0) ρ X=.ok (.loc (X++[O.lst (clo (lv k).parts)]).length) ((X++[O.lst (clo (lv k).parts)])++[.lst (hb lv k++clo (lv k).parts)]):=λ {ρ e2 p0 p1} h h'=>Jx (by rw [wv,h]) h' (za gh) zm 166;rw [<- Qz] at A1;have x1:Ex X ((X++[O.lst (clo (lv k).parts)])++[.lst (hcl lv k)]):=Ex.app.tr Ex.app;have gh1:=zm (h:=X++[O.lst (clo (lv k).parts)]) (x:=.lst (hcl lv k));generalize (X++[O.lst (clo (lv k).parts)])++[O.lst (hcl lv k)]=X1 at A1 x1 gh1;generalize (X++[O.lst (clo (lv k).parts)]).length=hl1 at A1 gh1;have dd:=((q.mono x).mono x1).dd (k:=k) 117;have A2:∀ {ρ:En}{e2:E}{p0 p1:Pos},ρ[3]?=some (some (.loc dl))->e2.ev 182 ρ X1=.ok (.loc X1.length) (X1++[.lst [.non,doD (N.dd k) 215]])->E.ev 182 (.bin .Add (.var 3 p1) e2 p0) ρ X1=.ok (.loc (X1++[O.lst [.non,doD (N.dd k) 215]]).length) ((X1++[O.lst [.non,doD (N.dd k) 215]])++[.lst (acc.map eD++[.non,doD (N.dd k) 215])]):=λ {ρ e2 p0 p1} h h'=>Jx (by rw [wv,h]) h' (za (x1 _ _ gd)) zm 166;rw [show acc.map eD++[.non,doD (N.dd k) 215]=(acc++[none,some (doD (N.dd k) 215)]).map eD from by rw [Y0d];rfl] at A2;have x2:Ex X1 ((X1++[O.lst [.non,doD (N.dd k) 215]])++[.lst ((acc++[none,some (doD (N.dd k) 215)]).map eD)]):=Ex.app.tr Ex.app;have gd2:=zm (h:=X1++[O.lst [.non,doD (N.dd k) 215]]) (x:=.lst ((acc++[none,some (doD (N.dd k) 215)]).map eD));generalize (X1++[O.lst [.non,doD (N.dd k) 215]])++[O.lst ((acc++[none,some (doD (N.dd k) 215)]).map eD)]=X2 at A2 x2 gd2;generalize (X1++[O.lst [.non,doD (N.dd k) 215]]).length=dl2 at A2 gd2;have xx2:=x.tr (x1.tr x2);obtain ⟨z8',X3,dl3,L3,x3,gd3⟩:=Ga (hs:=hcl lv k) ((List.range' 0 (lv k).goes).map λ (i:Nat)=>D.int (i:Nat)) (acc++[none,some (doD (N.dd k) 215)]) X2 dl2 z8 gd2 (x2 _ _ gh1) (by
   rw [Y08,Y3k,Y01]
   have:((hcl lv k).length+1)*(lv k).goes<=40*2:=Nat.mul_le_mul 117 gg
   show acc.length+2+_<=_;omega)
  rw [Y08,Y3k] at gd3;have xx3:=xx2.tr x3;have S4:Ss.run 182 (wG 2 (w5 4 b_law_due_1)) [some (.loc ml),some (.loc md),some 215,some (.loc dl3),some (.loc a),b5,some (.loc hl1),some 169,z8',b9] X3=.nx [some (.loc ml),some (.loc md),some (.int (nx lv k v)),some (.loc dl3),some (.loc a),b5,some (.loc hl1),some 169,z8',b9] X3:=by
   unfold nx;by_cases c:(lv k).goes > 0
   ·rw [if_pos c];exact zK (zj 247 rfl (gtI (decide_eq_true 117))) (zd (bnd 247 (bnd 247 rfl)) rfl) (zd (bnd rfl (bnd 247 rfl)) rfl)
   ·rw [if_neg c];exact zx (zj 247 rfl (gtI (decide_eq_false 117))) (zd (bnd rfl (bnd 247 rfl)) rfl)
  have lg:(acc++[none,some (doD (N.dd k) 215)]++gs (lv k).goes (hcl lv k)).length<=acc.length+2+80:=by
   have gl:∀ (g:Nat) (h:163),(gs g h).length=(h.length+1)*g:=λ g h=>by
    induction g with
    | zero=>rfl
    | succ g ih=>rw [gs,Y03,Y01,Y08,ih,Nat.mul_add];omega
   rw [Y01,Y01,gl]
   have:((hcl lv k).length+1)*(lv k).goes<=40*2:=Nat.mul_le_mul 117 gg
   show acc.length+2+_<=_;omega
  generalize hacc:acc++[none,some (doD (N.dd k) 215)]++gs (lv k).goes (hcl lv k)=acc3 at gd3 lg;have GC:=z4o (f:=ja Zo (jD [none] [some (.loc ml),some (.loc md),some (.int (nx lv k v)),some (.loc dl3),some (.loc a),b5,some (.loc hl1),some 169,z8',b9]) (λ ρ' h2=>c_law_due_2.evC 182 ρ' h2) (λ ρ' h2=>e_law_due_2.ev 182 ρ' h2)) (xx3 _ _ h3) λ d=>ju rfl rfl rfl;have A5:∀ {ρ:En}{e2:E}{p0 p1:Pos},ρ[3]?=some (some (.loc dl3))->e2.ev 182 ρ X3=.ok (.loc X3.length) (X3++[.lst (gul (lv k).own)])->E.ev 182 (.bin .Add (.var 3 p1) e2 p0) ρ X3=.ok (.loc (X3++[O.lst (gul (lv k).own)]).length) ((X3++[O.lst (gul (lv k).own)])++[.lst (acc3.map eD++gul (lv k).own)]):=λ {ρ e2 p0 p1} h h'=>Jx (by rw [wv,h]) h' (za gd3) zm 166;rw [show acc3.map eD++gul (lv k).own=(acc3++(gul (lv k).own).map some).map eD from by rw [Y0d,yK]] at A5;have x5:Ex X3 ((X3++[O.lst (gul (lv k).own)])++[.lst ((acc3++(gul (lv k).own).map some).map eD)]):=Ex.app.tr Ex.app;have gd5:=zm (h:=X3++[O.lst (gul (lv k).own)]) (x:=.lst ((acc3++(gul (lv k).own).map some).map eD));generalize (X3++[O.lst (gul (lv k).own)])++[O.lst ((acc3++(gul (lv k).own).map some).map eD)]=X5 at A5 x5 gd5;generalize (X3++[O.lst (gul (lv k).own)]).length=dl5 at A5 gd5;have xx5:=xx3.tr x5;have gh5:X5[hl1]?=some (.lst (hcl lv k)):=x5 _ _ (x3 _ _ (x2 _ _ gh1));have S6:∃ X6 hl6,Ex X5 X6/\X6[hl6]?=some (.lst (hb lv (k+1)))/\Ss.run 182 (w5 7 b_law_due_1) [some (.loc ml),some (.loc md),some (.int (nx lv k v)),some (.loc dl5),some (.loc a),b5,some (.loc hl1),some 169,z8',b9] X5=.nx [some (.loc ml),some (.loc md),some (.int (nx lv k v)),some (.loc dl5),some (.loc a),b5,some (.loc hl6),some 169,z8',b9] X6:=by
   have CL:=YL (n:=n) (xx5 _ _ h3) 117;by_cases c:(lv k).goes > 0
   ·refine ⟨X5++[.lst (clo (lv k).own)],X5.length,Ex.app,by rw [zm,hb,if_pos c,Y0a],zK (zj (bnd rfl (bnd rfl (sK xx5 rfl))) rfl (gtI (decide_eq_true 117))) (zd (bnd (bnd rfl (bnd rfl (sK xx5 rfl))) (bnd rfl CL)) rfl) rfl⟩
   ·refine ⟨(X5++[.lst (clo (lv k).own)])++[.lst (clo (lv k).own++hcl lv k)],(X5++[O.lst (clo (lv k).own)]).length,Ex.app.tr Ex.app,by rw [zm,hb,if_neg c],j0 (zj (bnd rfl (bnd rfl (sK xx5 rfl))) rfl (gtI (decide_eq_false 117))) (zd (Jx (bnd (bnd rfl (bnd rfl (sK xx5 rfl))) (bnd rfl CL)) rfl zm (za gh5) 166) rfl) rfl⟩
  obtain ⟨X6,hl6,x6,gh6,S6⟩:=S6;obtain ⟨z4',z7',z8'',X',dl',hl',R,xr,gdr,ghr⟩:=Gb q hm sz g2 (b5:=b5) (b9:=b9) j (k+1) (acc3++(gul (lv k).own).map some) X6 dl5 hl6 (nx lv k v) (some (.loc a)) (some 169) z8' 117 (xx5.tr x6) (x6 _ _ gd5) gh6 (by simp at lg ⊢;omega);refine ⟨z4',z7',z8'',X',dl',hl',?_,xr,?_,ghr⟩
  ·rw [Y27,Y0n,vl];refine zM 144 (zR (zd (bnd rfl (bnd rfl (ea X x))) (zd (A1 rfl (bnd (bnd rfl (bnd rfl (sK x rfl))) (bnd rfl CL))) (zd (A2 rfl (d2 rfl (Jo rfl (bnd rfl (bnd rfl dd)) rfl))) (zL (q:=([],(List.range' 0 (lv k).goes).map λ (i:Nat)=>.int (i:Nat))) (Jv (M:=(lv k).goes) (bnd rfl (bnd rfl (sK xx2 rfl))) 117) L3 (Zf 2 S4 (zd (A5 rfl (j6 (q:=([(o,(lv k).own.map .int)],(lv k).own.map .int)) (w6 247 (rdl (xx3 _ _ h3))) (by show ((lv k).own.map D.int).length<=_;simp;omega) GC)) S6))))))) R
  ·rw [gdr,<- hacc,lq];simp only [Y05,Y1g,Y19]
end
section
variable {n:Nat}{H:Hh}{ml mi md mv m:Nat}{N:Nm}{lv:Nat->Lv}{v:Int}
theorem z94 (q:185)(hm:m<=6)(h0:0<m)(sz:∀ k,k<m->(lv k).early.length<=1/\(lv k).parts.length<=3/\(lv k).own.length<=3)(g2:∀ k,k<m->(lv k).goes<=2) :
  ∃ du H',callI defs (n+2) 47 [.loc ml,.loc md,.int v] H=.ok (.tup [.loc du,.int (vl lv m 0 v-3)]) H'/\Ex H H'/\H'[du]?=some (.lst ((ent lv m++none::some (doD (N.dd 0) 215)::rst N lv m 0 v).map eD))/\(ent lv m++none::some (doD (N.dd 0) 215)::rst N lv m 0 v).length<10000:=by
 obtain ⟨as,gl,la,f⟩:=q.gl;have sz1:∀ k,k<m->(lv k).early.length<=1/\(lv k).parts.length<=3:=λ k h=>⟨(sz k h).1,(sz k h).2.1⟩;have sz2:=λ k h=>(sz k h).2;obtain ⟨z4,z5,X1,dl1,L1,x1,g1,ld1⟩:=YM gl f sz1 hm m [] (H++[.lst []]) H.length none none 176 Ex.app zm 176 166;rw [Y19] at g1;have el:∀ j,j<=m->(ent lv j).length<=6*j:=λ j=>by
  induction j with
  | zero=>intro _;exact Y04 _
  | succ j ih =>
   intro hj
   have:=ih 117
   obtain ⟨s1,s2⟩:=sz1 j 117;have fl:∀ l:List Int,(l.flatMap λ p=>[guD (.int p),clD (.int p)]).length=2*l.length:=λ l=>by
    induction l with
    | nil=>rfl
    | cons a r ih=>rw [List.flatMap_cons,Y01,ih];show 2+2*r.length=2*(r.length+1);omega
   have c1:(if (lv j).called then [none] else []:List 183).length<=1:=by split<;>simp
   rw [ent,Y01,Y01,Y01,Y08,Y08,Y08,fl];omega
 have el:=el m 176;obtain ⟨z4',z7,z8,X2,dl2,hl2,L2,x2,gd2,gh2⟩:=Gb q hm sz2 g2 m 0 (ent lv m) (X1++[.lst []]) dl1 X1.length v z4 none none (Y1j _) (x1.tr Ex.app) (za g1) zm 117;obtain ⟨j,hj⟩:∃ j,m=j+1:=⟨m-1,by omega⟩;have lr:=z0l (N:=N) (lv:=lv) (n:=m) j 0 v 117;rw [<- hj] at lr;have eT:ent lv m++none::some (doD (N.dd 0) 215)::rst N lv m 0 v=ent lv m++lq N lv m 0 v++(hb lv m).map some:=by rw [Y05,lr]
 have bl:=QA sz2 m 176;have ql:∀ (j k:Nat) (v:Int),k+j=m->(lq N lv j k v).length<=100*j:=λ j=>by
  induction j with
  | zero=>intro k v _;exact Y04 _
  | succ j ih =>
   intro k v hk;have gl:∀ (g:Nat) (h:163),(gs g h).length=(h.length+1)*g:=λ g h=>by
    induction g with
    | zero=>rfl
    | succ g ih=>rw [gs,Y03,Y01,Y08,ih,Nat.mul_add];omega
   have:=ih (k+1) (nx lv k v) 117
   have b2:=QA sz2 k 117;have b3:=sz2 k 117;have lc:(hcl lv k).length<=6*k+3:=by rw [Qz,Y01,Y08,Y0l];omega
   have:((hcl lv k).length+1)*(lv k).goes<=40*2:=Nat.mul_le_mul 117 (g2 k 117)
   rw [lq,Y03,Y03,Y01,Y01,Y08,Y08,gl];omega
 have ql:=ql m 0 v 117;obtain ⟨a,ea,lva⟩:=f j 117;obtain ⟨p,o,e,h1,h2,h3,h4⟩:=lva.ex;have hd:as.drop j=[a]:=by
  have lt:j<as.length:=by omega
  rw [Y2d lt,List.drop_of_length_le 117];rw [Y0j lt] at ea;rw [Option.some.inj ea]
 have lst:as=as.take j++[a]:=(List.take_append_drop j as).symm.trans (by rw [hd]);have eN:∀ {Y:Hh},Ex H Y->jf (.loc ml) (.int (-1)) Y=.ok (.loc a) Y:=λ {Y} x=>jg (x _ _ gl) (by rw [lst,Y0d];exact VS);have sK:∀ {x:Str}{v:D},zF (lvK p o e (lv j)) (.inr x)=some v->jf (.loc a) 248 X2=.ok v X2:=λ h=>yF (x2 _ _ h1) h;have rv:GO (.loc ml) (H++[.lst []])=.ok ([(ml,as.map .loc)],(as.take m).reverse.map D.loc) (H++[.lst []]):=by
  show (match PI.rd (H++[O.lst []]) ml with | some xs=>Res.ok (([(ml,xs)],xs.reverse):Ck×List D) _ | none=>.no)=_
  rw [rdl (za gl),Y2j 117];simp
 have ln:=(q.mono (x1.tr (Ex.app (B:=[.lst []])))).len;have lT:(ent lv m++lq N lv m 0 v).length<=700:=by rw [Y01];omega
 rw [eT];have goal:∃ du H',Ss.run 182 (w5 4 d_law_due.body) [some (.loc ml),some (.loc md),some (.int (vl lv m 0 v)),some (.loc dl2),z4',z5,some (.loc hl2),z7,z8,none] X2=.rt (.tup [.loc du,.int (vl lv m 0 v-3)]) H'/\Ex X2 H'/\H'[du]?=some (.lst ((ent lv m++lq N lv m 0 v++(hb lv m).map some).map eD)):=by
  have em:(ent lv m++lq N lv m 0 v++(hb lv m).map some).map eD=(ent lv m++lq N lv m 0 v).map eD++hb lv m:=by rw [Y0d,yK]
  rw [em];by_cases c:(lv j).goes > 0
  ·have eh:hb lv m=clo (lv j).own:=by rw [hj,hb,if_pos c,Y0a]
   have C:=VQ gh2 (s:=(lv j).own.length) (by rw [eh];simp);rw [Y2j (by rw [eh];simp)] at C;refine ⟨(X2++[O.lst (hb lv m)]).length,(X2++[O.lst (hb lv m)])++[.lst ((ent lv m++lq N lv m 0 v).map eD++hb lv m)],?_,Ex.app.tr Ex.app,zm⟩;have ol:qS (.loc o) X2=.ok (.int ((lv j).own.length:Nat)) X2:=by rw [len_loc (x2 _ _ h3),Y08]
   exact zd (bnd (bnd (bnd rfl (bnd rfl (eN x2))) (bnd rfl (sK rfl))) ol) (Ze (zj (bnd (bnd rfl (bnd rfl (eN x2))) (bnd rfl (sK rfl))) rfl (gtI (decide_eq_true 117))) (zr (jP (Jx rfl (vcut.trans (bnd rfl (bnd rfl (bnd (qy rfl) C)))) (za gd2) zm (by rw [Y08];omega)) rfl)))
  ·refine ⟨X2.length,X2++[.lst ((ent lv m++lq N lv m 0 v).map eD++hb lv m)],?_,Ex.app,zm⟩;have ol:qS (.loc o) X2=.ok (.int ((lv j).own.length:Nat)) X2:=by rw [len_loc (x2 _ _ h3),Y08]
   exact zd (bnd (bnd (bnd rfl (bnd rfl (eN x2))) (bnd rfl (sK rfl))) ol) (zx (zj (bnd (bnd rfl (bnd rfl (eN x2))) (bnd rfl (sK rfl))) rfl (gtI (decide_eq_false 117))) (zr (jP (Jx rfl rfl gd2 gh2 (by rw [Y08];omega)) rfl)))
 obtain ⟨du,H',R,xr,gr⟩:=goal;refine ⟨du,H',?_,x2.tr xr,gr,by rw [Y01,Y08];omega⟩;rw [zb rfl rfl];exact zi (zd rfl (zL (irev.trans (bnd rfl rv)) L1 (zd rfl (zL (Jv (bnd rfl ln) 117) L2 R))))
end
structure NmOk (N:Nm):Prop where
 ik:∀ k,k<13->PyData.strOk (N.it k)=true
 ii:∀ i j,i<13->j<13->N.it i=N.it j->i=j
 dk:∀ k,k<13->PyData.strOk (N.dd k)=true
 di:∀ i j,i<13->j<13->N.dd i=N.dd j->i=j
 xk:PyData.strOk N.x=true
 sk:PyData.strOk N.s=true
 yk:PyData.strOk N.y=true
 xs:N.x≠N.s
 xy:N.x≠N.y
 sy:N.s≠N.y
structure LvOk (lv:Nat->Lv):Prop where
 nn:∀ k,Nn (lv k).more/\Nn (lv k).en/\Nn (lv k).kept/\Nn (lv k).first/\Nn (lv k).second
 g2:∀ k,(lv k).goes<=2
 sz:∀ k,(lv k).early.length<=1/\(lv k).parts.length<=3/\(lv k).own.length<=3
theorem z3f (f:Nat->Int):LvOk λ k=>jw (f k):=by
 have g:∀ (c:Int) (i:Nat),i<5->Nn ((nbs c 7 5).getD i 0):=λ c i hi=>by
  have l:i<(nbs c 7 5).length:=by rw [yJ];exact hi
  rw [Y17,Y0j l];exact z6v _ (List.getElem_mem l)
 refine ⟨λ k=>⟨g _ 0 123,g _ 1 123,g _ 2 123,g _ 3 123,g _ 4 123⟩,λ k=>?_,λ k=>?_⟩
 ·show (f k/16%3).toNat<=2;omega
 ·show (nbs _ 6 _).length<=1/\(nbs _ 0 _).length<=3/\(nbs _ 3 _).length<=3;rw [yJ,yJ,yJ];omega
section
variable {N:Nm}{lv:Nat->Lv}{v:Int}{n:Nat}
noncomputable def ix (lv:Nat->Lv):Nat->List Nat
 | 0=>[]
 | k+1=>(ix lv k++(if (lv k).called then [k] else []))++[6+k]
theorem z4p:∀ k,(pgI N lv v n k).map Itm.nm=(ix lv k).map N.it
 | 0=>rfl
 | k+1=>by
  rw [pgI,ix,Y0d,Y0d,Y0d,Y0d,z4p k]
  split<;>rfl
theorem z4q:∀ k,k<=6->(ix lv k).Nodup/\∀ i∈ix lv k,i<k\/(6<=i/\i<6+k)
 | 0,_=>⟨Y2l,λ _ h=>nomatch h⟩
 | k+1,hk=>by
  obtain ⟨a,b⟩:=z4q k 117;have m1:∀ i∈ix lv k++(if (lv k).called then [k] else []),i<k+1\/(6<=i/\i<6+k):=λ i hi=>by
   rcases Y0r.mp hi with h | h
   ·rcases b i h with h | h<;>omega
   ·split at h
    ·rw [Y07.mp h];omega
    ·cases h
  refine ⟨Y30.mpr ⟨Y30.mpr ⟨a,by split<;>simp,λ x hx y hy=>?_⟩,by simp,λ x hx y hy=>?_⟩,λ i hi=>?_⟩
  ·split at hy
   ·rw [Y07.mp hy];rcases b x hx with h | h<;>omega
   ·cases hy
  ·rw [Y07.mp hy];rcases m1 x hx with h | h<;>omega
  ·rcases Y0r.mp hi with h | h
   ·rcases m1 i h with h | h<;>omega
   ·rw [Y07.mp h];omega
theorem z0m (h:∀ i j,i<13->j<13->f i=f j->i=j){l:List Nat}(hl:l.Nodup)(hm:∀ i∈l,i<13):(l.map f).Nodup:=by
 rw [List.Nodup,Y1v];exact List.Pairwise.imp_of_mem (λ ha hb hab e=>hab (h _ _ (hm _ ha) (hm _ hb) e)) hl
theorem z6x (o:NmOk N)(hk:k<6):((hcs N lv n k).map (·.1)).Nodup:=by
 have h7:hkk (lv k)<=7:=by unfold hkk;omega
 have e:(hcs N lv n k).map (·.1)=((((List.range' 0 (hkk (lv k))).map (6+·)).take 164++[k])++((List.range' 0 (hkk (lv k))).map (6+·)).drop 164).map N.dd:=by
  unfold hcs;rw [Y0d,Y0d,Y0d,Y0d,List.map_take,List.map_drop,List.map_take,List.map_drop,Y1k,Y1k];rfl
 rw [e];generalize hl:(List.range' 0 (hkk (lv k))).map (6+·)=l;have nl:l.Nodup:=by
  rw [<- hl,List.Nodup,Y1v];exact (List.pairwise_lt_range').imp λ h=>by omega
 have ml:∀ i∈l,6<=i/\i<13:=λ i hi=>by
  rw [<- hl] at hi;obtain ⟨j,hj,rfl⟩:=Y0s.mp hi
  have:=Y3l.mp hj
  omega
 have pm:(l.take 164++[k])++l.drop 164 |>.Perm (k::l):=by
  have:=List.perm_middle (a:=k) (l₁:=l.take 164) (l₂:=l.drop 164)
  rw [List.take_append_drop] at this;rw [Y05];exact this
 refine z0m o.di (pm.nodup_iff.mpr (Y1o.mpr ⟨λ h=>by have:=ml k h;omega,nl⟩)) λ i hi=>?_;rcases Y0g.mp (pm.mem_iff.mp hi) with h | h
 ·omega
 ·exact (ml i h).2
theorem z0n:∀ k,i∈pgI N lv v n k->(∃ j,j<k/\i=hdI N lv n j)\/∃ j,j<k/\(lv j).called=true/\i=.fn (N.it j) (.tup []) (bdyT N lv v j)
 | 0,h=>nomatch h
 | k+1,h=>by
  rw [pgI] at h;rcases Y0r.mp h with h | h
  ·rcases Y0r.mp h with h | h
   ·rcases z0n k h with ⟨j,h1,h2⟩ | ⟨j,h1,h2⟩
    ·exact .inl ⟨j,by omega,h2⟩
    ·exact .inr ⟨j,by omega,h2⟩
   ·split at h
    ·rename_i c;exact .inr ⟨k,by omega,c,Y07.mp h⟩
    ·cases h
  ·exact .inl ⟨k,by omega,Y07.mp h⟩
theorem Gc:∀ k j,j<k->hdI N lv n j∈pgI N lv v n k
 | 0,j,h=>by omega
 | k+1,j,h=>by
  rw [pgI];by_cases e:j=k
  ·rw [e];simp
  ·exact Y0v _ (Y0v _ (Gc k j 117))
theorem z4r:∀ k j,j<k->(lv j).called=true->Itm.fn (N.it j) (.tup []) (bdyT N lv v j)∈pgI N lv v n k
 | 0,j,h,_=>by omega
 | k+1,j,h,c=>by
  rw [pgI];by_cases e:j=k
  ·rw [e] at c ⊢;rw [c];simp
  ·exact Y0v _ (Y0v _ (z4r k j 117 c))
abbrev V5 (N:Nm)(lv:Nat->Lv)(v:Int)(n:Nat):List Itm:=pgI N lv v n n++[Jw N lv v n]
theorem z3g:(hdI N lv n k).cls.length<=9:=by
 have h7:hkk (lv k)<=7:=by unfold hkk;omega
 show ((hcs N lv n k).map _).length<=9;rw [Y08];unfold hcs;simp only [Y01,Y2r,Y3q,Y08,Y3k,Y2n];omega
theorem z0o (o:NmOk N)(hn:n<=6):Its (V5 N lv v n):=by
 obtain ⟨i1,i2⟩:=z4q n hn;refine ⟨?_,λ i hi=>?_,?_,?_⟩
 ·have e:(V5 N lv v n).map Itm.nm=(ix lv n++[12]).map N.it:=by rw [Y0d,z4p,Y0d];rfl
  rw [e];refine z0m o.ii (Y30.mpr ⟨i1,by simp,λ x hx y hy=>?_⟩) λ i hi=>?_
  ·rw [Y07.mp hy];rcases i2 x hx with h | h<;>omega
  ·rcases Y0r.mp hi with h | h
   ·rcases i2 i h with h | h<;>omega
   ·rw [Y07.mp h];decide
 ·rcases Y0r.mp hi with h | h
  ·rcases z0n n h with ⟨j,h1,rfl⟩ | ⟨j,h1,_,rfl⟩
   ·show (((hcs N lv n j).map _).map _).Nodup;rw [Y1k]
    have:=z6x (lv:=lv) (n:=n) o (show j<6 by omega)
    rw [List.Nodup,Y1v] at this ⊢;exact this.imp λ h e=>h (by injection e with _ e;injection e with e _;exact Sum.inr.inj e)
   ·exact Y2l
  ·rw [Y07.mp h];exact Y2l
 ·have:=Qy (N:=N) (lv:=lv) (v:=v) (m:=n) n
  rw [Y01,Y2n];omega
 ·have:∀ k,(j3 (pgI N lv v n k)).length<=9*k:=λ k=>by
   induction k with
   | zero=>exact Y04 _
   | succ k ih =>
    have:=z3g (N:=N) (lv:=lv) (n:=n) (k:=k)
    unfold j3 at ih ⊢;rw [pgI,Y3f,Y3f,Y01,Y01];have e1:((if (lv k).called then [Itm.fn (N.it k) (.tup []) (bdyT N lv v k)] else []).flatMap Itm.cls).length=0:=by split<;>rfl
    have e2:([hdI N lv n k].flatMap Itm.cls).length=(hdI N lv n k).cls.length:=by simp
    omega
  have:=this n
  unfold j3 at this ⊢;rw [Y3f,Y01];have e3:([Jw N lv v n].flatMap Itm.cls).length=0:=rfl;omega
theorem QB:∀ {its:List Itm},(its.map Itm.nm).Nodup->(∀ i∈its,(i.cls.map (·.1)).Nodup)->((j3 its).map (·.1)).Nodup
 | [],_,_=>Y2l
 | i::r,h1,h2=>by
  rw [Y0n,Y1o] at h1;show ((i.cls++j3 r).map (·.1)).Nodup;rw [Y0d];refine Y30.mpr ⟨h2 i Y0c,QB h1.2 λ j hj=>h2 j (Y06 _ hj),λ x hx y hy e=>?_⟩;obtain ⟨a,ha,rfl⟩:=Y0s.mp hx;obtain ⟨b,hb,rfl⟩:=Y0s.mp hy;obtain ⟨j,hj,hb⟩:=Y35.mp hb;obtain ⟨y1,e1⟩:=Qs ha;obtain ⟨y2,e2⟩:=Qs hb;rw [e1,e2] at e;injection e with e _;exact h1.1 (Y0s.mpr ⟨j,hj,(Sum.inr.inj e).symm⟩)
theorem z95 (o:NmOk N)(l:LvOk lv)(hn:n<=6)(e1:C.kvs=tab (V5 N lv v n))(e2:C.cvs=j3 (V5 N lv v n)):Lw C N lv n (bdyT N lv v) (yI N lv n):=by
 have ok:=z0o (lv:=lv) (v:=v) o hn;have nd:=Qt ok;have cd:=QB ok.nd ok.cd;refine ⟨hn,λ k hk=>⟨.str (N.it (6+k)),.tup ((hcs N lv n k).map cD),?_⟩,λ k hk c=>⟨.str (N.it k),?_⟩,λ k hk=>⟨.str (N.dd k),?_⟩,λ k hk=>o.ik k 117,o.xk,o.sk,o.yk,o.xs,o.xy,o.sy,λ k _=>l.nn k,λ k _=>l.g2 k,λ k _=>l.sz k⟩
 ·rw [e1];exact qR nd (Y0s.mpr ⟨hdI N lv n k,Y0v _ (Gc n k hk),rfl⟩)
 ·rw [e1];exact qR nd (Y0s.mpr ⟨_,Y0v _ (z4r n k hk c),rfl⟩)
 ·rw [e2];refine qR cd (Y35.mpr ⟨hdI N lv n k,Y0v _ (Gc n k hk),Y0s.mpr ⟨(N.dd k,[.str N.x,.str N.s,yI N lv n k]),?_,rfl⟩⟩);unfold hcs;simp
end
abbrev dnO (N:Nm):Dn:=⟨N.it 0,N.it 1,N.dd 0,N.x,N.s⟩
abbrev dpI (N:Nm)(v:Int)(mn:Nat):List Itm:=[.fn (N.it 0) (.tup [.str N.x]) (ifT (dnO N) v),.hd (N.it 1) [(N.dd 0,[.str N.x,.str N.s,yl (dnO N)])] (.tup [.str N.y,.str N.s,jv 3]),.fn (N.it 2) (.tup []) (jM (N.it 0) .non [jv (mn:Int)])]
noncomputable def gdl (k:Nat):List D:=(List.range k).map λ i:Nat=>guD (.int ((k:Int)-(i:Int)))
noncomputable def dos (x:Str):Nat->Nat->Int->List D
 | 0,_,_=>[]
 | j+1,k,v=>doD x (.int (v+(k:Nat)))::dos x j (k+1) (v+(k:Nat))
section
variable {N:Nm}{v:Int}{mn:Nat}
theorem QC:∀ (a b:List 183),som (a++b)=som a++som b
 | [],b=>rfl
 | none::a,b=>QC a b
 | some e::a,b=>congrArg (e::·) (QC a b)
theorem QD:∀ (a b:List 183),cnt (a++b)=cnt a+cnt b
 | [],b=>(Y1j _).symm
 | none::a,b=>by rw [Y1g,cnt,cnt,QD a b];omega
 | some e::a,b=>QD a b
theorem Gd:∀ k,som (dsc k)=gdl k
 | 0=>rfl
 | k+1=>by
  rw [dsc,som,som,Gd k];unfold gdl;rw [List.range_succ_eq_map,Y0n,Y1k]
  congr 1
  refine List.map_congr_left λ i _=>?_;show guD _=guD _;rw [show ((k:Int)-(i:Int))=191-((Nat.succ i:Nat):Int) from by omega]
theorem Ge:∀ k,cnt (dsc k)=k
 | 0=>rfl
 | k+1=>by rw [dsc,cnt,cnt,Ge k]
theorem Gf:∀ (j k:Nat) (v:Int),som (clb n j k v)=dos n.d (j+1) (k+1) v/\cnt (clb n j k v)=j+1
 | 0,k,v=>⟨rfl,rfl⟩
 | j+1,k,v=>by
  obtain ⟨a,b⟩:=Gf j (k+1) (v+191);exact ⟨by rw [clb,som,som,a];rfl,by rw [clb,cnt,cnt,b]⟩
theorem z6y:som (T1 n v mn)=dos n.d (mn+1) 0 v/\cnt (T1 n v mn)=mn+1:=by
 cases mn with
 | zero=>exact ⟨by rw [T1,som,som,som,dos,dos,show v+((0:Nat):Int)=v from Y3p v],rfl⟩
 | succ m =>
  obtain ⟨a,b⟩:=Gf m 0 v;refine ⟨?_,by rw [T1,cnt,cnt,b]⟩;show doD n.d 215::som (clb n m 0 v)=doD n.d (.int (v+((0:Nat):Int)))::dos n.d (m+1) (0+1) (v+((0:Nat):Int));rw [a,show v+((0:Nat):Int)=v from Y3p v]
theorem z0p (o:NmOk N):Its (dpI N v mn):=by
 have ne:∀ i j,i<13->j<13->i≠j->N.it i≠N.it j:=λ i j h1 h2 h e=>h (o.ii i j h1 h2 e);refine ⟨?_,λ i hi=>?_,by show (3:Nat)<1000;decide,by show (1:Nat)<100000;decide⟩
 ·show [N.it 0,N.it 1,N.it 2].Nodup;simp [ne 0 1 123 123 123,ne 0 2 123 123 123,ne 1 2 123 123 123]
 ·simp only [Y0g,Y0w,or_false] at hi;rcases hi with rfl | rfl | rfl
  ·exact Y2l
  ·show ([_]:List (List Key)).Nodup;simp
  ·exact Y2l
theorem z96 (o:NmOk N)(hv:Nn v)(hm:mn<=990)(e1:C.kvs=tab (dpI N v mn))(e2:C.cvs=j3 (dpI N v mn)):Dw C (dnO N) v mn:=by
 have ok:=z0p (v:=v) (mn:=mn) o;refine ⟨⟨.str (N.it 0),?_⟩,⟨.str (N.dd 0),?_⟩,o.ik 0 123,o.xk,o.sk,o.xs,hv,hm⟩
 ·rw [e1];exact qR (Qt ok) (Y0s.mpr ⟨_,Y0c,rfl⟩)
 ·rw [e2];refine qR (QB ok.nd ok.cd) ?_;show _∈[_];exact Y07.mpr rfl
end
section
variable {n:Nat}{H:Hh}{ml mi md mv m:Nat}{N:Nm}{lv:Nat->Lv}{c:Int}
theorem YN (q:Ctx X ml mi md mv m N lv):∀ (j k:Nat) (l:163) (v:Int) (z:Option D),l.length+j<=5000->(md<X.length) ->
  ∃ z' v',jb [] (zJ yB λ ρ' h'=>b_law_deep_2.run 204 ρ' h') ((List.range' k j).map λ (i:Nat)=>D.int (i:Nat)) [b0,b1,some (.loc md),b3,b4,some 215,b6,b7,b8,b9,b10,b11,b12,some 227,z,b15] (X++[.lst l])=.nx [b0,b1,some (.loc md),b3,b4,some (.int v'),b6,b7,b8,b9,b10,b11,b12,some 227,z',b15] (X++[.lst (l++dos (N.dd 0) j k v)])
 | 0,k,l,v,z,_,_=>⟨z,v,by rw [dos,Y0a];exact jV⟩
 | j+1,k,l,v,z,hl,hd=>by
  obtain ⟨z',v',e⟩:=YN q j (k+1) (l++[doD (N.dd 0) (.int (v+(k:Nat)))]) (v+(k:Nat)) (some 169) (by rw [Y01];show l.length+1+j<=_;omega) hd;refine ⟨z',v',?_⟩;rw [Y27,Y0n,dos];rw [Y05] at e;have dd:=(q.mono (Ex.app (B:=[.lst l]))).dd (k:=0) 123;have A:=append_at (cl:=callI defs n) (ρ:=[b0,b1,some (.loc md),b3,b4,some (.int (v+(k:Nat))),b6,b7,b8,b9,b10,b11,b12,some 227,some 169,b15]) (oe:=.var 13 139) (ae:=.tup (.cons (.str "do" 139) (.cons (.sub (.var 2 139) (.int 0 139) 139) (.cons (.var 5 139) .nil))) 139) (p1:=139) (p:=139) rfl zm (Jo rfl (bnd rfl (bnd rfl dd)) rfl) zm 117;rw [Y18 _ _ 176,Y0x] at A;exact zM 144 (zR (zd rfl (zU A rfl))) e
end
theorem Gg:PyData.strOk "done"=true:=by decide +kernel
theorem z0q:PyData.strOk "spent"=true:=by decide +kernel
theorem zak (q1:e1.ev cl ρ h=.ok x h1):E.ev cl (.tup (.cons e1 .nil) p) ρ h=.ok (.tup [x]) h1:=bnd (bnd q1 rfl) rfl
theorem z97:E.ev cl (.bin .Pow (.int 10 p1) (.int 17 p2) p3) ρ h=.ok (.int 100000000000000000) h:=rfl
theorem z0r (hx:PyData.strOk x=true):∀ (j k:Nat) (v:Int),∀ d∈dos x j k v,Al d
 | 0,_,_,d,h=>nomatch h
 | j+1,k,v,d,h=>by
  rcases Y0g.mp h with rfl | h
  ·exact .three _ Ys hx
  ·exact z0r hx j _ _ d h
section
variable {n:Nat}{H:Hh}{ml mi md mv m:Nat}{N:Nm}{lv:Nat->Lv}{c:Int}
theorem z98 {M:Nat}{g:Int->D}(hf:∀ k:Nat,f 169 X=.ok (some (g (k:Nat))) X):zZ [] f ((List.range' 0 M).map λ (i:Nat)=>D.int (i:Nat)) [] X=.ok ((List.range M).map λ i:Nat=>g (i:Nat)) X:=by
 have cc:=j5 (c:=[]) (λ _ h=>nomatch h) (λ d=>match d with | .int k=>some (g k) | _=>none) ((List.range' 0 M).map λ (i:Nat)=>D.int (i:Nat)) [] λ z hz=>by
  obtain ⟨k,_,rfl⟩:=Y0s.mp hz;exact hf k
 refine cc.trans ?_;rw [Y19,Y2i,Y3c]
 congr 1
 exact Y2o▸rfl
theorem z6z (q:185)(o:NmOk N):∃ H',callI defs (n+8) 48 [.int c,.loc mi,.loc md,.loc mv] H=.ok (.bl true) H':=by
 have x1:Ex H (H++[.lst [.int (c/16%10),.int (960+c/16%31)]]):=Ex.app;obtain ⟨mn,hm,em⟩:∃ mn:Nat,mn<=990/\jf (.loc H.length) (.int (if (c%16==5) then 1 else 0)) (H++[.lst [.int (c/16%10),.int (960+c/16%31)]])=.ok (.int (mn:Nat)) (H++[.lst [.int (c/16%10),.int (960+c/16%31)]]):=by
  by_cases h:(c%16==5)=true
  ·refine ⟨(960+c/16%31).toNat,by omega,?_⟩;rw [if_pos h,Y1m 117];exact jg zm a1
  ·refine ⟨(c/16%10).toNat,by omega,?_⟩;rw [if_neg h,Y1m 117];exact jg zm a0
 have D4:=λ (ρ:En) (e1 e2:E) (p0:Pos) (h1:e1.ev (callI defs (n+7)) ρ H=.ok (.int (c/16%10)) H) (h2:e2.ev (callI defs (n+7)) ρ H=.ok (.int (960+c/16%31)) H)=>d2 (p0:=p0) h1 h2;generalize hX:H++[O.lst [.int (c/16%10),.int (960+c/16%31)]]=X at x1 em D4;have nv:Nn (c/16%100000000000000000):=⟨Y24 _ 123,Y1p _ 123⟩;generalize hv:c/16%100000000000000000=v at nv;have qX:=q.mono x1;have i0:=qX.it (k:=0) 123;have i1:=qX.it (k:=1) 123;have d0:=qX.dd (k:=0) 123;have un:ZX (.loc mv) X=.tup [.str N.x,.str N.s,.str N.y]:=by
  show (match PI.rd X mv with | some xs=>D.tup xs | none=>.non)=_
  rw [rdl qX.gv]
 have xa:∀ l,Ex X (X++[.lst l]):=λ l=>Ex.app;have i1':=λ l=>(qX.mono (xa l)).it (k:=1) 123;have i2':=λ l=>(qX.mono (xa l)).it (k:=2) 123;have i0':=λ l=>(qX.mono (xa l)).it (k:=0) 123;have d0':=λ l=>(qX.mono (xa l)).dd (k:=0) 123
 let P:List D:=(dpI N v mn).map Itm.d
 have x3:=x1.tr (xa P);have gP:=zm (h:=X) (x:=.lst P);have q3:=q.mono x3;obtain ⟨z',v',L⟩:=YN (n:=n+7) q3 (b0:=some (.int c)) (b1:=some (.loc mi)) (b3:=some (.loc mv)) (b4:=some (.int (mn:Nat))) (b6:=some (.str N.x)) (b7:=some (.str N.s)) (b8:=some (.str N.y)) (b9:=some (WB (N.it 1) (jR N.x) (qJ (jR N.x) (inT (dnO N))))) (b10:=some (ifT (dnO N) v)) (b11:=some (yl (dnO N))) (b12:=some 227) (b15:=none) (mn+1) 0 (gdl mn) v none (by unfold gdl;simp;omega) (by obtain ⟨ws,g,_⟩:=q3.gd;exact zk g);have C3:zZ [] (ja yC (jD [none,some 4] [some (.int c),some (.loc mi),some (.loc md),some (.loc mv),some (.int (mn:Nat)),some 215,some (.str N.x),some (.str N.s),some (.str N.y),some (WB (N.it 1) (jR N.x) (qJ (jR N.x) (inT (dnO N)))),some (ifT (dnO N) v),some (yl (dnO N)),some 227,none,none,none]) (λ ρ' h2=>c_law_deep_3.evC (callI defs (n+7)) ρ' h2) (λ ρ' h2=>e_law_deep_3.ev (callI defs (n+7)) ρ' h2)) ((List.range' 0 mn).map λ (i:Nat)=>D.int (i:Nat)) [] (X++[.lst P])=.ok (gdl mn) (X++[.lst P]):=z98 (g:=λ k=>guD (.int ((mn:Int)-k))) λ k=>ju rfl rfl rfl;generalize hX3:X++[O.lst P]=X3 at x3 gP q3 L C3;have C1:∀ ρ:En,zZ [] (ja yA (jD [none] ρ) (λ ρ' h2=>c_law_deep_1.evC (callI defs (n+7)) ρ' h2) (λ ρ' h2=>e_law_deep_1.ev (callI defs (n+7)) ρ' h2)) ((List.range' 0 mn).map λ (i:Nat)=>D.int (i:Nat)) [] (X3++[.lst 186])=.ok (dcl mn) (X3++[.lst 186]):=λ ρ=>z98 (g:=λ k=>clD (.int (k+1))) λ k=>ju rfl rfl rfl;have g4:=zm (h:=X3) (x:=.lst 186);have x4:Ex X3 (X3++[.lst 186]):=Ex.app;generalize X3++[O.lst 186]=X4 at L C1 g4 x4;have g5:=zm (h:=X4++[.lst (dcl mn)]) (x:=.lst (186++dcl mn));have x5:Ex X4 ((X4++[.lst (dcl mn)])++[.lst (186++dcl mn)]):=Ex.app.tr Ex.app;have dl:∀ (j k:Nat) (v:Int),(dos (N.dd 0) j k v).length=j:=λ j=>by
  induction j with
  | zero=>intro k v;rfl
  | succ j ih=>intro k v;rw [dos,Y03,ih]
 have A5:=λ (ρ:En) (e2:E) (p0 p1:Pos) (h3:ρ[13]?=some (some (.loc X3.length))) (h:e2.ev (callI defs (n+7)) ρ X4=.ok (.loc X4.length) (X4++[.lst (dcl mn)]))=>Jx (p:=p0) (e1:=.var 13 p1) (show E.ev (callI defs (n+7)) (.var 13 p1) ρ X4=.ok (.loc X3.length) X4 by rw [wv,h3]) h (za g4) zm (by rw [Y01,dl];unfold gdl dcl;simp;omega);generalize hX5:(X4++[O.lst (dcl mn)])++[O.lst (186++dcl mn)]=X5 at g5 x5 A5;have i2:=(q3.mono (x4.tr x5)).it (k:=2) 123;have gP5:=x5 _ _ (x4 _ _ gP);have ga:=zm (h:=X5++[.lst []]) (x:=.lst [.int 7]);have gn:((X5++[O.lst []])++[O.lst [.int 7]])[X5.length]?=some (.lst []):=za zm;have st:=z6y (v:=v) (mn:=mn) (n:=dnO N);have eT:som (none::(dsc mn++T1 (dnO N) v mn))=gdl mn++dos (N.dd 0) (mn+1) 0 v:=by rw [som,QC,Gd,st.1]
 have eC:cnt (none::(dsc mn++T1 (dnO N) v mn))=2*mn+2:=by rw [cnt,QD,Ge,st.2];omega
 have lT:∀ T:List 183,T.length=cnt T+(som T).length:=λ T=>by
  induction T with
  | nil=>rfl
  | cons a r ih=>cases a<;>simp only [cnt,som,Y03]<;>omega
 obtain ⟨Hf,rr,er,gr,old⟩:=z8u (n:=n) (its:=dpI N v mn) (x:=N.it 2) (bd:=2000) (T:=none::(dsc mn++T1 (dnO N) v mn)) (N:=dnO N) (mn:=mn) (z0p o) (by intro h;exact absurd h (by show ([_]:List (List Key×D))≠[];exact List.cons_ne_nil _ _)) 133 gn ga (by rw [lT,eC,eT,Y01,dl];unfold gdl;simp;omega) (by rw [eC];omega) λ C X' e0 e1 e2 qs=>z0e (z96 o nv hm e1 e2) qs;rw [eT,eC] at *
 have gfin:Hf[(X4++[O.lst (dcl mn)]).length]?=some (.lst (186++dcl mn)):=old _ _ (za (za g5));have al:∀ d∈186++dcl mn,Al d:=λ d hd=>by
  rcases Y0r.mp hd with h | h
  ·rcases Y0r.mp h with h | h
   ·obtain ⟨k,_,rfl⟩:=Y0s.mp h;exact .two _ qH
   ·exact z0r (o.dk 0 123) _ _ _ d h
  ·obtain ⟨k,_,rfl⟩:=Y0s.mp h;exact .two _ zY
 have R:=G3 (n:=n+4) (H:=Hf) (e:=.tup [.str "done",.int (7+min (mn:Int) 1)]) (.two _ Gg) (u:=((2*mn+2:Nat):Int)) al gr gfin;have sq:jY 227 X5=some P:=rdl gP5;have em2:(if (1:Int)<(mn:Int) then (1:Int) else (mn:Int))=min (mn:Int) 1:=by split<;>omega
 have eu:2*(mn:Int)+2=((2*mn+2:Nat):Int):=by omega
 have rn:∀ {ρ:En}{Y:Hh}{p0 p1 p2:Pos},ρ[4]?=some (some (.int (mn:Nat)))->I.ev (callI defs (n+7)) (.rng (.var 4 p0) p1 p2) ρ Y=.ok ([],(List.range' 0 mn).map λ (i:Nat)=>.int (i:Nat)) Y:=λ {ρ Y p0 p1 p2} h=>Jv (by rw [wv,h]) 117;have ln:((List.range' 0 mn).map λ (i:Nat)=>D.int (i:Nat)).length<=1000000:=by simp;omega
 refine ⟨Hf,?_⟩;rw [zb (d:=yi) rfl rfl];refine zi (zd (d:=.int (mn:Nat)) (h':=X) (bnd (D4 _ _ _ _ (bnd 197 219) (bnd rfl (bnd (bnd 197 219) rfl))) (bnd (vc1.trans (bnd (bnd (bnd rfl 219) (bnd rfl eqI)) rfl)) em))
  (zd (d:=.int v) (h':=X) (by rw [<- hv];exact bnd 197 (bnd z97 mdk)) (UI (ρ':=[some (.int c),some (.loc mi),some (.loc md),some (.loc mv),some (.int (mn:Nat)),some 215,some (.str N.x),some (.str N.s),some (.str N.y),none,none,none,none,none,none,none]) rfl (by rw [un];rfl)
  (zd (d:=inT (dnO N)) (h':=X) (wZ rfl (bnd rfl (bnd rfl i0)) rfl rfl)
  (zd (d:=WB (N.it 1) (jR N.x) (qJ (jR N.x) (inT (dnO N)))) (h':=X) (wZ rfl (bnd rfl (bnd rfl i1)) rfl rfl)
  (zd (d:=ifT (dnO N) v) (h':=X) (wZ rfl rfl rfl (Jo rfl (bnd rfl (bnd rfl d0)) rfl))
  (zd (d:=yl (dnO N)) (h':=X) (wZ rfl rfl (Jo rfl (bnd rfl (bnd rfl d0)) rfl) rfl)
  (zd (d:=.loc X.length) (Yz (z3e rfl (bnd rfl (bnd rfl i0)) rfl rfl rfl))
  (zU (apL rfl (wZ rfl (bnd rfl (bnd rfl (i1' _))) (zak (wZ (bnd rfl (bnd rfl (d0' _))) rfl rfl rfl)) rfl) 133)
  (zU (d:=.non) (h':=X3) (by rw [<- hX3];exact apL rfl (z3e rfl (bnd rfl (bnd rfl (i2' _))) rfl rfl (wZ rfl (bnd rfl (bnd rfl (i0' _))) rfl rfl)) 133) ?_))))))))))
 refine zd (d:=.loc X3.length) (h':=X3++[O.lst (gdl mn)]) (j6 (q:=([],(List.range' 0 mn).map λ (i:Nat)=>.int (i:Nat))) (rn rfl) ln C3) (zL (q:=([],(List.range' 0 (mn+1)).map λ (i:Nat)=>.int (i:Nat))) (Jv (M:=mn+1) rfl 117) L (zd (A5 _ _ _ _ rfl (j6 (q:=([],(List.range' 0 mn).map λ (i:Nat)=>.int (i:Nat))) (rn rfl) ln (C1 _))) ?_));refine zd (bnd (vtupE.trans (bnd rfl (by rw [sq]))) (bnd (bnd (bnd rfl (bnd rfl i2)) (bnd (bnd rfl (bnd (bnd (Yz rfl) rfl) rfl)) rfl)) er)) (zr (bnd rfl (bnd (bnd (jP rfl (bnd rfl (bnd (vmin2.trans (bnd rfl (bnd rfl (show Res.ok (D.int (if (1:Int)<(mn:Int) then (1:Int) else (mn:Int))) Hf=.ok (.int (min (mn:Int) 1)) Hf by rw [em2])))) rfl))) (bnd (bnd rfl (bnd (bnd (bnd (bnd rfl (bnd rfl (mlk 123 (mlt 117)))) (bnd rfl (show qw .Add (.int (2*(mn:Int))) (.int 2) Hf=.ok (.int ((2*mn+2:Nat):Int)) Hf by rw [<- eu];rfl))) rfl) rfl)) rfl)) R)))
end
noncomputable def AlT (T:List 183):Prop:=∀ e,some e∈T->Al e
theorem AlT.app {a b:List 183}(h:AlT a)(h2:AlT b):AlT (a++b):=λ e he=>(Y0r.mp he).elim (h e) (h2 e)
theorem AlT.map {l:163}(h:∀ d∈l,Al d):AlT (l.map some):=λ e he=>by
 obtain ⟨d,hd,e1⟩:=Y0s.mp he;injection e1 with e1;rw [<- e1];exact h d hd
theorem AlT.non {T:List 183}(h:AlT T):AlT (none::T):=λ e he=>by
 rcases Y0g.mp he with h1 | h1
 ·cases h1
 ·exact h e h1
theorem AlT.som (h1:Al d)(h:AlT T):AlT (some d::T):=λ e he=>by
 rcases Y0g.mp he with h2 | h2
 ·cases h2;exact h1
 ·exact h e h2
theorem AlT.nil:AlT []:=λ _ h=>nomatch h
theorem QE {l:List Int}:∀ d∈clo l,Al d:=λ d h=>by obtain ⟨k,_,rfl⟩:=Y0s.mp h;exact .two _ zY
theorem z0s {l:List Int}:∀ d∈gul l,Al d:=λ d h=>by obtain ⟨k,_,rfl⟩:=Y0s.mp h;exact .two _ qH
section
variable {N:Nm}{lv:Nat->Lv}
theorem V6:∀ k,∀ d∈hcl lv k,Al d
 | 0,d,h=>QE d h
 | k+1,d,h=>by
  rw [hcl] at h;rcases Y0r.mp h with h | h
  ·exact QE d h
  ·rcases Y0r.mp h with h | h
   ·split at h
    ·cases h
    ·exact V6 k d h
   ·exact QE d h
theorem z0t:∀ k,AlT (ent lv k)
 | 0=>.nil
 | k+1=>by
  rw [ent];refine .app (by split;exact .non .nil;exact .nil) (.app (.map z0s) (.app (.map λ d h=>?_) (z0t k)));obtain ⟨p,_,h⟩:=Y35.mp h;simp only [Y0g,Y0w,or_false] at h;rcases h with rfl | rfl
  ·exact .two _ qH
  ·exact .two _ zY
theorem z4s {h:163}(a:∀ d∈h,Al d):∀ g,AlT (gs g h)
 | 0=>.nil
 | g+1=>.non (.app (.map a) (z4s a g))
theorem z0u (o:NmOk N):∀ (j k:Nat) (v:Int),j+k<=12->AlT (rst N lv j k v)
 | 0,_,_,_=>.nil
 | j+1,k,v,hj=>by
  rw [rst];refine .app (z4s (V6 k) _) (.app (.map z0s) ?_)
  split
  ·refine .map λ d h=>?_;rcases Y0r.mp h with h | h
   ·exact QE d h
   ·split at h
    ·cases h
    ·exact V6 k d h
  ·exact .non (.som (.three _ Ys (o.dk _ 117)) (z0u o j _ _ 117))
end
theorem V7 (hf:Al fin):∀ (T:List 183) (u:Int) (rc:163),AlT T->(∀ d∈rc,Al d)->Al (wY bd fin T u rc).1/\∀ d∈(wY bd fin T u rc).2.1,Al d
 | [],u,rc,_,h=>⟨hf,h⟩
 | none::T,u,rc,a,h=>by
  rw [wY]
  split
  ·exact V7 hf T _ rc (λ e he=>a e (Y06 _ he)) h
  ·exact ⟨.one z0q,h⟩
 | some e::T,u,rc,a,h=>V7 hf T u (rc++[e]) (λ e he=>a e (Y06 _ he)) λ d hd=>by
  rcases Y0r.mp hd with hd | hd
  ·exact h d hd
  ·rw [Y07.mp hd];exact a e Y0c
section
variable {cl:136}{ρ ρ':En}{h h' h2:Hh}
theorem z70 (hs:stay ck h)(hf:f x ρ h=.bk ρ' h'):jb ck f (x::l) ρ h=.nx ρ' h':=by
 rw [jb,if_pos hs,hf]
theorem z71 (hc:c.evT cl ρ h=.ok true h')(ha:a.run cl ρ h'=.bk ρ' h2):Ss.run cl (.cons (.iff c a b p) r) ρ h=.bk ρ' h2:=by rw [BS hc,ha];rfl
end
section
variable {X:Hh}{bd:Int}{fin:D}
theorem Jy {cl:136}{ck:Ck}(st:∀ l,stay ck (X++[.lst l])){b0 b1 b2 b3 b4 b5 b6 b7 b9 b10:Option D}:∀ (T:List 183) (u:Int) (rc:163) (z:Option D),AlT T->u<=bd->rc.length+T.length<100000 ->
  ∃ z',jb ck (zJ VH λ ρ' h'=>b_law_1.run cl ρ' h') (T.map eD) [b0,b1,b2,b3,b4,b5,b6,b7,some (.int bd),b9,b10,some 227,some (.int u),some fin,z] (X++[.lst rc])=.nx [b0,b1,b2,b3,b4,b5,b6,b7,some (.int bd),b9,b10,some 227,some (.int (wY bd fin T u rc).2.2),some (wY bd fin T u rc).1,z'] (X++[.lst (wY bd fin T u rc).2.1])
 | [],u,rc,z,_,_,_=>⟨z,if_pos (st rc)⟩
 | none::T,u,rc,z,a,hu,hl=>by
  rw [Y03] at hl;rw [wY];by_cases c:u<bd
  ·obtain ⟨z',e⟩:=Jy st T (u+1) rc (some .non) (λ e he=>a e (Y06 _ he)) 117 117;rw [if_pos c];exact ⟨z',zM (st rc) (zR (zx (Jc rfl (zj rfl rfl (eqI.trans (by rw [beq_eq_false_iff_ne.mpr 117])))) (zK rfl (zd rfl rfl) rfl))) e⟩
  ·rw [if_neg c];exact ⟨some .non,z70 (st rc) (show Ss.run cl b_law_1 _ _=_ from z71 (Jc rfl (zj rfl rfl (eqI.trans (by rw [show (u==bd)=true from by rw [show u=bd by omega];exact beq_self_eq_true _])))) (zd rfl rfl))⟩
 | some e::T,u,rc,z,a,hu,hl=>by
  rw [Y03] at hl;have ae:=a e Y0c;obtain ⟨z',r⟩:=Jy st T u (rc++[e]) (some e) (λ e he=>a e (Y06 _ he)) hu (by rw [Y01];show rc.length+1+_<_;omega);obtain ⟨l,rfl⟩:∃ l,e=.tup l:=by cases ae<;>exact 150
  have A:=append_at (cl:=cl) (ρ:=[b0,b1,b2,b3,b4,b5,b6,b7,some (.int bd),b9,b10,some 227,some (.int u),some fin,some (.tup l)]) (oe:=.var 11 139) (ae:=.var 14 139) (p1:=139) (p:=139) (X:=X++[.lst rc]) (X1:=X++[.lst rc]) (X2:=X++[.lst rc]) (n:=X.length) (v:=.tup l) rfl zm rfl zm 117;rw [Y18 _ _ 176,Y0x] at A;exact ⟨z',zM (st rc) (zR (zx (Q4 rfl) (j0 rfl (zU A rfl) rfl))) r⟩
end
section
variable {n:Nat}{H:Hh}{ns:List Int}
noncomputable def cel (ns:List Int)(k:Nat):Int:=ns.getD k 0
theorem z4t (k:Nat):callI defs (n+1) 34 [.fl (ns.map .int),.int (k:Nat)] H=.ok (.int (cel ns k)) H:=by
 rw [zb rfl rfl];have c:∀ {p1 p2 p3 p4 p5:Pos},E.evT 204 (.cmp .Lt (.var 1 p1) (.len (.var 0 p2) p3 p4) p5) [some (.fl (ns.map .int)),some 169] H=.ok (decide ((k:Int)<((ns.map D.int).length:Nat))) H:=zj rfl rfl rfl;unfold cel;rw [Y17];by_cases h:k<ns.length
 ·rw [Y0j h];refine zi (Ze ?_ (zr (bnd rfl (bnd rfl (show (match atI (ns.map D.int) (k:Int) with | some d=>Res.ok d H | none=>.no)=_ by rw [atk (by rw [Y0u,Y0j h];rfl)];rfl)))))
  exact c.trans (by rw [decide_eq_true (by rw [Y08];omega)])
 ·rw [List.getElem?_eq_none 117];refine zi (zx ?_ (zr rfl));exact c.trans (by rw [decide_eq_false (by rw [Y08];omega)])
theorem Gh {lv:Nat->Lv}(hf:∀ (k:Nat) (X:Hh),∃ J a,f 169 X=.ok (some (.loc a)) (X++J)/\LvAt (X++J) a (lv k)):∀ (j k:Nat) (acc:163) (X:Hh),∃ (as:List Nat) (X':Hh),zZ [] f ((List.range' k j).map λ (i:Nat)=>D.int (i:Nat)) acc X=.ok (acc++as.map .loc) X'/\Ex X X'/\as.length=j/\∀ i,i<j->∃ a,as[i]?=some a/\LvAt X' a (lv (k+i))
 | 0,k,acc,X=>⟨[],X,by simp [zZ,stay],Ex.rfl',rfl,λ i h=>by omega⟩
 | j+1,k,acc,X=>by
  obtain ⟨J,a,e,la⟩:=hf k X;obtain ⟨as,X',e2,x2,l2,f2⟩:=Gh hf j (k+1) (acc++[.loc a]) (X++J);refine ⟨a::as,X',?_,Ex.app.tr x2,by rw [Y03,l2],λ i hi=>?_⟩
  ·rw [Y27,Y0n];unfold zZ;rw [if_pos (show stay [] X from λ _ h=>nomatch h),e,bind_ok,addO_some,e2,Y05];rfl
  ·cases i with
   | zero=>exact ⟨a,rfl,la.mono x2⟩
   | succ i =>
    obtain ⟨b,h1,h2⟩:=f2 i 117;exact ⟨b,h1,by rw [show k+(i+1)=k+1+i from by omega];exact h2⟩
end
theorem QF {ws:XY}{M:Nat}(l:ws.length=M)(s:∀ x∈ws,PyData.strOk x=true)(d:ws.Nodup):(∀ k,k<M->PyData.strOk (ws.getD k "")=true)/\(∀ i j,i<M->j<M->ws.getD i ""=ws.getD j ""->i=j)/\∀ k,k<M->ws[k]?=some (ws.getD k ""):=by
 have g:∀ k (h:k<M),ws.getD k ""=ws[k]' 117:=λ k h=>by rw [Y17,Y0j 117];rfl
 have p:=List.pairwise_iff_getElem.mp d;refine ⟨λ k h=>by rw [g k h];exact s _ (List.getElem_mem _),λ i j hi hj e=>?_,λ k h=>by rw [g k h,Y0j 117]⟩;rw [g i hi,g j hj] at e;rcases Nat.lt_trichotomy i j with h | h | h
 ·exact absurd e (p i j 117 117 h)
 ·exact h
 ·exact absurd e.symm (p j i 117 117 h)
theorem three:∀ {vs:XY},vs.length=3->vs.map D.str=[.str (vs.getD 0 ""),.str (vs.getD 1 ""),.str (vs.getD 2 "")]
 | [_,_,_],_=>rfl
section
variable {n:Nat}{ns:List Int}
theorem z3h:∃ h',callI defs (n+9) 49 [.fl (ns.map .int)] []=.ok (.bl true) h':=by
 obtain ⟨M,eM⟩:∃ M:Nat,(M:Int)=1+cel ns 0%6:=⟨(1+cel ns 0%6).toNat,by omega⟩;have M1:0<M:=by omega
 have M6:M<=6:=by omega
 let lv:Nat->Lv:=λ k=>jw (cel ns (4+k))
 have lok:LvOk lv:=z3f _;obtain ⟨as,X1,C1,x1,l1,f1⟩:=Gh (f:=ja Q8 (jD [none,some 0] [some (.fl (ns.map .int)),some (.int (cel ns 0)),none,none,none,none,none,none,none,none,none,none,none,none,none]) (λ ρ' h2=>c_law_2.evC (callI defs (n+8)) ρ' h2) (λ ρ' h2=>e_law_2.ev (callI defs (n+8)) ρ' h2)) (λ k X=>by
  obtain ⟨J,e⟩:=z3d;have ce:=z4t (n:=n+7) (ns:=ns) (H:=X) (4+k);rw [show ((4+k:Nat):Int)=4+(k:Int) from by omega] at ce;exact ⟨_,_,ju rfl rfl (bnd (bnd rfl (bnd rfl ce)) (bnd rfl e)),⟨_,_,_,Jn 0 rfl,Jn 1 rfl,Jn 2 rfl,Jn 3 rfl⟩⟩) M 0 [] []
 rw [Y19] at C1;have gl:=zm (h:=X1) (x:=.lst (as.map .loc));have f1:∀ i,i<M->∃ a,as[i]?=some a/\LvAt (X1++[.lst (as.map .loc)]) a (lv i):=λ i hi=>by
  obtain ⟨a,h1,h2⟩:=f1 i hi;rw [Y1j] at h2;exact ⟨a,h1,h2.mono Ex.app⟩
 have S2:=λ (ρ:En) (it:I) (hi:it.ev (callI defs (n+8)) ρ []=.ok ([],(List.range' 0 M).map λ (i:Nat)=>.int (i:Nat)) []) (hc:jD [none,some 0] ρ=jD [none,some 0] [some (.fl (ns.map .int)),some (.int (cel ns 0)),none,none,none,none,none,none,none,none,none,none,none,none,none]) (p0:Pos)=>j6 (p:=p0) (tg:=Q8) (ct:=c_law_2) (ns:=["_law_k","_law_script"]) (cap:=[none,some 0]) (sc:=VI) (xs:=as.map .loc) (h2:=X1) hi (by show ((List.range' 0 M).map λ (i:Nat)=>D.int (i:Nat)).length<=_;simp;omega) (by rw [hc];exact C1);generalize hX2:X1++[O.lst (as.map .loc)]=X2 at gl f1 S2;obtain ⟨J3,ws,mi,en3,g3,l3,s3,d3⟩:=(Qw (n:=n+7) (c:=cel ns 1) (H:=X2) (M:=13) 123).ex;have x3:Ex X2 (X2++J3):=Ex.app;generalize X2++J3=X3 at en3 g3 x3;obtain ⟨J4,ds,md,en4,g4,l4,s4,d4⟩:=(Qw (n:=n+7) (c:=cel ns 2) (H:=X3) (M:=13) 123).ex;have x4:Ex X3 (X3++J4):=Ex.app;generalize X3++J4=X4 at en4 g4 x4;obtain ⟨J6,vs,mv,en6,g6,l6,s6,d6⟩:=(Qw (n:=n+7) (c:=cel ns 3) (H:=X4) (M:=3) 123).ex;have x6:Ex X4 (X4++J6):=Ex.app;generalize X4++J6=X6 at en6 g6 x6;obtain ⟨w1,w2,w3⟩:=QF l3 s3 d3;obtain ⟨e1,e2,e3⟩:=QF l4 s4 d4;obtain ⟨u1,u2,u3⟩:=QF l6 s6 d6
 let N:Nm:=⟨λ k=>ws.getD k "",λ k=>ds.getD k "",vs.getD 0 "",vs.getD 1 "",vs.getD 2 ""⟩
 have nok:NmOk N:=⟨w1,w2,e1,e2,u1 0 123,u1 1 123,u1 2 123,λ e=>absurd (u2 0 1 123 123 e) 123,λ e=>absurd (u2 0 2 123 123 e) 123,λ e=>absurd (u2 1 2 123 123 e) 123⟩;have ev:vs.map D.str=[.str N.x,.str N.s,.str N.y]:=three l6;have q:Ctx X6 X1.length mi md mv M N lv:=⟨⟨as,x6 _ _ (x4 _ _ (x3 _ _ gl)),l1,λ k hk=>by
   obtain ⟨a,h1,h2⟩:=f1 k hk;exact ⟨a,h1,((h2.mono x3).mono x4).mono x6⟩⟩,⟨ws,x6 _ _ (x4 _ _ g3),w3⟩,⟨ds,x6 _ _ g4,e3⟩,by rw [g6,ev]⟩
 have nv:Nn (cel ns 0/6%100000000000000000):=⟨Y24 _ 123,Y1p _ 123⟩;generalize hv:cel ns 0/6%100000000000000000=v at nv;have ce:=λ (k:Nat) (H:Hh)=>z4t (n:=n+7) (ns:=ns) (H:=H) k;have HEAD:∀ {o:RS},Ss.run (callI defs (n+8)) (w5 6 d_law.body) [some (.fl (ns.map .int)),some (.int (cel ns 0)),some (.loc X1.length),some (.loc mi),some (.loc md),some 215,some (.loc mv),none,none,none,none,none,none,none,none] X6=o->Ss.run (callI defs (n+8)) d_law.body [some (.fl (ns.map .int)),none,none,none,none,none,none,none,none,none,none,none,none,none,none] []=o:=λ {o} k =>
  zd (bnd rfl (bnd rfl (ce 0 _))) (zd (S2 _ _ (Jv (M:=M) (by rw [eM];exact bnd rfl (bnd (bnd rfl 219) rfl)) 117) rfl _) (zd (bnd (bnd rfl (bnd rfl (ce 1 _))) (bnd rfl en3)) (zd (bnd (bnd rfl (bnd rfl (ce 2 _))) (bnd rfl en4)) (zd (d:=.int v) (h':=X4) (by rw [<- hv];exact bnd 197 (bnd z97 mdk)) (zd (bnd (bnd rfl (bnd rfl (ce 3 _))) (bnd rfl en6)) k)))))
 rw [zb (d:=d_law) rfl rfl];have c10:∀ b,((cel ns 10/64%4)==1)=b->∀ {ρ:En}{p0 p1 p2 p3 p4 p5 p6 p7 p8 p9:Pos},ρ[0]?=some (some (.fl (ns.map .int)))->E.evT (callI defs (n+8)) (.cmp .Eq (.bin .Mod (.bin .FloorDiv (.call 34 (.var 0 p0) (.cons (.int 10 p1) .nil) p2 p3) (.int 64 p4) p5) (.int 4 p6) p7) (.int 1 p8) p9) ρ X6=.ok b X6:=λ b hb {ρ p0 p1 p2 p3 p4 p5 p6 p7 p8 p9} h=>zj (bnd (bnd (bnd (x:=.fl (ns.map .int)) (h:=X6) (by rw [wv,h]) (bnd rfl (ce 10 _))) (bnd rfl fdk)) 219) rfl (eqI.trans (by rw [hb]));by_cases c:((cel ns 10/64%4)==1)=true
 ·obtain ⟨H',e⟩:=z6z (n:=n) (c:=cel ns 4) q nok;exact ⟨H',zi (HEAD (Ze (c10 _ c rfl) (zr (bnd (bnd rfl (bnd rfl (ce 4 _))) (bnd rfl e)))))⟩
 ·
  have c:=Y3m.mpr c;obtain ⟨X7,en7,x7⟩:=Ol (n:=n+4) (v:=v) q M6 λ k _=>⟨(lok.nn k).2.2.1,(lok.nn k).2.1⟩;have g8:=zm (h:=X7) (x:=.lst [.int 2000,.int (cel ns 10/2%32)]);obtain ⟨bd,b0,b1,e8⟩:∃ bd:Int,0<=bd/\bd<=2000/\jf (.loc X7.length) (.int (cel ns 10%2)) (X7++[.lst [.int 2000,.int (cel ns 10/2%32)]])=.ok (.int bd) (X7++[.lst [.int 2000,.int (cel ns 10/2%32)]]):=by
   by_cases h:cel ns 10%2=0
   ·exact ⟨2000,by decide,by decide,by rw [h];exact jg g8 a0⟩
   ·exact ⟨cel ns 10/2%32,by omega,by omega,by rw [show cel ns 10%2=1 by omega];exact jg g8 a1⟩
  have x8:Ex X7 (X7++[.lst [.int 2000,.int (cel ns 10/2%32)]]):=Ex.app;have D8:=λ (ρ:En) (e1 e2:E) (p0:Pos) (h1:e1.ev (callI defs (n+8)) ρ X7=.ok (.int 2000) X7) (h2:e2.ev (callI defs (n+8)) ρ X7=.ok (.int (cel ns 10/2%32)) X7)=>d2 (p0:=p0) h1 h2;generalize hX8:X7++[O.lst [.int 2000,.int (cel ns 10/2%32)]]=X8 at g8 e8 x8 D8;have q8:=(q.mono x7).mono x8;obtain ⟨du,X9,en9,x9,g9,lT⟩:=z94 (n:=n+6) (v:=v) q8 M6 M1 (λ k _=>lok.sz k) (λ k _=>lok.g2 k);have alT:AlT (ent lv M++none::some (doD (N.dd 0) 215)::rst N lv M 0 v):=.app (z0t M) (.non (.som (.three _ Ys (nok.dk 0 123)) (z0u nok M 0 v 117)));have RUN:=λ (H:Hh) (a b:Nat) (ga:H[a]?=some (.lst [])) (gb:H[b]?=some (.lst []))=>z8t (n:=n+2) (H:=H) (m:=a) (ma:=b) (its:=V5 N lv v M) (x:=N.it 12) (bd:=bd) (fin:=.tup [.str "done",.int (vl lv M 0 v-3)]) (T:=ent lv M++none::some (doD (N.dd 0) 215)::rst N lv M 0 v) (z0o nok M6) (λ h=>by
    have:(([.inr (N.it (6+0)),.inr (N.dd 0)]:List Key),D.tup [.str (N.dd 0),.str N.x,.str N.s,yI N lv M 0])∈j3 (V5 N lv v M):=Y35.mpr ⟨hdI N lv M 0,Y0v _ (Gc M 0 M1),Y0s.mpr ⟨(N.dd 0,[.str N.x,.str N.s,yI N lv M 0]),by unfold hcs;simp,rfl⟩⟩
    rw [h] at this;cases this) (Y0q _ Y0c) ga gb 117 λ C X F h0 h1 h2 qs kk=>z0c (z95 nok lok M6 h1 h2) M1 nv qs kk
  generalize hT:ent lv M++none::some (doD (N.dd 0) 215)::rst N lv M 0 v=T at g9 lT alT RUN;generalize hfin:D.tup [.str "done",.int (vl lv M 0 v-3)]=fin at RUN;have alf:Al fin:=by rw [<- hfin];exact .two _ Gg
  obtain ⟨z',L⟩:=Jy (cl:=callI defs (n+8)) (X:=X9) (bd:=bd) (fin:=fin) (ck:=[(du,T.map eD)]) (λ l p hp=>by rw [Y07.mp hp];exact rdl (za g9)) (b0:=some (.fl (ns.map .int))) (b1:=some (.int (cel ns 0))) (b2:=some (.loc X1.length)) (b3:=some (.loc mi)) (b4:=some (.loc md)) (b5:=some 215) (b6:=some (.loc mv)) (b7:=some (.tup ((V5 N lv v M).map Itm.d))) (b9:=some (.loc du)) (b10:=some (.int (vl lv M 0 v-3))) T 0 [] none alT b0 (by rw [Y1x];omega);obtain ⟨al1,al2⟩:=V7 (bd:=bd) alf T 0 [] alT (λ _ h=>nomatch h);have g10:=zm (h:=X9) (x:=.lst (wY bd fin T 0 []).2.1);generalize hX10:X9++[O.lst (wY bd fin T 0 []).2.1]=X10 at L g10;have gA:((X10++[O.lst []])++[O.lst []])[X10.length]?=some (.lst []):=za zm;obtain ⟨Hf,rr,er,gr,old⟩:=RUN ((X10++[O.lst []])++[O.lst []]) X10.length (X10++[O.lst []]).length gA zm;generalize wY bd fin T 0 []=o at L al1 al2 g10 er gr;have R:=G3 (n:=n+5) (H:=Hf) al1 (u:=o.2.2) al2 gr (old _ _ (za (za g10)));have i12:=(q8.mono (x9.tr (show Ex X9 X10 from by rw [<- hX10];exact Ex.app))).it (k:=12) 123;refine ⟨Hf,zi (HEAD (zx (c10 _ c rfl) (zd (bnd rfl (bnd rfl en7)) (zd (d:=.int bd) (h':=X8) (bnd (D8 _ _ _ _ rfl (bnd (bnd (bnd rfl (bnd rfl (ce 10 _))) (bnd rfl fdk)) 219)) (bnd (bnd (bnd rfl (bnd rfl (ce 10 _))) 219) e8)) (UI (bnd rfl (bnd rfl en9)) rfl ?_)))))⟩;refine zd (d:=.loc X9.length) (h':=X9++[O.lst []]) rfl (zd (d:=.int 0) rfl (zd (d:=fin) (by rw [<- hfin];exact jP rfl rfl) (zL (w6 rfl (rdl (za g9))) L (zr (bnd (bnd rfl (bnd (bnd (bnd rfl (bnd rfl i12)) rfl) er)) (bnd rfl R))))))
end
theorem law_true (ns:List Int):∃ h',callI defs 9 49 [.fl (ns.map .int)] []=.ok (.bl true) h':=z3h
noncomputable def top (i:Nat):Stmt:=PySem.Challenge.pw_deedwright_k46_thrown_away.main.body.getD i (.Pass 139)
theorem dok {st:Stmt}{d:Df}{F:XY}{G:List (Str×Cn)}{nm q:Str}(h:∀ (kV doc pm:Value) (an:Option Addr) (vw ct:Value) (us:XU),us.length=d.ps.length->bindArgs (PySem.W.fnOf nm q (j8 st) (zV st) (zu st) .none kV doc pm an vw ct) ⟨us,[]⟩=pure (d.ps.zip us))(h1:zV st=d.body.py ⟨d.N,F,G⟩:=by rfl)(h2:FnScope d.N d.ps (zu st):=by exact ⟨rfl,rfl,rfl,by decide +kernel,rfl,by decide +kernel,by decide +kernel⟩)(h3:okD d.body (zu st) ⟨d.N,F,G⟩ d.ps=true:=by decide +kernel)(h4:∀ x∈d.N,((zu st).names.lookup x=some .local\/(zu st).names.lookup x=some .cell)/\Za x=true:=by decide +kernel):DefOk st d F G nm q:=⟨h1,h2,h3,h4,h⟩
abbrev DO (i:Nat) (d:Df) (x y:Str):=DefOk (top i) d (defs.map (·.name)) zl x y
theorem V8:DO 6 d_parts_of "parts_of" "parts_of":=dok λ _ _ _ _ _ _=>yf λ _=>rfl
theorem QG:DO 7 yw "stands_for" "stands_for":=dok λ _ _ _ _ _ _=>jt λ _ _=>rfl
theorem ZB:DO 8 qf "items_by_name" "items_by_name":=dok λ _ _ _ _ _ _=>yf λ _=>rfl
theorem JN:DO 10 qV "is_function" "is_function":=dok λ _ _ _ _ _ _=>jt λ _ _=>rfl
theorem V9:DO 11 Jd "begun_at" "begun_at":=dok λ _ _ _ _ _ _=>jt λ _ _=>rfl
theorem ZC:DO 12 qg "check_numbers" "check_numbers":=dok λ _ _ _ _ _ _=>jt λ _ _=>rfl
theorem Va:DO 15 d_reckoned "reckoned" "reckoned":=dok λ _ _ _ _ _ _=>GQ λ _ _ _=>rfl
theorem z99:DO 21 z40 "run" "run":=dok λ _ _ _ _ _ _=>GS λ _ _ _ _ _=>rfl
theorem Om:DO 22 Wm "readied" "readied":=dok λ _ _ _ _ _ _=>GR λ _ _ _ _=>rfl
theorem yL:DO 23 wa "clauses_by_deed" "clauses_by_deed":=dok λ _ _ _ _ _ _=>yf λ _=>rfl
theorem Jz:DO 24 qA "doing_copied" "doing_copied":=dok λ _ _ _ _ _ _=>yf λ _=>rfl
theorem z0v:DO 25 Yj "linked" "linked":=dok λ _ _ _ _ _ _=>jt λ _ _=>rfl
theorem Vb:DO 26 Jf "answered" "answered":=dok λ _ _ _ _ _ _=>jt λ _ _=>rfl
theorem On:DO 27 Wn "walk_on" "walk_on":=dok λ _ _ _ _ _ _=>yf λ _=>rfl
theorem Oo:DO 28 Z2 "do_task" "do_task":=dok λ _ _ _ _ _ _=>jt λ _ _=>rfl
theorem Vc:DO 29 Jg "ahead_of" "ahead_of":=dok λ _ _ _ _ _ _=>yf λ _=>rfl
theorem YO:DO 30 d_looked_up "looked_up" "looked_up":=dok λ _ _ _ _ _ _=>jt λ _ _=>rfl
theorem z9a:DO 31 d_put "put" "put":=dok λ _ _ _ _ _ _=>jt λ _ _=>rfl
theorem z3i:DO 32 d_taken "taken" "taken":=dok λ _ _ _ _ _ _=>jt λ _ _=>rfl
theorem YQ:DO 33 Zg "took_turn" "took_turn":=dok λ _ _ _ _ _ _=>yf λ _=>rfl
theorem Op:DO 34 Wo "then_op" "then_op":=dok λ _ _ _ _ _ _=>jt λ _ _=>rfl
theorem Vd:DO 35 Jh "then_let" "then_let":=dok λ _ _ _ _ _ _=>jt λ _ _=>rfl
theorem Oq:DO 36 Wp "then_if" "then_if":=dok λ _ _ _ _ _ _=>jt λ _ _=>rfl
theorem QH:DO 37 wT "then_guard" "then_guard":=dok λ _ _ _ _ _ _=>jt λ _ _=>rfl
theorem YR:DO 38 Zh "then_call" "then_call":=dok λ _ _ _ _ _ _=>jt λ _ _=>rfl
theorem JO:DO 39 qW "then_handle" "then_handle":=dok λ _ _ _ _ _ _=>jt λ _ _=>rfl
theorem Os:DO 40 Wq "then_do" "then_do":=dok λ _ _ _ _ _ _=>jt λ _ _=>rfl
theorem YS:DO 41 qC "taken_off" "taken_off":=dok λ _ _ _ _ _ _=>jt λ _ _=>rfl
theorem Ot:DO 42 Z3 "then_go" "then_go":=dok λ _ _ _ _ _ _=>jt λ _ _=>rfl
theorem z0w:DO 43 Yk "put_on" "put_on":=dok λ _ _ _ _ _ _=>GQ λ _ _ _=>rfl
theorem z3j:DO 45 d_leave "leave" "leave":=dok λ _ _ _ _ _ _=>yf λ _=>rfl
theorem o_holds_alone:DO 46 d_holds_alone "holds_alone" "holds_alone":=dok λ _ _ _ _ _ _=>yf λ _=>rfl
theorem QI:DO 47 yy "throw_away" "throw_away":=dok λ _ _ _ _ _ _=>jt λ _ _=>rfl
theorem YT:DO 48 Zi "guards_of" "guards_of":=dok λ _ _ _ _ _ _=>yf λ _=>rfl
theorem JP:DO 50 qY "_law_cell_at" "_law_cell_at":=dok λ _ _ _ _ _ _=>jt λ _ _=>rfl
theorem YU:DO 51 Zj "_law_whole" "_law_whole":=dok λ _ _ _ _ _ _=>yf λ _=>rfl
theorem YV:DO 52 Zk "_law_alike" "_law_alike":=dok λ _ _ _ _ _ _=>jt λ _ _=>rfl
theorem YW:DO 53 Zl "_law_right" "_law_right":=dok λ _ _ _ _ _ _=>GR λ _ _ _ _=>rfl
theorem YX:DO 54 qD "_law_names" "_law_names":=dok λ _ _ _ _ _ _=>jt λ _ _=>rfl
theorem Ve:DO 55 Jj "_law_draw" "_law_draw":=dok λ _ _ _ _ _ _=>jt λ _ _=>rfl
theorem JQ:DO 56 ya "_law_numbers" "_law_numbers":=dok λ _ _ _ _ _ _=>GQ λ _ _ _=>rfl
theorem YY:DO 57 Zm "_law_level" "_law_level":=dok λ _ _ _ _ _ _=>yf λ _=>rfl
theorem QJ:DO 58 yz "_law_guards" "_law_guards":=dok λ _ _ _ _ _ _=>jt λ _ _=>rfl
theorem ZD:DO 59 d_law_clause_of "_law_clause_of" "_law_clause_of":=dok λ _ _ _ _ _ _=>za7 λ _ _ _ _ _ _=>rfl
theorem JR:DO 60 wA "_law_handler" "_law_handler":=dok λ _ _ _ _ _ _=>GS λ _ _ _ _ _=>rfl
theorem JS:DO 61 yb "_law_program" "_law_program":=dok λ _ _ _ _ _ _=>GS λ _ _ _ _ _=>rfl
theorem YZ:DO 62 Zn "_law_clean" "_law_clean":=dok λ _ _ _ _ _ _=>yf λ _=>rfl
theorem Ou:DO 63 d_law_due "_law_due" "_law_due":=dok λ _ _ _ _ _ _=>GQ λ _ _ _=>rfl
theorem Vf:DO 64 yi "_law_deep" "_law_deep":=dok λ _ _ _ _ _ _=>GR λ _ _ _ _=>rfl
theorem o_law:DO 65 d_law "law" "law":=dok λ _ _ _ _ _ _=>yf λ _=>rfl
theorem U0:DefOk ((zQ (top 18)).getD 0 (.Pass 139)) qF (defs.map (·.name)) zl "__init__" "Walk.__init__":=dok λ _ _ _ _ _ _=>GR λ _ _ _ _=>rfl
theorem QK:DefOk ((zQ (top 19)).getD 0 (.Pass 139)) wU (defs.map (·.name)) zl "__init__" "Doing.__init__":=dok λ _ _ _ _ _ _=>GS λ _ _ _ _ _=>rfl
theorem ZE:DefOk ((zQ (top 20)).getD 0 (.Pass 139)) jH (defs.map (·.name)) zl "__init__" "Standing.__init__":=dok λ _ _ _ _ _ _=>GQ λ _ _ _=>rfl
noncomputable def FnK (K:Y00)(x:Str)(i:Nat)(f:Addr)(fd:FuncData):Prop:=PySem.W.nsIn K mainGlobals x=some (some (.ref f))/\Fun K x x (top i) f fd
theorem fnk {K:Y00}{x:Str}{i:Nat}{f:Addr}{oc:Value}{od an:Option Addr}{sl:213}{kV dc pm cd ct:Value}(a:PySem.W.nsIn K mainGlobals x=some (some (.ref f)))(l:K.lookup f=some ⟨oc,od,.func (PySem.W.fnOf x x (j8 (top i)) (zV (top i)) (zu (top i)) .none kV dc pm an cd ct),sl⟩)(c:PySem.W.codeIn K cd x=true)(k:PySem.W.keepIn K (.ref f)=true):FnK K x i f (PySem.W.fnOf x x (j8 (top i)) (zV (top i)) (zu (top i)) .none kV dc pm an cd ct):=⟨a,yP (st:=top i) l c k⟩
theorem FnK.row {K:Y00}{x:Str}{i:Nat}{f:Addr}{fd:FuncData}{h:Heap}{mg:XW}{d:Df} (e:FnK K x i f fd) (X:K.In h) (G:h.Ns mainGlobals mg) (hx:d.name=x) (hb:(d.name==("__debug__":Str))=false) (o:DefOk (top i) d (defs.map (·.name)) zl x x):(d.name==("__debug__":Str))=false/\∃ st f fd,mg d.name=some (.ref f)/\PySem.W.nsIn K mainGlobals d.name=some (some (.ref f))/\Fun K d.name d.name st f fd/\DefOk st d (defs.map (·.name)) zl d.name d.name:=by
 subst hx;exact ⟨hb,_,_,_,Y1c X G e.1,e.1,e.2,o⟩
noncomputable def NoN (K:Y00):List Str->Prop
 | []=>True
 | x::r=>PySem.W.nsIn K mainGlobals x=some none/\NoN K r
theorem NoN.mem {K:Y00}{x:Str}:∀ {l:XY},NoN K l->x∈l->PySem.W.nsIn K mainGlobals x=some none
 | [],_,h=>nomatch h
 | _::_,q,h=>(Y0g.mp h).elim (λ e=>e▸q.1) (NoN.mem q.2)
noncomputable def FdN (K:Y00)(c:Addr):List Str->Prop
 | []=>True
 | x::r=>PySem.W.findIn K (.ref c) x=some none/\FdN K c r
theorem FdN.mem {K:Y00}{c:Addr}{x:Str}:∀ {l:XY},FdN K c l->x∈l->PySem.W.findIn K (.ref c) x=some none
 | [],_,h=>nomatch h
 | _::_,q,h=>(Y0g.mp h).elim (λ e=>e▸q.1) (FdN.mem q.2)
open PySem.W in
theorem all_mk {l:PySem.W.OpenLaw}{w:World}{K:Y00}{h:Heap}{mg:XW}{fa f0 f1 f2 f3 f4 f5 f6 f7 f8 f9 f10 f11 f12 f13 f14 f15 f16 f17 f18 f19 f20 f21 f22 f23 f24 f25 f26 f27 f28 f29 f30 f31 f32 f33 f34 f35 f36 f37 f38 f39 f40 f41 f42 f43 f44 f45 f46 f47 f48 f49:Addr}{d0 d1 d2 d3 d4 d5 d6 d7 d8 d9 d10 d11 d12 d13 d14 d15 d16 d17 d18 d19 d20 d21 d22 d23 d24 d25 d26 d27 d28 d29 d30 d31 d32 d33 d34 d35 d36 d37 d38 d39 d40 d41 d42 d43 d44 d45 d46 d47 d48:FuncData} (X:K.In h) (G:h.Ns mainGlobals mg) (hfa:mg "law"=some (.ref fa))
    (e0:FnK K "parts_of" 6 f0 d0)
    (e1:FnK K "stands_for" 7 f1 d1)
    (e2:FnK K "items_by_name" 8 f2 d2)
    (e3:FnK K "is_function" 10 f3 d3)
    (e4:FnK K "begun_at" 11 f4 d4)
    (e5:FnK K "check_numbers" 12 f5 d5)
    (e6:FnK K "reckoned" 15 f6 d6)
    (e7:FnK K "run" 21 f7 d7)
    (e8:FnK K "readied" 22 f8 d8)
    (e9:FnK K "clauses_by_deed" 23 f9 d9)
    (e10:FnK K "doing_copied" 24 f10 d10)
    (e11:FnK K "linked" 25 f11 d11)
    (e12:FnK K "answered" 26 f12 d12)
    (e13:FnK K "walk_on" 27 f13 d13)
    (e14:FnK K "do_task" 28 f14 d14)
    (e15:FnK K "ahead_of" 29 f15 d15)
    (e16:FnK K "looked_up" 30 f16 d16)
    (e17:FnK K "put" 31 f17 d17)
    (e18:FnK K "taken" 32 f18 d18)
    (e19:FnK K "took_turn" 33 f19 d19)
    (e20:FnK K "then_op" 34 f20 d20)
    (e21:FnK K "then_let" 35 f21 d21)
    (e22:FnK K "then_if" 36 f22 d22)
    (e23:FnK K "then_guard" 37 f23 d23)
    (e24:FnK K "then_call" 38 f24 d24)
    (e25:FnK K "then_handle" 39 f25 d25)
    (e26:FnK K "then_do" 40 f26 d26)
    (e27:FnK K "taken_off" 41 f27 d27)
    (e28:FnK K "then_go" 42 f28 d28)
    (e29:FnK K "put_on" 43 f29 d29)
    (e30:FnK K "leave" 45 f30 d30)
    (e31:FnK K "holds_alone" 46 f31 d31)
    (e32:FnK K "throw_away" 47 f32 d32)
    (e33:FnK K "guards_of" 48 f33 d33)
    (e34:FnK K "_law_cell_at" 50 f34 d34)
    (e35:FnK K "_law_whole" 51 f35 d35)
    (e36:FnK K "_law_alike" 52 f36 d36)
    (e37:FnK K "_law_right" 53 f37 d37)
    (e38:FnK K "_law_names" 54 f38 d38)
    (e39:FnK K "_law_draw" 55 f39 d39)
    (e40:FnK K "_law_numbers" 56 f40 d40)
    (e41:FnK K "_law_level" 57 f41 d41)
    (e42:FnK K "_law_guards" 58 f42 d42)
    (e43:FnK K "_law_clause_of" 59 f43 d43)
    (e44:FnK K "_law_handler" 60 f44 d44)
    (e45:FnK K "_law_program" 61 f45 d45)
    (e46:FnK K "_law_clean" 62 f46 d46)
    (e47:FnK K "_law_due" 63 f47 d47)
    (e48:FnK K "_law_deep" 64 f48 d48)
    {od an:Option Addr}{sl:213}{oc kV dc pm cd ct:Value} (a:nsIn K mainGlobals "law"=some (some (.ref f49))) (l49:K.lookup f49=some ⟨oc,od,.func (PySem.W.fnOf "law" "law" (j8 (top 65)) (zV (top 65)) (zu (top 65)) .none kV dc pm an cd ct),sl⟩) (c49:codeIn K cd "law"=true) (k49:keepIn K (.ref f49)=true)
    (z:NoN K Q0)
    {gc0:Addr}{es0:Array DictEntry}{ep0:Nat} (ga0:nsIn K mainGlobals "FIRST_PART"=some (some (.ref gc0))) (gl0:K.lookup gc0=some { cls:=.type "dict",data:=.dict es0 ep0 }) (ge0:J9 w K es0.toList wS)
    {gt1:Tok} (ga1:nsIn K mainGlobals "GREATEST"=some (some (.int (1000000000000000000) gt1)))
    {gc2:Addr} (ga2:nsIn K mainGlobals "FIRST_AHEAD"=some (some (.ref gc2))) (ge2:TupK K gc2 ww)
    {gc3:Addr}{es3:Array DictEntry}{ep3:Nat} (ga3:nsIn K mainGlobals "THEN"=some (some (.ref gc3))) (gl3:K.lookup gc3=some { cls:=.type "dict",data:=.dict es3 ep3 }) (ge3:J9 w K es3.toList jG)
    {cc0 ci0:Addr}{cod0 can0:Option Addr}{csl0:213}{coc0 ckV0 cdc0 cpm0 ccd0 cct0:Value}
    (ca0:nsIn K mainGlobals "Walk"=some (some (.ref cc0)))
    (cy0:findIn K (.ref cc0) "__init__"=some (some (.ref ci0)))
    (cl0:K.lookup ci0=some ⟨coc0,cod0,.func (PySem.W.fnOf "__init__" "Walk.__init__" (j8 ((zQ (top 18)).getD 0 (.Pass 139))) (zV ((zQ (top 18)).getD 0 (.Pass 139))) (zu ((zQ (top 18)).getD 0 (.Pass 139))) .none ckV0 cdc0 cpm0 can0 ccd0 cct0),csl0⟩)
    (ce0:codeIn K ccd0 "Walk.__init__"=true)
    (ck0:keepIn K (.ref ci0)=true)
    (cm0:makesIn K cc0=true)
    (cf0:isFn K (.ref ci0)=true)
    (cp0:keepIn K (.ref cc0)=true)
    (cg0:plainGet K cc0 Str.empty=true)
    (ch0:hasDictIn K cc0=true)
    (co0:plainOver K cc0=true)
    (cs0:findIn K (.ref cc0) "__setattr__"=some (some (.builtin "object.__setattr__")))
    (cn0:FdN K cc0 j4)
    {cc1 ci1:Addr}{cod1 can1:Option Addr}{csl1:213}{coc1 ckV1 cdc1 cpm1 ccd1 cct1:Value}
    (ca1:nsIn K mainGlobals "Doing"=some (some (.ref cc1)))
    (cy1:findIn K (.ref cc1) "__init__"=some (some (.ref ci1)))
    (cl1:K.lookup ci1=some ⟨coc1,cod1,.func (PySem.W.fnOf "__init__" "Doing.__init__" (j8 ((zQ (top 19)).getD 0 (.Pass 139))) (zV ((zQ (top 19)).getD 0 (.Pass 139))) (zu ((zQ (top 19)).getD 0 (.Pass 139))) .none ckV1 cdc1 cpm1 can1 ccd1 cct1),csl1⟩)
    (ce1:codeIn K ccd1 "Doing.__init__"=true)
    (ck1:keepIn K (.ref ci1)=true)
    (cm1:makesIn K cc1=true)
    (cf1:isFn K (.ref ci1)=true)
    (cp1:keepIn K (.ref cc1)=true)
    (cg1:plainGet K cc1 Str.empty=true)
    (ch1:hasDictIn K cc1=true)
    (co1:plainOver K cc1=true)
    (cs1:findIn K (.ref cc1) "__setattr__"=some (some (.builtin "object.__setattr__")))
    (cn1:FdN K cc1 j4)
    {cc2 ci2:Addr}{cod2 can2:Option Addr}{csl2:213}{coc2 ckV2 cdc2 cpm2 ccd2 cct2:Value}
    (ca2:nsIn K mainGlobals "Standing"=some (some (.ref cc2)))
    (cy2:findIn K (.ref cc2) "__init__"=some (some (.ref ci2)))
    (cl2:K.lookup ci2=some ⟨coc2,cod2,.func (PySem.W.fnOf "__init__" "Standing.__init__" (j8 ((zQ (top 20)).getD 0 (.Pass 139))) (zV ((zQ (top 20)).getD 0 (.Pass 139))) (zu ((zQ (top 20)).getD 0 (.Pass 139))) .none ckV2 cdc2 cpm2 can2 ccd2 cct2),csl2⟩)
    (ce2:codeIn K ccd2 "Standing.__init__"=true)
    (ck2:keepIn K (.ref ci2)=true)
    (cm2:makesIn K cc2=true)
    (cf2:isFn K (.ref ci2)=true)
    (cp2:keepIn K (.ref cc2)=true)
    (cg2:plainGet K cc2 Str.empty=true)
    (ch2:hasDictIn K cc2=true)
    (co2:plainOver K cc2=true)
    (cs2:findIn K (.ref cc2) "__setattr__"=some (some (.builtin "object.__setattr__")))
    (cn2:FdN K cc2 j4)
    (ih:PySem.W.specialIn K 180 "__get__"=some (some (.builtin "getset_descriptor.__get__"))) (iht:PySem.W.takesIn K 180=some true)
    (ia0:findIn K (.ref cc0) "__class__"=some (some 180)) (im0:mroIn K cc0 (.type "object")=some true)
    (ia1:findIn K (.ref cc1) "__class__"=some (some 180)) (im1:mroIn K cc1 (.type "object")=some true)
    (ia2:findIn K (.ref cc2) "__class__"=some (some 180)) (im2:mroIn K cc2 (.type "object")=some true)
    {io2:Value}{id2:Option Addr}{ik2:ClassData}{is2:213} (il2:K.lookup cc2=some ⟨io2,id2,.cls ik2,is2⟩) (it2:PySem.W.typeIn K (.ref cc2)=some (.type "type"))
    (ik0_2:mroIn K cc0 (.ref cc2)=some false) (in0_2:cc0≠cc2)
    (ik1_2:mroIn K cc1 (.ref cc2)=some false) (in1_2:cc1≠cc2)
    (ik2_2:mroIn K cc2 (.ref cc2)=some true)
    {io1:Value}{id1:Option Addr}{ik1:ClassData}{is1:213} (il1:K.lookup cc1=some ⟨io1,id1,.cls ik1,is1⟩) (it1:PySem.W.typeIn K (.ref cc1)=some (.type "type"))
    (ik0_1:mroIn K cc0 (.ref cc1)=some false) (in0_1:cc0≠cc1)
    (ik1_1:mroIn K cc1 (.ref cc1)=some true)
    (ik2_1:mroIn K cc2 (.ref cc1)=some false) (in2_1:cc2≠cc1)
   :∃ (cv:XX) (fd:FuncData),(∀ (s:170) (v:Value),BindsTo s fd ⟨[v],[]⟩ [("_law_script",v)])/\∀ base:Heap,K.In base->base.Ns mainGlobals mg->FnOk l.prog w K mg base (CXs l.prog w) 18 fa fd ["_law_script"] (BL K cv (callI defs 9 49)):=by
  have e:=hfa.symm.trans (Y1c X G a);cases e;have T:Tab l.prog w K mg defs zl:=by
    refine ⟨λ x hx=>?_,λ x c hx=>?_,λ i d hd hnc=>?_,λ x i hx=>?_⟩
    · exact PySem.W.mg_none_of X G (z.mem hx)
    · simp only [zl,Y0g,Y0w,or_false] at hx;rcases hx with hq | hq | hq | hq | hq | hq | hq | hq | hq
      · cases hq;exact ⟨by decide,_,Y1c X G ga0,BK gl0 ge0 123⟩
      · cases hq;exact ⟨by decide,_,Y1c X G ga1,150⟩
      · cases hq;exact ⟨by decide,_,Y1c X G ga2,⟨_,rfl,ge2⟩⟩
      · cases hq;exact ⟨by decide,_,Y1c X G ga3,BK gl3 ge3 123⟩
      · cases hq;exact ⟨by decide,_,Y1c X G ca0,150⟩
      · cases hq;exact ⟨by decide,_,Y1c X G ca1,150⟩
      · cases hq;exact ⟨by decide,_,Y1c X G ca2,150⟩
      · cases hq;refine ⟨by decide,_,Y1c X G ca2,_,rfl,λ y hy=>?_⟩;simp only [Y0g,Y0w,or_false] at hy;rcases hy with rfl | rfl | rfl
        · exact ⟨_,ca0,⟨ia0,ih,iht,im0⟩,(qN il2 it2 ik0_2 (.inr in0_2)).trans 165⟩
        · exact ⟨_,ca1,⟨ia1,ih,iht,im1⟩,(qN il2 it2 ik1_2 (.inr in1_2)).trans 165⟩
        · exact ⟨_,ca2,⟨ia2,ih,iht,im2⟩,(qN il2 it2 ik2_2 206).trans 165⟩
      · cases hq;refine ⟨by decide,_,Y1c X G ca1,_,rfl,λ y hy=>?_⟩;simp only [Y0g,Y0w,or_false] at hy;rcases hy with rfl | rfl | rfl
        · exact ⟨_,ca0,⟨ia0,ih,iht,im0⟩,(qN il1 it1 ik0_1 (.inr in0_1)).trans 165⟩
        · exact ⟨_,ca1,⟨ia1,ih,iht,im1⟩,(qN il1 it1 ik1_1 206).trans 165⟩
        · exact ⟨_,ca2,⟨ia2,ih,iht,im2⟩,(qN il1 it1 ik2_1 (.inr in2_1)).trans 165⟩
    · match i,hd,hnc with
      | 0,hd,_=>cases hd;exact e0.row X G rfl 123 V8
      | 1,hd,_=>cases hd;exact e1.row X G rfl 123 QG
      | 2,hd,_=>cases hd;exact e2.row X G rfl 123 ZB
      | 3,hd,_=>cases hd;exact e3.row X G rfl 123 JN
      | 4,hd,_=>cases hd;exact e4.row X G rfl 123 V9
      | 5,hd,_=>cases hd;exact e5.row X G rfl 123 ZC
      | 6,hd,_=>cases hd;exact e6.row X G rfl 123 Va
      | 7,hd,_=>cases hd;exact e7.row X G rfl 123 z99
      | 8,hd,_=>cases hd;exact e8.row X G rfl 123 Om
      | 9,hd,_=>cases hd;exact e9.row X G rfl 123 yL
      | 10,hd,_=>cases hd;exact e10.row X G rfl 123 Jz
      | 11,hd,_=>cases hd;exact e11.row X G rfl 123 z0v
      | 12,hd,_=>cases hd;exact e12.row X G rfl 123 Vb
      | 13,hd,_=>cases hd;exact e13.row X G rfl 123 On
      | 14,hd,_=>cases hd;exact e14.row X G rfl 123 Oo
      | 15,hd,_=>cases hd;exact e15.row X G rfl 123 Vc
      | 16,hd,_=>cases hd;exact e16.row X G rfl 123 YO
      | 17,hd,_=>cases hd;exact e17.row X G rfl 123 z9a
      | 18,hd,_=>cases hd;exact e18.row X G rfl 123 z3i
      | 19,hd,_=>cases hd;exact e19.row X G rfl 123 YQ
      | 20,hd,_=>cases hd;exact e20.row X G rfl 123 Op
      | 21,hd,_=>cases hd;exact e21.row X G rfl 123 Vd
      | 22,hd,_=>cases hd;exact e22.row X G rfl 123 Oq
      | 23,hd,_=>cases hd;exact e23.row X G rfl 123 QH
      | 24,hd,_=>cases hd;exact e24.row X G rfl 123 YR
      | 25,hd,_=>cases hd;exact e25.row X G rfl 123 JO
      | 26,hd,_=>cases hd;exact e26.row X G rfl 123 Os
      | 27,hd,_=>cases hd;exact e27.row X G rfl 123 YS
      | 28,hd,_=>cases hd;exact e28.row X G rfl 123 Ot
      | 29,hd,_=>cases hd;exact e29.row X G rfl 123 z0w
      | 30,hd,_=>cases hd;exact e30.row X G rfl 123 z3j
      | 31,hd,_=>cases hd;exact e31.row X G rfl 123 o_holds_alone
      | 32,hd,_=>cases hd;exact e32.row X G rfl 123 QI
      | 33,hd,_=>cases hd;exact e33.row X G rfl 123 YT
      | 34,hd,_=>cases hd;exact e34.row X G rfl 123 JP
      | 35,hd,_=>cases hd;exact e35.row X G rfl 123 YU
      | 36,hd,_=>cases hd;exact e36.row X G rfl 123 YV
      | 37,hd,_=>cases hd;exact e37.row X G rfl 123 YW
      | 38,hd,_=>cases hd;exact e38.row X G rfl 123 YX
      | 39,hd,_=>cases hd;exact e39.row X G rfl 123 Ve
      | 40,hd,_=>cases hd;exact e40.row X G rfl 123 JQ
      | 41,hd,_=>cases hd;exact e41.row X G rfl 123 YY
      | 42,hd,_=>cases hd;exact e42.row X G rfl 123 QJ
      | 43,hd,_=>cases hd;exact e43.row X G rfl 123 ZD
      | 44,hd,_=>cases hd;exact e44.row X G rfl 123 JR
      | 45,hd,_=>cases hd;exact e45.row X G rfl 123 JS
      | 46,hd,_=>cases hd;exact e46.row X G rfl 123 YZ
      | 47,hd,_=>cases hd;exact e47.row X G rfl 123 Ou
      | 48,hd,_=>cases hd;exact e48.row X G rfl 123 Vf
      | 49,hd,_=>cases hd;exact ⟨by decide,_,_,_,Y1c X G a,a,yP (st:=top 65) l49 c49 k49,o_law⟩
      | 50,hd,hnc=>exact absurd hnc 123
      | 51,hd,hnc=>exact absurd hnc 123
      | 52,hd,hnc=>exact absurd hnc 123
      | n+53,hd,_=>exact absurd hd (by simp [defs])
    · simp only [zl,Y0g,Y0w,or_false] at hx;rcases hx with hq | hq | hq | hq | hq | hq | hq | hq | hq
      · cases hq
      · cases hq
      · cases hq
      · cases hq
      · cases hq;refine ⟨by decide,qF,(zQ (top 18)).getD 0 (.Pass 139),cc0,ci0,_,"__init__","Walk.__init__",rfl,Y1c X G ca0,⟨cm0,cy0,cf0,cp0⟩,⟨ca0,⟨cg0,ch0,co0,cs0⟩,λ f hf=>cn0.mem hf⟩,yP (st:=(zQ (top 18)).getD 0 (.Pass 139)) cl0 ce0 ck0,U0⟩
      · cases hq;refine ⟨by decide,wU,(zQ (top 19)).getD 0 (.Pass 139),cc1,ci1,_,"__init__","Doing.__init__",rfl,Y1c X G ca1,⟨cm1,cy1,cf1,cp1⟩,⟨ca1,⟨cg1,ch1,co1,cs1⟩,λ f hf=>cn1.mem hf⟩,yP (st:=(zQ (top 19)).getD 0 (.Pass 139)) cl1 ce1 ck1,QK⟩
      · cases hq;refine ⟨by decide,jH,(zQ (top 20)).getD 0 (.Pass 139),cc2,ci2,_,"__init__","Standing.__init__",rfl,Y1c X G ca2,⟨cm2,cy2,cf2,cp2⟩,⟨ca2,⟨cg2,ch2,co2,cs2⟩,λ f hf=>cn2.mem hf⟩,yP (st:=(zQ (top 20)).getD 0 (.Pass 139)) cl2 ce2 ck2,ZE⟩
      · cases hq
      · cases hq
  refine ⟨λ _=>.none,PySem.W.fnOf "law" "law" (j8 (top 65)) (zV (top 65)) (zu (top 65)) .none kV dc pm an cd ct,λ s v=>.of_eq rfl,λ base _ _=>?_⟩;exact UG T (z68 123) 9 49 d_law _ _ (top 65) _ _ rfl (yP (st:=top 65) l49 c49 k49) o_law
end K46
end
namespace PySem.W.Fast
def tw14590121198830586004 := ()
def tw10535479455995431470 := ()
def tw13586629914820731248 := ()
def tw12165883733435578015 := ()
def tw4069524204442440916 := ()
def tw10903941529542057254 := ()
def tw12995857597727677788 := ()
def tw12143722740813337043 := ()
def tw6407140067621450696 := ()
def tw16147554772406730484 := ()
def tw9887334715319025826 := ()
def tw14637135066569752360 := ()
def tw3744892876680961769 := ()
def tw10709993860164350882 := ()
def tw4142185162017732211 := ()
def tw2834582027643065153 := ()
def tw611138230440451717 := ()
def tw15506864315563259326 := ()
def tw15073109347067150349 := ()
def tw17520272321730134628 := ()
def tw2596446175818749472 := ()
def tw5592531138657499287 := ()
def tw7234304972275858131 := ()
def tw2087861039407796709 := ()
def tw10288626208141028866 := ()
def tw7274669129143604871 := ()
def tw17573867261933327201 := ()
def tw12885659890505406962 := ()
def tw1619150839831257569 := ()
def tw1799123567730783907 := ()
def tw7863440765338215834 := ()
def tw11156319450693525957 := ()
def tw6306690931133033957 := ()
def tw1888891369480574006 := ()
def tw141249497465711532 := ()
def tw775463785341052670 := ()
def tw2822404934421957552 := ()
def tw9728206513779419602 := ()
def tw9231292882056848385 := ()
def tw8777498959256733214 := ()
def tw15466158573307222284 := ()
def tw2823069331148571860 := ()
def tw15096406317425546436 := ()
def tw7133839210512792113 := ()
def tw15976965113629877633 := ()
def tw9225590515555935453 := ()
def tw446748621193258569 := ()
def tw15497415953037745753 := ()
def tw74424363013296283 := ()
def tw4324974358718611253 := ()
def tw13447922867562190625 := ()
def tw7181569773298042890 := ()
def tw4334815707643141848 := ()
def tw582715705943996710 := ()
def tw17829083138586624711 := ()
def tw8977095088495111583 := ()
def tw8686744776888452164 := ()
def tw15919910101207624792 := ()
def tw5028764402507674019 := ()
def tw9585140863796836686 := ()
def tw329735694938011177 := ()
def tw13356510776911846720 := ()
def tw11874906258605509685 := ()
def tw14605568957808812777 := ()
def tw10085048437474402473 := ()
def tw4636228938680557816 := ()
def tw16279843357542462592 := ()
def tw10951671952480776546 := ()
def tw3345911528127395708 := ()
def tw18278330974562729693 := ()
def tw13781174438995278424 := ()
def tw9832994246271735320 := ()
def tw5494683059503700312 := ()
def tw16146069903642685962 := ()
def tw3356382331692090451 := ()
def tw3131598980915757084 := ()
def tw6551796453932441839 := ()
def tw9095946456515077451 := ()
def tw17589067324036382210 := ()
def tw9600366392196907531 := ()
def tw15560495346297433711 := ()
def tw12743422925387854199 := ()
def tw3003644282032592999 := ()
def tw11899153292297639832 := ()
def tw8322707178947970241 := ()
def tw17710745050242238374 := ()
def tw2521412809578226748 := ()
def tw9891195389309104676 := ()
def tw18020011722527539518 := ()
def tw586624904199277913 := ()
def tw15234740693893252767 := ()
def tw8774657739996165840 := ()
def tw12076206480487484447 := ()
def tw1420231585217154910 := ()
def tw15302416136957083767 := ()
def tw1926596415610137594 := ()
def tw3807480051978362536 := ()
def tw12851803694971884541 := ()
def tw9583123006261265561 := ()
def tw10260046784803541732 := ()
def tw8640295643348815023 := ()
def tw13709307817846405110 := ()
def tw12536618061589138975 := ()
def tw10869366499495028357 := ()
def tw258461216475077419 := ()
def tw8016059293945767642 := ()
def tw6181047555933546440 := ()
def tw10731263375505885096 := ()
def tw16291036843350132194 := ()
def tw16130735390821613990 := ()
def tw5336245895618288850 := ()
def tw15913102933502196348 := ()
def tw6139201428104241155 := ()
def tw11267518689070513207 := ()
def tw8358485279174999150 := ()
def tw16745535151454925082 := ()
def tw1793486024903296904 := ()
def tw15748496360652408012 := ()
def tw16883652810082069250 := ()
def tw11892790783514284612 := ()
def tw15099154116208890009 := ()
def tw7697277191163404568 := ()
def tw17684655011565579906 := ()
def tw10166883390887404596 := ()
def tw2624255248338936658 := ()
def tw577896484124072036 := ()
def tw14863773585536413669 := ()
def tw13292020581213079060 := ()
def tw14288039412566310824 := ()
def tw11413003906246745126 := ()
def tw5726192450037592713 := ()
def tw1375067166736968932 := ()
def tw14063103924107828977 := ()
def tw2871668987684797578 := ()
def tw14813199265324711129 := ()
def tw8045519820343673456 := ()
def tw12663052437747384003 := ()
def tw6336481440247859254 := ()
def tw6456294344598840697 := ()
def tw16171938409171300623 := ()
def tw16626905987569856694 := ()
def tw13009607440503525434 := ()
def tw11754517172478405969 := ()
def tw1736779912123508408 := ()
def tw14168033392111033685 := ()
def tw15189340932401943322 := ()
def tw10930725430853674674 := ()
def tw17808626883947809732 := ()
def tw13113982546611072038 := ()
def tw958057123691648284 := ()
def tw18189454277637122817 := ()
def tw13345376977522348492 := ()
def tw3074931971664155826 := ()
def tw13543016440695738261 := ()
def tw6102107986205262019 := ()
def tw6774996975570223621 := ()
def tw8495070619670418553 := ()
def tw988005863237270333 := ()
def tw3105834917931454585 := ()
def tw14661326143288218020 := ()
def tw14601136687608165224 := ()
def tw6383294697102307525 := ()
def tw6721803956388615608 := ()
def tw4623343229936242778 := ()
def tw17019962636921957661 := ()
def tw7378896556700793148 := ()
def tw5877547849446791303 := ()
def tw13336571326446437160 := ()
def tw16407121536598362912 := ()
def tw8930382857942318195 := ()
def tw7630423990530317003 := ()
def tw9360871577410629810 := ()
def tw6061439454331880164 := ()
def tw15720346936215995553 := ()
def tw1517456718205520929 := ()
def tw3127399498197923095 := ()
def tw9160298518114091871 := ()
def tw3730098825983441919 := ()
def tw13542230939952076781 := ()
def tw3100160474957900823 := ()
def tw4538299981768783929 := ()
def tw16472820067953256881 := ()
end PySem.W.Fast
open PySem PySem.W
set_option maxRecDepth 100000 in
set_option maxHeartbeats 0 in
theorem PySem.Challenge.cw_deedwright_k46_thrown_away_holds : PySem.Challenge.rw_deedwright_k46_thrown_away.Holds := by
 w_on;o_law;k_head;(case hw=>w_witness2)
 k_fill
 refine PI.walk_ofB (l:=PySem.Challenge.rw_deedwright_k46_thrown_away) (k:=18) (c:=PI.callI K46.defs 9 49) (x:="_law_script") rfl rfl ⟨rfl,by decide,by decide⟩ (λ w h Y=>PySem.W.kIn_of Y) ?F ?S
 case F =>
  intro w mg fa h KX G hmg;refine' K46.all_mk (l:=PySem.Challenge.rw_deedwright_k46_thrown_away) (w:=w) KX G hmg (K46.fnk ?a0 ?l0 ?c0 ?k0) (K46.fnk ?a1 ?l1 ?c1 ?k1) (K46.fnk ?a2 ?l2 ?c2 ?k2) (K46.fnk ?a3 ?l3 ?c3 ?k3) (K46.fnk ?a4 ?l4 ?c4 ?k4) (K46.fnk ?a5 ?l5 ?c5 ?k5) (K46.fnk ?a6 ?l6 ?c6 ?k6) (K46.fnk ?a7 ?l7 ?c7 ?k7) (K46.fnk ?a8 ?l8 ?c8 ?k8) (K46.fnk ?a9 ?l9 ?c9 ?k9) (K46.fnk ?a10 ?l10 ?c10 ?k10) (K46.fnk ?a11 ?l11 ?c11 ?k11) (K46.fnk ?a12 ?l12 ?c12 ?k12) (K46.fnk ?a13 ?l13 ?c13 ?k13) (K46.fnk ?a14 ?l14 ?c14 ?k14) (K46.fnk ?a15 ?l15 ?c15 ?k15) (K46.fnk ?a16 ?l16 ?c16 ?k16) (K46.fnk ?a17 ?l17 ?c17 ?k17) (K46.fnk ?a18 ?l18 ?c18 ?k18) (K46.fnk ?a19 ?l19 ?c19 ?k19) (K46.fnk ?a20 ?l20 ?c20 ?k20) (K46.fnk ?a21 ?l21 ?c21 ?k21) (K46.fnk ?a22 ?l22 ?c22 ?k22) (K46.fnk ?a23 ?l23 ?c23 ?k23) (K46.fnk ?a24 ?l24 ?c24 ?k24) (K46.fnk ?a25 ?l25 ?c25 ?k25) (K46.fnk ?a26 ?l26 ?c26 ?k26) (K46.fnk ?a27 ?l27 ?c27 ?k27) (K46.fnk ?a28 ?l28 ?c28 ?k28) (K46.fnk ?a29 ?l29 ?c29 ?k29) (K46.fnk ?a30 ?l30 ?c30 ?k30) (K46.fnk ?a31 ?l31 ?c31 ?k31) (K46.fnk ?a32 ?l32 ?c32 ?k32) (K46.fnk ?a33 ?l33 ?c33 ?k33) (K46.fnk ?a34 ?l34 ?c34 ?k34) (K46.fnk ?a35 ?l35 ?c35 ?k35) (K46.fnk ?a36 ?l36 ?c36 ?k36) (K46.fnk ?a37 ?l37 ?c37 ?k37) (K46.fnk ?a38 ?l38 ?c38 ?k38) (K46.fnk ?a39 ?l39 ?c39 ?k39) (K46.fnk ?a40 ?l40 ?c40 ?k40) (K46.fnk ?a41 ?l41 ?c41 ?k41) (K46.fnk ?a42 ?l42 ?c42 ?k42) (K46.fnk ?a43 ?l43 ?c43 ?k43) (K46.fnk ?a44 ?l44 ?c44 ?k44) (K46.fnk ?a45 ?l45 ?c45 ?k45) (K46.fnk ?a46 ?l46 ?c46 ?k46) (K46.fnk ?a47 ?l47 ?c47 ?k47) (K46.fnk ?a48 ?l48 ?c48 ?k48) ?a49 ?l49 ?c49 ?k49 ⟨?_,?_,?_,?_,?_,?_,?_,?_,?_,?_,?_,?_,?_,?_,?_,?_,?_,?_,?_,?_,?_,⟨⟩⟩ ?ga0 ?gl0 ?ge0 ?ga1 ?ga2 ?ge2 ?ga3 ?gl3 ?ge3 ?ca0 ?cy0 ?cl0 ?ce0 ?ck0 ?cm0 ?cf0 ?cp0 ?cg0 ?ch0 ?co0 ?cs0 ⟨?_,?_,?_,?_,?_,?_,?_,?_,?_,?_,?_,?_,?_,?_,?_,?_,?_,⟨⟩⟩ ?ca1 ?cy1 ?cl1 ?ce1 ?ck1 ?cm1 ?cf1 ?cp1 ?cg1 ?ch1 ?co1 ?cs1 ⟨?_,?_,?_,?_,?_,?_,?_,?_,?_,?_,?_,?_,?_,?_,?_,?_,?_,⟨⟩⟩ ?ca2 ?cy2 ?cl2 ?ce2 ?ck2 ?cm2 ?cf2 ?cp2 ?cg2 ?ch2 ?co2 ?cs2 ⟨?_,?_,?_,?_,?_,?_,?_,?_,?_,?_,?_,?_,?_,?_,?_,?_,?_,⟨⟩⟩ ?ih ?iht ?ia0 ?im0 ?ia1 ?im1 ?ia2 ?im2 ?il2 ?it2 ?ik0_2 ?in0_2 ?ik1_2 ?in1_2 ?ik2_2 ?il1 ?it1 ?ik0_1 ?in0_1 ?ik1_1 ?ik2_1 ?in2_1
  all_goals try k_is
  (case ge0=>(refine ⟨⟨rfl,150,?hx⟩,?hr⟩;(case hx=>exact 150);(case hr=>(refine ⟨⟨rfl,150,?hx⟩,?hr⟩;(case hx=>exact 150);(case hr=>(refine ⟨⟨rfl,150,?hx⟩,?hr⟩;(case hx=>exact 150);(case hr=>(refine ⟨⟨rfl,150,?hx⟩,?hr⟩;(case hx=>exact 150);(case hr=>(refine ⟨⟨rfl,150,?hx⟩,?hr⟩;(case hx=>exact 150);(case hr=>(refine ⟨⟨rfl,150,?hx⟩,?hr⟩;(case hx=>exact 150);(case hr=>(refine ⟨⟨rfl,150,?hx⟩,?hr⟩;(case hx=>exact 150);(case hr=>(refine ⟨⟨rfl,150,?hx⟩,?hr⟩;(case hx=>exact 150);(case hr=>(refine ⟨⟨rfl,150,?hx⟩,?hr⟩;(case hx=>exact 150);(case hr=>exact trivial)))))))))))))))))))
  (case ge2=>(refine' PI.tupK_mk ?hk ?h4 ?h5;(case hk=>k_is);(case h4=>decide);(case h5=>(show L2.Vals _ (List.toArray _).toList;exact .cons 150 (.cons 150 (.cons 150 (.cons 150 (.nil))))))))
  (case ge3=>(refine ⟨⟨rfl,150,?hx⟩,?hr⟩;(case hx=>(refine ⟨_,rfl,?ht⟩;(case ht=>k_is)));(case hr=>(refine ⟨⟨rfl,150,?hx⟩,?hr⟩;(case hx=>(refine ⟨_,rfl,?ht⟩;(case ht=>k_is)));(case hr=>(refine ⟨⟨rfl,150,?hx⟩,?hr⟩;(case hx=>(refine ⟨_,rfl,?ht⟩;(case ht=>k_is)));(case hr=>(refine ⟨⟨rfl,150,?hx⟩,?hr⟩;(case hx=>(refine ⟨_,rfl,?ht⟩;(case ht=>k_is)));(case hr=>(refine ⟨⟨rfl,150,?hx⟩,?hr⟩;(case hx=>(refine ⟨_,rfl,?ht⟩;(case ht=>k_is)));(case hr=>(refine ⟨⟨rfl,150,?hx⟩,?hr⟩;(case hx=>(refine ⟨_,rfl,?ht⟩;(case ht=>k_is)));(case hr=>(refine ⟨⟨rfl,150,?hx⟩,?hr⟩;(case hx=>(refine ⟨_,rfl,?ht⟩;(case ht=>k_is)));(case hr=>(refine ⟨⟨rfl,150,?hx⟩,?hr⟩;(case hx=>(refine ⟨_,rfl,?ht⟩;(case ht=>k_is)));(case hr=>exact trivial)))))))))))))))))
  (case in0_2=>decide)
  (case in1_2=>decide)
  (case in0_1=>decide)
  (case in2_1=>decide)
 case S =>
  exact λ ns _ hb=>K46.law_true ns
#print axioms PySem.Challenge.cw_deedwright_k46_thrown_away_holds
