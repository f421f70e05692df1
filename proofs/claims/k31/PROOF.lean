import PyProof.Rows.All
import Wide.All
import OpenK.AllK
import Wide.FinOn
import Lean
import PyProof.EqAt
import PyProof.EqKinds
import PyProof.TupleCall
import KE.KIntText
import PyProof.NeKinds
import PyProof.FString4
import PyProof.StrLawsRepr
import PyProof.ZipIter
import PyProof.TupleIter
import KE.KRevIter
import KE.KDictOf
import PyProof.AttrMissHeap
import KE.KItemsList
import PyProof.SumAny
import PyProof.SliceList
import PyProof.EnumIter
import PyProof.EnumMake
import PyProof.EnumFor
import PyProof.DictWalks
import PyProof.Rows.SetFrom
import PyProof.Rows.SortStr
import PyProof.DictKinds
import PyProof.Rows.SortShellK
import KE.KEqDict
import PyProof.StrLawsTight
import PyProof.Rows.StrStep
import PySem.Challenge.RW_deedwright_k31_rows_of_what_stands_ahead
set_option hygiene false
local macro_rules|`(107)=>`(Nat->List D->Hh->Res D)|`(108)=>`((by decide))|`(109)=>`((by omega))|`(110)=>`(Inv X pins σ H s)|`(111)=>`((by simp))|`(112)=>`((bnd rfl (bnd rfl rfl)))|`(115)=>`(List (Addr×Obj))|`(116)=>`((model X.prog X.w))|`(117)=>`(⟨pe,λ _=>by exact zF pe λ _=>rfl⟩)|`(118)=>`((model prog w))|`(119)=>`((cns rfl rfl))|`(121)=>`((.loc h.length))|`(123)=>`(⟨0,0,0,0⟩)|`(124)=>`([some bd,some bl,some (.loc nc),some (.loc nb),some (.loc no),some (.loc nw),some (pD (.nd k ps,a)),some (G.nd k ps).d,some (.int a)])|`(125)=>`(⟨_,rfl⟩)
local macro_rules|`(126)=>`((fB (dsL L)))|`(127)=>`((zv X NC scope C s H fp pn xe))|`(129)=>`([O.lst (txs (zy (r x).1 ds))])|`(130)=>`(Shared)|`(131)=>`(⟨rfl,I.turned (t':=s.toks) (λ b o hb e=>eb b o hb e) f0 f1 f3 f4 f5⟩)|`(132)=>`((zi rfl rfl rfl))|`(133)=>`((j0 (l.map (·.1)) (rwN f cr ev l m)))|`(134)=>`(List (Key×D))|`(135)=>`((l.map λ p=>p.2.d))|`(136)=>`((A.map clD++[clD (dd.getD k "",if ((dn.length:Nat):Int)=t then g else nu dn.length)]))|`(137)=>`((((sIx items.size 0 lo:Nat):Int)==0&&(1:Int)==1&&(sIx items.size items.size hi-sIx items.size 0 lo)==items.size))|`(138)=>`((.loc nd))|`(139)=>`((cns rfl 119))|`(140)=>`([O.lst [.tup [.str "num",.int 6]]])|`(141)=>`(Str->Int)
local macro_rules|`(142)=>`((Rep X.K))|`(143)=>`((x==("__debug__":Str)))|`(144)=>`((.lst (txs dd)))|`(145)=>`((post_val_or_str ⟨Y0n (Txt.slice_le z _ _) hz,λ t' k=>⟨.str _,H,I.tok k,⟨t',rfl⟩,q⟩⟩))|`(146)=>`((.loc n))|`(147)=>`(List (Option Nat))|`(148)=>`([some (.int c),some (gD g o l s),some (.loc nk),some (jq ob),some g.d,some (.int o),some (.int l),some (.int s),some (pkD rg),some (pkD rf)])|`(149)=>`(∀ b∈ch,(b∈X.ex\/X.s₀.heap.objs.size<=b)/\b≠X.env.locals/\(∀ x c,X.env.cells.lookup x=some c->c≠b)/\∀ p∈X.pn++pins,p.1≠b)|`(150)=>`(Inv dd kn ob g o l s)|`(151)=>`((s.heap.objs.size+1))|`(152)=>`(List (Key×V))|`(153)=>`(List D)|`(154)=>`([O.lst (List.replicate (q.x4-1).toNat (.tup [.str "num",.int 6]))])|`(155)=>`((.ref a))|`(156)=>`(Program)
local macro_rules|`(157)=>`(List V)|`(158)=>`(⟨μ1,ρ,h1,r1,er1,p1⟩)|`(159)=>`((.ref s.heap.objs.size))|`(160)=>`((callI defs (k+1)))|`(161)=>`((cns (bnd rfl (bnd (bnd rfl (bnd rfl (sh _))) rfl)) (cns rfl (cns (bnd rfl (bnd (bnd rfl (bnd rfl (sh _))) rfl)) rfl))))|`(162)=>`([O.dK (zA 0 ds)])|`(163)=>`(jj X.env.scope scope X.N NC cap=true)|`(164)=>`((zG sa.pe zY (zc a _ _)))|`(165)=>`((.nd k ps,a))|`(166)=>`(Option Addr)|`(167)=>`((λ z=>by cases z))|`(168)=>`((l.map PyData.str))|`(169)=>`((Y0b _))|`(170)=>`((.ListComp elt [⟨tg,iter,ifs,0⟩] scope pos))|`(171)=>`(Array (Option Value))
local macro_rules|`(172)=>`(⟨_,Y0d _ rfl,rfl,rfl⟩)|`(173)=>`(((niL L).map λ p=>p.2.d))|`(174)=>`((bnd rfl rfl))|`(175)=>`((by simp;omega))|`(176)=>`((PySem.W.fnOf x qual (zK st) (zE st) (zk st) (.ref T) kV doc pm an cdv ct))|`(177)=>`(∀ d∈ds,zI bits (.inr d)=some (.int (f d)))|`(178)=>`((.lst xs))|`(179)=>`(Fix 126 (crL L) (evL L) (niL L) m)|`(180)=>`(Array (Int×Value))|`(181)=>`(jJ q.1 (j4 tg (jE cap ρ) (λ ρ' h2=>ct.evC cl ρ' h2) (λ ρ' h2=>elt.ev cl ρ' h2)) q.2 [] h'=.ok xs h2)|`(182)=>`((jH rfl rfl 108))|`(183)=>`((notedBy 118 A env λ e s'=>R (.error e) s'))|`(184)=>`((.lst (ks.map Kn.d)))|`(185)=>`((λ ρ' h'=>r.run cl ρ' h'))|`(186)=>`(("deeds",.loc nd))
local macro_rules|`(187)=>`((.int i))|`(188)=>`((yI (JN rfl ⟨_,hc⟩ (zX (cns (qD rfl (qD rfl rfl hs 109 s1) hd 109 s2) (cns rfl 139)) (show 4<=1000 by decide)) hc lA) (zd (bnd rfl (bnd (bnd rfl (bnd (qD rfl rfl hs' 109 s1) sh)) rfl)) rfl)))|`(189)=>`((rwN 126 (crL L) (evL L) (niL L) m))|`(190)=>`((by decide +kernel))|`(191)=>`((bnd rfl (bnd rfl e0)))|`(192)=>`((.dK kvs))|`(193)=>`(A.handled=none)|`(194)=>`((l.map (·.1)))|`(195)=>`(List Int)|`(196)=>`((j7 rfl rfl 108))|`(197)=>`(⟨rfl,by decide,by decide,by decide⟩)|`(198)=>`((.lst (cs.map D.int)))|`(199)=>`(List (κ×V))|`(201)=>`((zv X NC scope H2.objs.size s₂ H₂ fp [] En))|`(202)=>`(FnOk X.prog X.w X.K X.mg X.base (CXs X.prog X.w) k f fd ps sp)
local macro_rules|`(203)=>`((zv X NC scope H2.objs.size s₂ H₂ fp (wK fp s5.heap) En))|`(204)=>`((ha pins s σ H _ I h))
set_option hygiene true
set_option autoImplicit true
set_option relaxedAutoImplicit true
section
open PySem
abbrev XQ:=List Str
abbrev XU:=Value->Shared->Prop
abbrev XV:=List Addr
abbrev XW:=List Value
abbrev XX:=Str->Int×Int
abbrev XY:=Option Str
abbrev XZ:=Nat->Value
abbrev XJ:=Str->Option Value
end
set_option Elab.async false
set_option linter.all false
set_option maxRecDepth 100000
noncomputable section
section
open PySem PySem.Spec PyProof.Rows PySem.W PySem.Calls
abbrev Y00:=@PySem.W.Frag
abbrev Y01:=@List.getElem?_eq_some_iff
abbrev Y02:=@Heap.get?_push_of_some
abbrev Y03:=@List.mem_cons_of_mem
abbrev Y04:=@List.length_map
abbrev Y05:=@List.mem_cons_self
abbrev Y06:=@List.mem_cons
abbrev Y07:=@List.getElem?_eq_getElem
abbrev Y08:=@List.length_cons
abbrev Y09:=@List.map_cons
abbrev Y0a:=@List.size_toArray
abbrev Y0b:=@Nat.le_refl
abbrev Y0c:=@List.mem_map
abbrev Y0d:=@Heap.get?_push_size
abbrev Y0e:=@List.length_append
abbrev Y0f:=@Heap.lt_size
abbrev Y0g:=@List.mem_singleton
abbrev Y0h:=@Bool.and_eq_true
abbrev Y0i:=@Nat.ne_of_lt
abbrev Y0j:=@List.getD_eq_getElem?_getD
abbrev Y0k:=@List.append_assoc
abbrev Y0l:=@List.getElem?_map
abbrev Y0m:=@List.getElem?_append_right
abbrev Y0n:=@Nat.le_trans
abbrev Y0o:=@List.mem_append_right
abbrev Y0p:=@List.not_mem_nil
abbrev Y0q:=@List.map_append
abbrev Y0r:=@List.mem_append
abbrev Y0s:=@List.nil_append
abbrev Y0t:=@Nat.lt_of_lt_of_le
abbrev Y0u:=@List.any_cons
abbrev Y0v:=@List.mem_of_getElem?
abbrev Y0w:=@List.mem_append_left
abbrev Y0x:=@Bool.false_ne_true
abbrev Y0y:=@List.pairwise_iff_getElem
abbrev Y0z:=@PySem.mem_of_lookup
abbrev Y10:=@List.map_map
abbrev Y11:=@List.getElem?_append_left
abbrev Y12:=@List.map_nil
abbrev Y13:=@List.append_nil
abbrev Y14:=@List.replicate_succ
abbrev Y15:=@List.nodup_cons
abbrev Y16:=@Bool.or_eq_true
abbrev Y17:=@PySem.W.kia_one
abbrev Y18:=@List.getElem?_set_ne
abbrev Y19:=@Heap.get?_update_other
abbrev Y1a:=@List.mem_filter
abbrev Y1b:=@List.idxOf_lt_length_of_mem
abbrev Y1c:=@List.find?_cons_of_neg
abbrev Y1d:=@Nat.lt_irrefl
abbrev Y1e:=@List.all_eq_true
abbrev Y1f:=@Heap.get?_update_self
abbrev Y1g:=@Heap.size_push
abbrev Y1h:=@Nat.zero_le
abbrev Y1i:=@List.foldl_cons
abbrev Y1j:=@List.getElem?_set_self
abbrev Y1k:=@Array.length_toList
abbrev Y1l:=@List.mem_range
abbrev Y1m:=@List.mem_filterMap
abbrev Y1n:=@Nat.lt_succ_self
abbrev Y1o:=@List.filterMap_cons
abbrev Y1p:=@PySem.W.mg_of
abbrev Y1q:=@Nat.sub_self
abbrev Y1r:=@List.pairwise_cons
abbrev Y1s:=@List.getElem?_eq_none
abbrev Y1t:=@Array.getElem?_toList
abbrev Y1u:=@List.getElem?_of_mem
abbrev Y1v:=@PyProof.Rows.slot_tuple_getitem
abbrev Y1w:=@List.length_set
abbrev Y1x:=@Bool.eq_iff_iff
abbrev Y1y:=@Nat.le_succ
abbrev Y1z:=@List.any_eq_true
abbrev Y20:=@PySem.W.cellsFrom_some
abbrev Y21:=@Option.map_eq_some_iff
abbrev Y22:=@List.find?_cons_of_pos
abbrev Y23:=@Nat.lt_of_le_of_lt
abbrev Y24:=@Int.emod_lt_of_pos
abbrev Y25:=@Nat.ne_of_gt
abbrev Y26:=@List.length_singleton
abbrev Y27:=@Int.pow_succ
abbrev Y28:=@List.nodup_append
abbrev Y29:=@List.flatten_cons
abbrev Y2a:=@List.flatMap_cons
abbrev Y2b:=@Heap.get?_none_of_le
abbrev Y2c:=@PyProof.Rows.F.plain_set_update_loop
abbrev Y2d:=@List.lookup_cons
abbrev Y2e:=@List.length_take
abbrev Y2f:=@Option.isSome_iff_exists
abbrev Y2g:=@Nat.le_of_lt
abbrev Y2h:=@List.filterMap_cons_some
abbrev Y2i:=@List.filterMap_cons_none
abbrev Y2j:=@PySem.F.plainAttrs_list
abbrev Y2k:=@Option.bind_eq_some_iff
abbrev Y2l:=@List.find?_cons
abbrev Y2m:=@Int.emod_nonneg
abbrev Y2n:=@Option.isSome_map
abbrev Y2o:=@Nat.lt_trichotomy
abbrev Y2p:=@Nat.lt_succ_of_lt
abbrev Y2q:=@List.length_range
abbrev Y2r:=@List.length_filter_le
abbrev Y2s:=@List.eq_nil_or_concat
abbrev Y2t:=@List.concat_eq_append
abbrev Y2u:=@Option.bind_some
abbrev Y2v:=@List.cons_append
abbrev Y2w:=@Int.mul_le_mul_of_nonneg_left
abbrev Y2x:=@PyProof.Rows.callWith_type1
abbrev Y2y:=@List.length_nil
abbrev Y2z:=@List.getElem_idxOf
abbrev Y30:=@List.append_of_mem
abbrev Y31:=@Bool.false_eq_true
abbrev Y32:=@List.lt_irrefl
abbrev Y33:=@List.getElem?_eq_none_iff
abbrev Y34:=@List.drop_eq_getElem_cons
abbrev Y35:=@PySem.W.kitx_list
abbrev Y36:=@PySem.F.args_tuple_add_2
abbrev Y37:=@List.reverse_cons
abbrev Y38:=@PySem.F.entry_tuple_add
abbrev Y39:=@List.length_eq_zero_iff
abbrev Y3a:=@List.all_cons
abbrev Y3b:=@Bool.or_false
abbrev Y3c:=@Option.getD_some
abbrev Y3d:=@Option.bind_none
abbrev Y3e:=@List.mem_flatMap
abbrev Y3f:=@List.map_reverse
abbrev Y3g:=@List.getElem_mem
abbrev Y3h:=@List.filter_cons
abbrev Y3i:=@PySem.F.slot_tuple_add
abbrev Y3j:=@Option.map_some
abbrev Y3k:=@PySem.W.hideAll_none
abbrev Y3l:=@PyProof.Rows.F.entry_set_update_loop
abbrev Y3m:=@Bool.and_false
abbrev Y3n:=@List.length_reverse
abbrev Y3o:=@List.lookup_append
abbrev Y3p:=@Bool.or_assoc
abbrev Y3q:=@Bool.false_or
abbrev Y3r:=@Int.toNat_natCast
abbrev Y3s:=@PyProof.Rows.callWith_builtin1
abbrev Y3t:=@Nat.lt_trans
abbrev Y3u:=@Nat.le_of_eq
abbrev Y3v:=@Int.mul_comm
abbrev Y3w:=@List.mem_reverse
abbrev Y3x:=@List.length_drop
end
namespace L2
open PySem PySem.Spec PyProof.Rows
abbrev Key:=Sum Int Str
def yX:Key->Value->Bool
 | .inl k,v=>Value.isInt k v
 | .inr x,v=>Value.isStrOf x v
def z9u (w:World):Key->Int
 | .inl k=>hashInt k
 | .inr x=>hashStr w x
theorem zN:∀ {k:Key}{v:Value},yX k v=true->(∃ i t,k=Sum.inl i/\v=Value.int i t)\/(∃ x t,k=Sum.inr x/\v=Value.str x t)
 | .inl i,v,h=>by
  obtain ⟨t,e⟩:=Value.isInt_shape (k:=i) (v:=v) h;exact .inl ⟨i,t,rfl,e⟩
 | .inr x,v,h=>by
  obtain ⟨t,e⟩:=Value.isStrOf_shape (x:=x) (v:=v) h;exact .inr ⟨x,t,rfl,e⟩
theorem G9 (i:Int)(t:Tok):yX (.inl i) (.int i t)=true:=by simp [yX,Value.isInt]
theorem Ga (x:Str)(t:Tok):yX (.inr x) (.str x t)=true:=by simp [yX,Value.isStrOf]
theorem z4v (a b:Int):decide ((Sum.inl a:Key)=Sum.inl b)=(a==b):=by
 by_cases e:a=b
 ·subst e;simp
 ·have h:¬ (Sum.inl a:Key)=Sum.inl b:=λ q=>e (Sum.inl.inj q);rw [decide_eq_false h];exact (beq_eq_false_iff_ne.mpr e).symm
theorem z4w (a b:Str):decide ((Sum.inr a:Key)=Sum.inr b)=decide (a=b):=by
 by_cases e:a=b
 ·subst e;simp
 ·have h:¬ (Sum.inr a:Key)=Sum.inr b:=λ q=>e (Sum.inr.inj q);rw [decide_eq_false h,decide_eq_false e]
theorem z4x (a:Int)(b:Str):decide ((Sum.inl a:Key)=Sum.inr b)=false:=decide_eq_false (λ q=>nomatch q)
theorem z4y (a:Str)(b:Int):decide ((Sum.inr a:Key)=Sum.inl b)=false:=decide_eq_false (λ q=>nomatch q)
def zt (prog:156)(w:World):PySem.KeyKind prog w Key where
 is:=yX
 hash:=z9u w
 inj:=λ v a b ha hb=>by
  rcases zN ha with ⟨i,t,rfl,rfl⟩ | ⟨x,t,rfl,rfl⟩
  ·rcases zN hb with ⟨j,u,rfl,e⟩ | ⟨y,u,rfl,e⟩
   ·injection e with e1 _;rw [e1]
   ·exact nomatch e
  ·rcases zN hb with ⟨j,u,rfl,e⟩ | ⟨y,u,rfl,e⟩
   ·exact nomatch e
   ·injection e with e1 _;rw [e1]
 byValue:=λ k v h=>by
  rcases zN h with ⟨i,t,rfl,rfl⟩ | ⟨x,t,rfl,rfl⟩<;>rfl
 pyHash:=λ hv h=>by
  rcases zN hv with ⟨i,t,rfl,rfl⟩ | ⟨x,t,rfl,rfl⟩
  ·exact wpAny_pyHash_int h
  ·exact wpAny_pyHash_str h
 eqBool:=λ hu hv h=>by
  rcases zN hu with ⟨i,t,rfl,rfl⟩ | ⟨x,t,rfl,rfl⟩
  ·rcases zN hv with ⟨j,u,rfl,rfl⟩ | ⟨y,u,rfl,rfl⟩
   ·rw [z4v] at h;exact wpAny_eqBool_int h
   ·rw [z4x] at h;exact SeqAt.EqAt.int_str i t y u _ _ _ _ h
  ·rcases zN hv with ⟨j,u,rfl,rfl⟩ | ⟨y,u,rfl,rfl⟩
   ·rw [z4y] at h;exact SeqAt.EqAt.str_int x t j u _ _ _ _ h
   ·rw [z4w] at h;exact wpAny_eqBool_str h
 «strs»:=λ k x t v h=>by
  rcases zN h with ⟨i,u,rfl,e⟩ | ⟨y,u,rfl,e⟩
  ·exact nomatch e
  ·injection e with e1 _;subst e1;cases v<;>rfl
theorem Q9 (prog:156)(w:World)(i:Int)(t:Tok):(zt prog w).is (.inl i) (.int i t)=true:=G9 i t
theorem Qa (prog:156)(w:World)(x:Str)(t:Tok):(zt prog w).is (.inr x) (.str x t)=true:=Ga x t
inductive V where
 | non | bl (b:Bool) | int (i:Int) | str (x:Str) | byt (b:Array UInt8) | flt (b:UInt64) | ref (a:Addr) | ty (n:String)
 deriving DecidableEq
def RelV:V->Value->Prop
 | .non,u=>u=Value.none
 | .bl b,u=>u=Value.bool b
 | .int i,u=>∃ t,u=Value.int i t
 | .str x,u=>∃ t,u=Value.str x t
 | .byt b,u=>∃ t,u=Value.bytes b t
 | .flt b,u=>∃ t,u=Value.float b t
 | .ref a,u=>u=Value.ref a
 | .ty n,u=>u=Value.type n
abbrev Vals:List V->List Value->Prop:=Paired RelV
theorem Vals.length {xs:157}{us:XW}(r:Vals xs us):xs.length=us.length:=Paired.length r
theorem Vals.get:∀ {xs:157}{us:XW}{i:Nat}{x:V},Vals xs us->xs[i]?=some x->∃ u,us[i]?=some u/\RelV x u
 | _,_,_,_,.nil,e=>by simp at e
 | _,_,0,_,.cons r _,e=>by simp at e;subst e;exact ⟨_,rfl,r⟩
 | _,_,i+1,x,.cons _ t,e=>by
  obtain ⟨u,h1,h2⟩:=Vals.get (i:=i) (x:=x) t (by simpa using e);exact ⟨u,by simpa using h1,h2⟩
theorem Vals.set {x:V}{u:Value}(r:RelV x u):∀ {xs:157}{us:XW} (i:Nat),Vals xs us->Vals (xs.set i x) (us.set i u)
 | _,_,_,.nil=>.nil
 | _,_,0,.cons _ t=>.cons r t
 | _,_,i+1,.cons q t=>.cons q (Vals.set r i t)
theorem Vals.append:∀ {xs ys:157}{us ws:XW},Vals xs us->Vals ys ws->Vals (xs++ys) (us++ws)
 | _,_,_,_,.nil,s=>s
 | _,_,_,_,.cons r t,s=>.cons r (Vals.append t s)
theorem Vals.take:∀ {xs:157}{us:XW} (n:Nat),Vals xs us->Vals (xs.take n) (us.take n)
 | _,_,0,_=>.nil
 | _,_,_+1,.nil=>.nil
 | _,_,n+1,.cons r t=>.cons r (Vals.take n t)
theorem Vals.drop:∀ {xs:157}{us:XW} (n:Nat),Vals xs us->Vals (xs.drop n) (us.drop n)
 | _,_,0,r=>r
 | _,_,_+1,.nil=>.nil
 | _,_,n+1,.cons _ t=>Vals.drop n t
def RelO:Option V->Option Value->Prop
 | some v,some u=>RelV v u
 | none,none=>True
 | _,_=>False
def KV {κ:Type}:List (κ×V)->List (κ×Value)->Prop:=Paired λ (p:κ×V) (q:κ×Value)=>p.1=q.1/\RelV p.2 q.2
def kV:Key->V
 | .inl i=>.int i
 | .inr x=>.str x
inductive HO where
 | lst (xs:157)
 | tup (xs:157)
 | dK (kvs:152) | dT (kvs:List (List Key×V))
 | set (S:Int->Bool) (n:Nat)
 | ins (C dx:Addr) (fs:List (Str×V))
 | own (x:Addr)
 | xd (fs:List (Str×V))
 | met (f x:Addr)
 | rng (lo hi:Int)
 | frz (o:Obj) (u:HO)
 | tbl (ps:Array Value)
 | ext (φ:Heap->Prop)
abbrev Hp:=Addr->Option HO
def upd (H:Hp)(a:Addr)(o:HO):Hp:=λ b=>if b=a then some o else H b
theorem zw {H:Hp}{a:Addr}{o:HO}:upd H a o a=some o:=by unfold upd;rw [if_pos rfl]
theorem zl {H:Hp}{a b:Addr}{o:HO}(h:b≠a):upd H a o b=H b:=by unfold upd;rw [if_neg h]
theorem z7t {H:Hp}{a b:Addr}{o u:HO}(h:H a=some o)(h':H b=some u)(d:o≠u):a≠b:=by
 intro e;subst e;rw [h] at h';exact d (Option.some.inj h')
theorem jz {H:Hp}{a b:Addr}{o:HO}(h:H a=some o)(h':H b=none):a≠b:=by
 intro e;subst e;rw [h] at h';cases h'
section
variable (P:156)(w:World)
def ObjOk (H:Hp)(h:Heap)(a:Addr):HO->Prop
 | .lst xs=>xs.length<=sizeLine/\∃ (its:XW) (n:Nat),Vals xs its/\h.get? a=some { cls:=.type "list",data:=.seq its.toArray n }
 | .tup xs=>xs.length<=sizeLine/\∃ its:List Value,Vals xs its/\IsTup h a its.toArray
 | .dK kvs=>kvs.length<=sizeLine/\(a==sysModules)=false/\∃ vs,KV kvs vs/\h.DictOf (zt P w) a vs
 | .dT kvs=>kvs.length<=sizeLine/\(a==sysModules)=false/\∃ xs:List (List Key×Addr×Value),
   Paired (λ (p:List Key×V) (q:List Key×Addr×Value)=>p.1=q.1/\H q.2.1=some (.tup (p.1.map kV))/\RelV p.2 q.2.2) kvs xs /\
   ∃ o es ep,h.get? a=some o/\o.ExactDict/\o.data=.dict es ep/\es.toList=xs.map (entryOfKey (tupleKind (zt P w)))/\(xs.map (·.1)).Nodup
 | .set S n=>h.SetOf (intKind P w) a S n
 | .ins C dx fs=>H dx=some (.own a)/\fs.length<=1000/\dx≠a/\h.get? a=some (PySem.W.instObj C dx) /\
   ∃ mA,h.Ns1 dx mA/\(∀ f,RelO (fs.lookup f) (mA f))/\PySem.Within mA (fs.map (·.1))
 | .own _=>∃ o,h.get? a=some o
 | .xd fs=>∃ mA,h.Ns1 a mA/\∀ f,RelO (fs.lookup f) (mA f)
 | .rng lo hi=>∃ t u v,h.get? a=some { cls:=.type "range",data:=.fields #[.int lo t,.int hi u,.int 1 v] }
 | .frz o u=>h.get? a=some o/\ObjOk H h a u
 | .tbl ps=>h.get? a=some { cls:=.none,data:=.fields ps }
 | .met f x=>h.get? a=some (PySem.W.methodObj (.ref f) (.ref x))
 | .ext φ=>φ h/\(∃ o,h.get? a=some o)/\∀ h1 h2:Heap,φ h1->(∀ o,h1.get? a=some o->h2.get? a=some o)->φ h2
def HOk (H:Hp)(h:Heap):Prop:=∀ a o,H a=some o->ObjOk P w H h a o
end
section
variable {P:156}{w:World}{H H':Hp}{h h':Heap}{a:Addr}{o:HO}
theorem ObjOk.lt (x:ObjOk P w H h a o):a<h.objs.size:=by
 cases o with
 | lst xs=>obtain ⟨_,_,_,_,e⟩:=x;exact Y0f e
 | tup xs=>obtain ⟨_,_,_,p⟩:=x;exact p.lt
 | dK kvs=>obtain ⟨_,_,_,_,o,_,_,e,_⟩:=x;exact Y0f e
 | dT kvs=>obtain ⟨_,_,_,_,o,_,_,e,_⟩:=x;exact Y0f e
 | set S n=>obtain ⟨o,_,_,_,e,_⟩:=x;exact Y0f e
 | ins C dx fs=>obtain ⟨_,_,_,e,_⟩:=x;exact Y0f e
 | own y=>obtain ⟨_,e⟩:=x;exact Y0f e
 | xd fs=>obtain ⟨_,⟨_,_,_,e,_⟩,_⟩:=x;exact Y0f e
 | rng lo hi=>obtain ⟨_,_,_,e⟩:=x;exact Y0f e
 | frz ob u=>obtain ⟨e,_⟩:=x;exact Y0f e
 | tbl ps=>exact Y0f (show h.get? a=some _ from x)
 | met f y=>exact Y0f (show h.get? a=some _ from x)
 | ext φ=>obtain ⟨_,⟨_,e⟩,_⟩:=x;exact Y0f e
theorem Paired.mapP {α β:Type}{F G:α->β->Prop}:∀ {l₁:List α}{l₂:List β},Paired F l₁ l₂->(∀ a b,F a b->G a b)->Paired G l₁ l₂
 | _,_,.nil,_=>.nil
 | _,_,.cons r t,f=>.cons (f _ _ r) (Paired.mapP t f)
theorem Paired.imp' {α β:Type}{F G:α->β->Prop}(f:∀ a b,F a b->G a b){l₁:List α}{l₂:List β}(r:Paired F l₁ l₂):Paired G l₁ l₂:=Paired.mapP r f
theorem ObjOk.stay (x:ObjOk P w H h a o)(k:∀ b u,(b=a\/H b=some (.own a))->h.get? b=some u->h'.get? b=some u)
  (ho:∀ b,H b=some (.own a)->H' b=some (.own a)) (ht:∀ b xs,H b=some (.tup xs)->H' b=some (.tup xs)):ObjOk P w H' h' a o:=by
 induction o with
 | lst xs=>obtain ⟨z,its,n,r,e⟩:=x;exact ⟨z,its,n,r,k _ _ (.inl rfl) e⟩
 | tup xs=>obtain ⟨z,its,r,ob,e,c⟩:=x;exact ⟨z,its,r,ob,k _ _ (.inl rfl) e,c⟩
 | dK kvs=>obtain ⟨z,y,vs,r,ob,es,ep,e,c⟩:=x;exact ⟨z,y,vs,r,ob,es,ep,k _ _ (.inl rfl) e,c⟩
 | dT kvs =>
  obtain ⟨z,y,xs,r,ob,es,ep,e,c⟩:=x;exact ⟨z,y,xs,Paired.mapP r λ p q z=>⟨z.1,ht _ _ z.2.1,z.2.2⟩,ob,es,ep,k _ _ (.inl rfl) e,c⟩
 | set S n=>obtain ⟨ob,es,ep,t,e,c⟩:=x;exact ⟨ob,es,ep,t,k _ _ (.inl rfl) e,c⟩
 | ins C dx fs =>
  obtain ⟨d,z,ne,e,mA,⟨od,es,ep,e2,c⟩,r⟩:=x;exact ⟨ho _ d,z,ne,k _ _ (.inl rfl) e,mA,⟨od,es,ep,k _ _ (.inr d) e2,c⟩,r⟩
 | own y=>obtain ⟨ob,e⟩:=x;exact ⟨ob,k _ _ (.inl rfl) e⟩
 | xd fs=>obtain ⟨mA,⟨od,es,ep,e,c⟩,r⟩:=x;exact ⟨mA,⟨od,es,ep,k _ _ (.inl rfl) e,c⟩,r⟩
 | rng lo hi=>obtain ⟨t,u,v,e⟩:=x;exact ⟨t,u,v,k _ _ (.inl rfl) e⟩
 | frz ob u ih=>obtain ⟨e,q⟩:=x;exact ⟨k _ _ (.inl rfl) e,ih q⟩
 | tbl ps =>
  have e:h.get? a=some { cls:=.none,data:=.fields ps }:=x;show h'.get? a=some { cls:=.none,data:=.fields ps };exact k a _ (.inl rfl) e
 | met f y =>
  have e:h.get? a=some (PySem.W.methodObj (.ref f) (.ref y)):=x;show h'.get? a=some (PySem.W.methodObj (.ref f) (.ref y));exact k a _ (.inl rfl) e
 | ext φ=>obtain ⟨p,⟨o,e⟩,st⟩:=x;exact ⟨st _ _ p λ o q=>k _ _ (.inl rfl) q,⟨o,k _ _ (.inl rfl) e⟩,st⟩
theorem HOk.lt (x:HOk P w H h)(e:H a=some o):a<h.objs.size:=(x a o e).lt
theorem HOk.fresh (x:HOk P w H h)(e:h.objs.size<=a):H a=none:=by
 cases q:H a with
 | none=>rfl
 | some u=>exact absurd (Y0t (x.lt q) e) (Y1d _)
theorem HOk.kept (x:HOk P w H h)(k:∀ b u,h.get? b=some u->h'.get? b=some u):HOk P w H h':=λ a o e =>
 (x a o e).stay (λ b u _ q=>k b u q) (λ _ q=>q) λ _ _ q=>q
theorem HOk.laid (x:HOk P w H h)(k:∀ b u,h.get? b=some u->h'.get? b=some u)(hp:h.objs.size<=a)(new:ObjOk P w (upd H a o) h' a o):HOk P w (upd H a o) h':=λ b u e=>by
 have hn:=x.fresh hp;by_cases hb:b=a
 ·subst hb;rw [zw] at e;cases e;exact new
 ·rw [zl hb] at e;exact (x b u e).stay (λ c v _ q=>k c v q) (λ c q=>by rw [zl (jz q hn)];exact q) λ c xs q=>by rw [zl (jz q hn)];exact q
end
def Rd (H:Hp)(a:Addr)(u:HO):Prop:=H a=some u\/∃ o,H a=some (.frz o u)
theorem Rd.ok {P:156}{w:World}{H:Hp}{h:Heap}{a:Addr}{u:HO}(r:Rd H a u)(x:HOk P w H h):ObjOk P w H h a u:=by
 rcases r with r | ⟨o,r⟩
 ·exact x a u r
 ·obtain ⟨_,q⟩:=x a _ r;exact q
def Mut:Option HO->Prop
 | some (.lst _)=>True
 | some (.dK _)=>True
 | some (.dT _)=>True
 | some (.set _ _)=>True
 | some (.ins _ _ _)=>True
 | some (.ext _)=>True
 | _=>False
section
variable {P:156}{w:World}{H:Hp}{h h':Heap}{x e:Addr}{o':HO}
theorem HOk.write (ok:HOk P w H h)(mu:Mut (H x))(he:e=x\/H e=some (.own x))(k:∀ b u,b≠e->h.get? b=some u->h'.get? b=some u)(heo:∃ u,h'.get? e=some u)
  (new:ObjOk P w (upd H x o') h' x o'):HOk P w (upd H x o') h':=λ b u q=>by
 have nown:∀ c y,H c=some (.own y)->c≠x:=λ c y r z=>by subst z;rw [r] at mu;exact mu
 have ntup:∀ c xs,H c=some (.tup xs)->c≠x:=λ c xs r z=>by subst z;rw [r] at mu;exact mu
 by_cases hb:b=x
 ·subst hb;rw [zw] at q;cases q;exact new
 ·rw [zl hb] at q;by_cases hbe:b=e
  ·have q':H b=some (.own x):=by
    rcases he with z | z
    ·exact absurd (hbe.trans z) hb
    ·rw [hbe];exact z
   rw [q] at q';cases q';obtain ⟨v,hv⟩:=heo;exact ⟨v,by rw [hbe];exact hv⟩
  ·refine (ok b u q).stay (λ c v hc r=>k c v ?_ r) (λ c r=>by rw [zl (nown c b r)];exact r) λ c xs r=>by rw [zl (ntup c xs r)];exact r
   rcases hc with rfl | hc
   ·exact hbe
   ·rintro rfl
    rcases he with z | z
    ·exact nown c b hc z
    ·rw [hc] at z;cases z;exact hb rfl
end
structure Un (fs ex:XV)(H H':Hp)(h h':Heap):Prop where
 keep:∀ b o,h.get? b=some o->H b=none->b∉fs->b∉ex->h'.get? b=some o
 slot:∀ b o,h.get? b=some o->H b=none->b∈fs->b∉ex->∃ sl,h'.get? b=some { o with slots:=sl }
 free:∀ b o,h.get? b=some o->H b=none->b∉ex->H' b=none
 there:∀ b o,h.get? b=some o->b∉ex->∃ o',h'.get? b=some o'
 tups:∀ b xs,H b=some (.tup xs)->H' b=some (.tup xs)
 frzs:∀ b o u,H b=some (.frz o u)->H' b=some (.frz o u)
 tbls:∀ b ps,H b=some (.tbl ps)->∃ more,H' b=some (.tbl (ps++more))
section
variable {fs fs' ex ex':XV}{H H1 H2:Hp}{h h1 h2 h':Heap}{a x e:Addr}{o:HO}
theorem Un.any (u:Un fs ex H H1 h h1){b:Addr}{ob:Obj}(q:h.get? b=some ob)(n:H b=none)(hx:b∉ex):∃ sl,h1.get? b=some { ob with slots:=sl }:=by
 by_cases hb:b∈fs
 ·exact u.slot b ob q n hb hx
 ·exact ⟨ob.slots,u.keep b ob q n hb hx⟩
theorem Un.kept (k:∀ b u,h.get? b=some u->h'.get? b=some u):Un fs ex H H h h' :=
 ⟨λ b ob q _ _ _=>k b ob q,λ b ob q _ _ _=>⟨ob.slots,k b ob q⟩,λ _ _ _ n _=>n,λ b ob q _=>⟨ob,k b ob q⟩,λ _ _ q=>q,λ _ _ _ q=>q,λ _ ps q=>⟨#[],by rw [q];simp⟩⟩
theorem Un.refl:Un fs ex H H h h:=Un.kept λ _ _ q=>q
theorem Un.laid (k:∀ b u,h.get? b=some u->h'.get? b=some u)(hp:h.objs.size<=a)(hn:H a=none):Un fs ex H (upd H a o) h h' where
 keep:=λ b u q _ _ _=>k b u q
 slot:=λ b u q _ _ _=>⟨u.slots,k b u q⟩
 free:=λ b u q n _=>by rw [zl (Y0i (Y0t (Y0f q) hp))];exact n
 there:=λ b u q _=>⟨u,k b u q⟩
 tups:=λ b xs q=>by rw [zl (jz q hn)];exact q
 frzs:=λ b u xs q=>by rw [zl (jz q hn)];exact q
 tbls:=λ b ps q=>⟨#[],by rw [zl (jz q hn),q];simp⟩
theorem Un.write (mu:Mut (H x))(he:e=x\/H e=some (.own x))(k:∀ b u,b≠e->h.get? b=some u->h'.get? b=some u)(heo:∃ u,h'.get? e=some u):Un fs ex H (upd H x o) h h':=by
 have hx:∀ b,H b=none->b≠x:=λ b n z=>by subst z;rw [n] at mu;exact mu
 have hb:∀ b,H b=none->b≠e:=λ b n z=>by
  subst z;rcases he with r | r
  ·exact hx b n r
  ·rw [n] at r;cases r
 have hm:∀ b u,H b=some u->¬ Mut (some u)->b≠x:=λ b u q nm z=>by subst z;rw [q] at mu;exact nm mu
 refine ⟨λ b u q n _ _=>k b u (hb b n) q,λ b u q n _ _=>⟨u.slots,k b u (hb b n) q⟩,λ b u q n _=>by rw [zl (hx b n)];exact n,λ b u q _=>?_,
  λ b xs q=>by rw [zl (hm b _ q λ z=>z)];exact q,λ b u xs q=>by rw [zl (hm b _ q λ z=>z)];exact q,λ b ps q=>⟨#[],by rw [zl (hm b _ q λ z=>z),q];simp⟩⟩
 by_cases hbe:b=e
 ·subst hbe;exact heo
 ·exact ⟨u,k b u hbe q⟩
end
def trk (h:Heap)(H:Hp):List Addr:=(List.range h.objs.size).filter λ a=>(H a).isSome
def JZ (h:Heap)(H:Hp):Heap:=PySem.W.hideAll h (trk h H)
theorem Gb (h:Heap)(H:Hp):(JZ h H).objs.size=h.objs.size:=PySem.W.hideAll_size _ _
theorem O9 {h:Heap}{H:Hp}{b:Addr}{o:Obj}(e:h.get? b=some o)(n:H b=none):(JZ h H).get? b=some o :=
 PySem.W.hideAll_get _ e λ hm=>by
  have q:(H b).isSome=true:=(Y1a.mp hm).2;rw [n] at q;simp at q
theorem z10 {h:Heap}{H:Hp}{b:Addr}{o:Obj}(e:(JZ h H).get? b=some o):h.get? b=some o/\H b=none:=by
 have e':h.get? b=some o:=PySem.W.of_hideAll (trk h H) e;refine ⟨e',?_⟩;cases q:H b with
 | none=>rfl
 | some x =>
  have hm:b∈trk h H:=Y1a.mpr ⟨Y1l.mpr (Y0f e'),by simp [q]⟩;have z:(JZ h H).get? b=none:=Y3k (trk h H) hm;rw [z] at e;cases e
def z11 (g h:Heap)(L:Addr):List (Addr×Obj):=(List.range h.objs.size).filterMap λ a=>if a=L\/(g.get? a).isSome=true then none else (h.get? a).map λ o=>(a,o)
def rest (g h:Heap)(L d:Addr):List (Addr×Obj):=(z11 g h L).filter λ p=>decide (p.1≠d)
structure Mod (K:Y00)(mg:XJ)(base:Heap):Prop where
 kin:K.In base
 glob:base.Ns mainGlobals mg
 blt:∃ mb,base.Ns builtinsNs mb/\∀ x:Str,x≠"__name__"->mb x=bootBuiltins x
 nolimit:base.NoLimit
structure Cx where
 prog:Program
 w:World
 K:Y00
 mg:Str->Option Value
 base:Heap
 A:Around
 N:List Str
 s₀:Shared
 H₀:Hp
 env:Env
 outer:List Env
 stack:List Env
 ex:List Addr
 fn:Str->Bool
 calm:Bool
 pn:List (Addr×Obj)
 xe:Value->Shared->Prop
def frs (l:List Env):List Addr:=l.filterMap (·.frame)
abbrev Cx.fs (X:Cx):List Addr:=frs X.outer
def Vis (sc:Scope)(x:Str):Prop:=sc.names.lookup x=some .local\/sc.names.lookup x=some .cell\/sc.names.lookup x=some .free
def Loc (sc:Scope)(x:Str):Prop:=sc.names.lookup x=some .local\/sc.names.lookup x=some .cell
def z9v (env:Env)(h:Heap)(m:XJ)(x:Str)(u:Value):Prop :=
 (env.kindOf x=some .local/\m x=some u)\/((env.kindOf x=some .cell\/env.kindOf x=some .free)/\∃ c,env.cells.lookup x=some c/\h.IsCell c (some u))
structure Cx.Ok (X:Cx):Prop where
 mod:Mod X.K X.mg X.base
 kind:X.env.scope.kind=.function
 glob:X.env.globals=mainGlobals
 blt:X.env.builtins=builtinsNs
 above:X.s₀.heap.objs.size<=X.env.locals
 inj:∀ x y c,X.env.cells.lookup x=some c->X.env.cells.lookup y=some c->x=y
 has:∀ x,(X.env.kindOf x=some .cell\/X.env.kindOf x=some .free)->∃ c,X.env.cells.lookup x=some c
 cab:∀ x c,X.fn x=true->X.env.cells.lookup x=some c->X.s₀.heap.objs.size<=c
 hd:X.calm=true->X.A.handled=none
 frames:X.A.frames=some X.stack
 stk:X.stack=X.outer\/(X.stack=X.env::X.outer/\X.env.frame=some X.env.locals)
 exf:∀ b∈X.ex,b≠X.env.locals/\∀ x c,X.env.cells.lookup x=some c->c≠b
 bs:∀ b o,X.base.get? b=some o->X.s₀.heap.get? b=some o/\X.H₀ b=none
 bsz:X.base.objs.size<=X.s₀.heap.objs.size
 noex:∀ b o,X.base.get? b=some o->b∉X.ex
 exfs:∀ b∈X.ex,b∉X.fs
 funs:X.s₀.heap.FunFrames X.base X.outer
 frf:∀ b∈X.fs,X.H₀ b=none
structure Inv (X:Cx)(pins:115)(σ:List (Option V))(H:Hp)(s:130):Prop where
 ok:X.Ok
 os:s.os=X.s₀.os
 bare:AllBare s.gens
 base:Un X.fs X.ex X.H₀ H X.s₀.heap s.heap
 loc:∃ m,s.heap.Ns X.env.locals m/\∀ (i:Nat) (x:Str) (v:V),X.N[i]?=some x->σ[i]?=some (some v)->Vis X.env.scope x->∃ u,RelV v u/\z9v X.env s.heap m x u
 cell:∀ x c,X.env.cells.lookup x=some c->∃ v,s.heap.IsCell c v
 free:H X.env.locals=none
 freeC:∀ x c,X.env.cells.lookup x=some c->H c=none
 pin:∀ p∈X.pn++pins,s.heap.get? p.1=some p.2/\H p.1=none/\p.1≠X.env.locals/\p.1∉X.fs/\∀ v,p.2.data≠.cell v
 hok:HOk X.prog X.w H s.heap
 len:σ.length=X.N.length
section
variable {X:Cx}{pins:115}{σ:List (Option V)}{H H':Hp}{s:130}{h':Heap}
theorem Cx.Ok.nofr (ok:X.Ok){b:Addr}{o:Obj}(e:X.base.get? b=some o):b∉X.fs:=λ hb=>by
 have:=(ok.funs.mem hb).1
 rw [e] at this;cases this
theorem Inv.bs (I:110):∀ b o,X.base.get? b=some o->s.heap.get? b=some o/\H b=none:=λ b o e =>
 ⟨I.base.keep b o (I.ok.bs b o e).1 (I.ok.bs b o e).2 (I.ok.nofr e) (I.ok.noex b o e),I.base.free b o (I.ok.bs b o e).1 (I.ok.bs b o e).2 (I.ok.noex b o e)⟩
theorem Inv.bk (I:110):∀ b o,X.base.get? b=some o->s.heap.get? b=some o:=λ b o e=>(I.bs b o e).1
theorem Inv.mod (I:110):Mod X.K X.mg X.base:=I.ok.mod
theorem Inv.kIn (I:110):X.K.In s.heap:=I.ok.mod.kin.keeps I.bk
theorem Inv.lt (I:110):X.env.locals<s.heap.objs.size:=let ⟨_,hn,_⟩:=I.loc;hn.lt
theorem Inv.sz (I:110):X.s₀.heap.objs.size<=s.heap.objs.size:=Y0n I.ok.above (Y2g I.lt)
theorem Inv.nofs (I:110){a:Addr}(h:s.heap.objs.size<=a):a∉X.fs:=λ hb=>by
 obtain ⟨_,o,ho,_⟩:=I.ok.funs.mem hb;exact absurd (Y0t (Y0f ho) (Y0n I.sz h)) (Y1d _)
theorem Inv.cne (I:110):∀ x c,X.env.cells.lookup x=some c->c≠X.env.locals:=λ x c e z=>by
 obtain ⟨v,o,ho,hd⟩:=I.cell x c e;obtain ⟨m,⟨o',es,ep,ho',hd',_⟩,_⟩:=I.loc;rw [z,ho'] at ho;cases ho;rw [hd'] at hd;cases hd
theorem Inv.funs (I:110):s.heap.FunFrames X.base X.outer:=by
 have all:∀ (l:List Env),(∀ b∈frs l,b∈X.fs)->X.s₀.heap.FunFrames X.base l->s.heap.FunFrames X.base l:=by
  intro l
  induction l with
  | nil=>intro _ _;trivial
  | cons env r ih =>
   intro hs hl;obtain ⟨hk,⟨L,o,hf,hn,ho,hd⟩,hr⟩:=hl;have hL:L∈X.fs:=hs L (by unfold frs;rw [Y1o,hf];exact Y05);obtain ⟨sl,e⟩:=I.base.slot L o ho (I.ok.frf L hL) hL λ z=>I.ok.exfs L z hL;exact ⟨hk,⟨L,_,hf,hn,e,hd⟩,ih (λ b hb=>hs b (by unfold frs;rw [Y1o,hf];exact Y03 _ hb)) hr⟩
 exact all X.outer (λ _ hb=>hb) I.ok.funs
theorem Inv.stack (I:110):s.heap.FunFrames X.base X.stack:=by
 rcases I.ok.stk with e | ⟨e,hf⟩
 ·rw [e];exact I.funs
 ·rw [e];obtain ⟨m,hn,_⟩:=I.loc;refine .cons (by rw [I.ok.kind];decide) hf hn ?_ I.funs;exact Y2b (Y0n I.ok.bsz I.ok.above)
theorem Inv.stkSub (I:110):∀ b∈frs X.stack,b∈X.env.locals::X.fs:=λ b hb=>by
 rcases I.ok.stk with e | ⟨e,hf⟩
 ·rw [e] at hb;exact Y03 _ hb
 ·rw [e] at hb;unfold frs at hb;rw [Y1o,hf] at hb;exact hb
theorem Inv.stkFree (I:110):∀ b∈frs X.stack,H b=none:=λ b hb=>by
 rcases Y06.mp (I.stkSub b hb) with e | hb
 ·rw [e];exact I.free
 ·obtain ⟨_,o,ho,_⟩:=I.ok.funs.mem hb;exact I.base.free b o ho (I.ok.frf b hb) λ z=>I.ok.exfs b z hb
theorem Inv.step {g':Array GenState}{t':Nat}{d':Drawn}{ch:XV}(I:110)
  (hch:149)
  (keep:∀ b o,b≠X.env.locals->b∉X.fs->b∉ch->s.heap.get? b=some o->H b=none->h'.get? b=some o)
  (slot:∀ b o,b≠X.env.locals->b∈X.fs->b∉ch->s.heap.get? b=some o->H b=none->∃ sl,h'.get? b=some { o with slots:=sl }) (free:∀ b o,b∉ch->s.heap.get? b=some o->H b=none->H' b=none)
  (there:∀ b o,b∉ch->s.heap.get? b=some o->∃ o',h'.get? b=some o')
  (tups:∀ b xs,H b=some (.tup xs)->H' b=some (.tup xs)) (frzs:∀ b o u,H b=some (.frz o u)->H' b=some (.frz o u)) (tbls:∀ b ps,H b=some (.tbl ps)->∃ more,H' b=some (.tbl (ps++more)))
  (ns:∀ m,s.heap.Ns X.env.locals m->h'.Ns X.env.locals m) (hok:HOk X.prog X.w H' h') (hg:AllBare g') :
  Inv X pins σ H' { s with heap:=h',gens:=g',drawn:=d',toks:=t' }:=by
 have neL:∀ b o,X.s₀.heap.get? b=some o->b≠X.env.locals:=λ b o e=>Y0i (Y0t (Y0f e) I.ok.above);have neC:∀ b o,X.s₀.heap.get? b=some o->b∉X.ex->b∉ch:=λ b o e hx hb=>by
  rcases (hch b hb).1 with z | z
  ·exact hx z
  ·exact absurd (Y0t (Y0f e) z) (Y1d _)
 have cellK:∀ x c,X.env.cells.lookup x=some c->∀ v,s.heap.IsCell c v->h'.IsCell c v:=λ x c e v ⟨o,ho,hd⟩=>by
  have nch:c∉ch:=λ z=>(hch c z).2.2.1 x c e rfl;by_cases hc:c∈X.fs
  ·obtain ⟨sl,q⟩:=slot c o (I.cne x c e) hc nch ho (I.freeC x c e);exact ⟨_,q,hd⟩
  ·exact ⟨o,keep c o (I.cne x c e) hc nch ho (I.freeC x c e),hd⟩
 refine ⟨I.ok,I.os,hg,⟨λ b o e n hb hx=>?_,λ b o e n hb hx=>?_,λ b o e n hx=>?_,λ b o e hx=>?_,λ b xs e=>tups b xs (I.base.tups b xs e),λ b o xs e=>frzs b o xs (I.base.frzs b o xs e),λ b ps e=>?_⟩,?_,λ x c e=>?_,?_,λ x c e=>?_,λ p hp=>?_,hok,I.len⟩
 ·exact keep b o (neL b o e) hb (neC b o e hx) (I.base.keep b o e n hb hx) (I.base.free b o e n hx)
 ·obtain ⟨sl,e1⟩:=I.base.slot b o e n hb hx;obtain ⟨sl',e2⟩:=slot b _ (neL b o e) hb (neC b o e hx) e1 (I.base.free b o e n hx);exact ⟨sl',e2⟩
 ·obtain ⟨o',e1⟩:=I.base.there b o e hx;exact free b o' (neC b o e hx) e1 (I.base.free b o e n hx)
 ·obtain ⟨o',e1⟩:=I.base.there b o e hx;exact there b o' (neC b o e hx) e1
 ·obtain ⟨m1,e1⟩:=I.base.tbls b ps e;obtain ⟨m2,e2⟩:=tbls b _ e1;exact ⟨m1++m2,by rw [e2,Array.append_assoc]⟩
 ·obtain ⟨m,hn,hl⟩:=I.loc;refine ⟨m,ns m hn,λ i x v e1 e2 e3=>?_⟩;obtain ⟨u,r,l⟩:=hl i x v e1 e2 e3;refine ⟨u,r,?_⟩;rcases l with l | ⟨k,c,e,z⟩
  ·exact .inl l
  ·exact .inr ⟨k,c,e,cellK x c e _ z⟩
 ·obtain ⟨v,z⟩:=I.cell x c e;exact ⟨v,cellK x c e v z⟩
 ·obtain ⟨m,⟨o,_,_,ho,_⟩,_⟩:=I.loc;exact free _ o (λ z=>(hch _ z).2.1 rfl) ho I.free
 ·obtain ⟨v,o,ho,hd⟩:=I.cell x c e;exact free c o (λ z=>(hch c z).2.2.1 x c e rfl) ho (I.freeC x c e)
 ·obtain ⟨e,n,ne,nf,d⟩:=I.pin p hp;have nch:p.1∉ch:=λ z=>(hch p.1 z).2.2.2 p hp rfl;exact ⟨keep p.1 p.2 ne nf nch e n,free p.1 p.2 nch e n,ne,nf,d⟩
theorem Inv.un {t':Nat}(I:110)(u:Un X.fs [] H H' s.heap h')(hok:HOk X.prog X.w H' h'):Inv X pins σ H' { s with heap:=h',toks:=t' }:=by
 obtain ⟨m,⟨o,es,ep,ho,r⟩,_⟩:=id I.loc;obtain ⟨sl,hL⟩:=u.any ho I.free 111;exact I.step (g':=s.gens) (d':=s.drawn) (ch:=[]) (λ _ z=>nomatch z) (λ b o _ hb _ e n=>u.keep b o e n hb 111) (λ b o _ hb _ e n=>u.slot b o e n hb 111) (λ b o _ e n=>u.free b o e n 111) (λ b o _ e=>u.there b o e 111) u.tups u.frzs u.tbls (λ m' hm=>by
  obtain ⟨o',es',ep',ho',r'⟩:=hm;rw [ho] at ho';cases ho';exact ⟨_,es',ep',hL,r'⟩) hok I.bare
theorem Inv.call {g':Array GenState}{t':Nat}{d':Drawn}{ch:XV}(I:110)(u:Un (frs X.stack) ch H H' s.heap h')(hok:HOk X.prog X.w H' h')(hg:AllBare g')
  (hch:149) :
  Inv X pins σ H' { s with heap:=h',gens:=g',drawn:=d',toks:=t' }:=by
 obtain ⟨m,⟨o,es,ep,ho,r⟩,_⟩:=id I.loc;obtain ⟨sl,hL⟩:=u.any ho I.free λ z=>(hch _ z).2.1 rfl;exact I.step (ch:=ch) hch (λ b o hL hb hc e n=>u.keep b o e n (λ z=>(Y06.mp (I.stkSub b z)).elim hL hb) hc) (λ b o _ _ hc e n=>u.any e n hc) (λ b o hc e n=>u.free b o e n hc) (λ b o hc e=>u.there b o e hc) u.tups u.frzs u.tbls (λ m' hm=>by
  obtain ⟨o',es',ep',ho',r'⟩:=hm;rw [ho] at ho';cases ho';exact ⟨_,es',ep',hL,r'⟩) hok hg
theorem Inv.turned {t':Nat}{it:Addr}(I:110)(k:∀ b o,b≠it->s.heap.get? b=some o->h'.get? b=some o)(hn:H it=none)(hL:it≠X.env.locals)
  (h1:it∈X.ex\/X.s₀.heap.objs.size<=it) (h2:∀ x c,X.env.cells.lookup x=some c->c≠it) (h3:∀ p∈X.pn++pins,p.1≠it):Inv X pins σ H { s with heap:=h',toks:=t' }:=by
 have nit:∀ b u,H b=some u->b≠it:=λ b u e z=>by rw [z,hn] at e;cases e
 refine I.step (g':=s.gens) (d':=s.drawn) (ch:=[it]) (λ b hb=>?_) (λ b o _ _ hc e _=>k b o (λ z=>hc (by simp [z])) e) (λ b o _ _ hc e _=>⟨o.slots,k b o (λ z=>hc (by simp [z])) e⟩) (λ _ _ _ _ n=>n)
  (λ b o hc e=>⟨o,k b o (λ z=>hc (by simp [z])) e⟩) (λ _ _ e=>e) (λ _ _ _ e=>e) (λ b ps e=>⟨#[],by rw [e];simp⟩) (λ m hm=>?_) (λ b u e=>?_) I.bare
 ·have e:b=it:=by simpa using hb
  subst e;exact ⟨h1,hL,h2,h3⟩
 ·obtain ⟨o,es,ep,ho,r⟩:=hm;exact ⟨o,es,ep,k _ o (Ne.symm hL) ho,r⟩
 ·refine (I.hok b u e).stay (λ c v hc q=>k c v ?_ q) (λ _ q=>q) λ _ _ q=>q;rcases hc with z | z
  ·rw [z];exact nit b u e
  ·exact nit c _ z
theorem Inv.tok (I:110)(t:Nat):Inv X pins σ H { s with toks:=t }:=I.un (h':=s.heap) (t':=t) Un.refl I.hok
theorem Inv.kept {t':Nat}(I:110)(k:∀ b u,s.heap.get? b=some u->h'.get? b=some u):Inv X pins σ H { s with heap:=h',toks:=t' }:=I.un (Un.kept k) (I.hok.kept k)
theorem Inv.laid {a:Addr}{o:HO}{t':Nat}(I:110)(k:∀ b u,s.heap.get? b=some u->h'.get? b=some u)(hp:s.heap.objs.size<=a)(new:ObjOk X.prog X.w (upd H a o) h' a o) :
  Inv X pins σ (upd H a o) { s with heap:=h',toks:=t' }:=I.un (Un.laid k hp (I.hok.fresh hp)) (I.hok.laid k hp new)
theorem Inv.write {x e:Addr}{o:HO}{t':Nat}(I:110)(mu:Mut (H x))(he:e=x\/H e=some (.own x))(k:∀ b u,b≠e->s.heap.get? b=some u->h'.get? b=some u)(heo:∃ u,h'.get? e=some u)
  (new:ObjOk X.prog X.w (upd H x o) h' x o):Inv X pins σ (upd H x o) { s with heap:=h',toks:=t' }:=I.un (Un.write mu he k heo) (I.hok.write mu he k heo new)
theorem Inv.weak {σ':List (Option V)}(I:110)(hl:σ'.length=σ.length)(w:∀ (i:Nat) v,σ'[i]?=some (some v)->σ[i]?=some (some v)):Inv X pins σ' H s :=
 ⟨I.ok,I.os,I.bare,I.base,let ⟨m,hn,hl'⟩:=I.loc;⟨m,hn,λ i x v e1 e2 e3=>hl' i x v e1 (w i v e2) e3⟩,I.cell,I.free,I.freeC,I.pin,I.hok,hl.trans I.len⟩
theorem Inv.pins_of {pins':115}(I:110)(h:∀ p∈pins',s.heap.get? p.1=some p.2/\H p.1=none/\p.1≠X.env.locals/\p.1∉X.fs/\∀ v,p.2.data≠.cell v):Inv X pins' σ H s :=
 ⟨I.ok,I.os,I.bare,I.base,I.loc,I.cell,I.free,I.freeC,λ p hp=>(Y0r.mp hp).elim (λ z=>I.pin p (Y0w _ z)) (h p),I.hok,I.len⟩
theorem Qc {N:XQ}(hN:N.Nodup){i j:Nat}{x:Str}(a:N[i]?=some x)(b:N[j]?=some x):i=j:=by
 obtain ⟨h1,e1⟩:=Y01.mp a;obtain ⟨h2,e2⟩:=Y01.mp b;exact (List.getElem_inj hN).mp (e1.trans e2.symm)
theorem Jf {M:Model}{A:Around}{E:XU}{i:Nat}{x:Str}{v:V}{u:Value}{Q:Unit->Shared->Prop}(I:110)(hN:X.N.Nodup)(hi:X.N[i]?=some x)(hx:Loc X.env.scope x)(r:RelV v u)
  (h:∀ s',Inv X pins (σ.set i (some v)) H s'->(∃ a,Heap.SameBut a s.heap s'.heap/\(a=X.env.locals\/X.env.cells.lookup x=some a))->Q () s') (hf:X.fn x=true\/X.env.scope.names.lookup x=some .local:=by first | exact .inl rfl | exact .inr rfl | assumption):wpAny M A (storeName X.env x u) Q E s:=by
 obtain ⟨m,hn,hl⟩:=id I.loc;have hcls:(X.env.scope.kind==.class||(X.env.scope.kind==.module&&X.env.locals != X.env.globals))=false:=by rw [I.ok.kind];rfl
 have hiσ:i<σ.length:=by rw [I.len];exact (Y01.mp hi).1
 have cne:=I.cne;have tracked:∀ {a:Addr}{h':Heap},(∃ o,s.heap.get? a=some o/\H a=none)->Heap.SameBut a s.heap h'->HOk X.prog X.w H h':=λ {a h'} ha hs b ob e=>by
  obtain ⟨_,_,hfree⟩:=ha;refine (I.hok b ob e).stay (λ c w' hc q=>(hs.2 c ?_).trans q) (λ _ q=>q) λ _ _ q=>q
  rintro rfl
  rcases hc with rfl | hc
  ·rw [hfree] at e;cases e
  ·rw [hfree] at hc;cases hc
 rcases hx with hk | hk
 ·refine wpAny_storeName_local hk hn (λ h' hn' hs=>?_) hcls;obtain ⟨oL,_,_,hoL,_⟩:=id hn;refine h _ ⟨I.ok,I.os,I.bare,⟨λ b o e n hb hx=>?_,λ b o e n hb hx=>?_,I.base.free,λ b o e hx=>?_,I.base.tups,I.base.frzs,I.base.tbls⟩,⟨_,hn',λ j y v' e1 e2 e3=>?_⟩,λ y c e=>?_,I.free,I.freeC,λ p hp=>?_,tracked ⟨oL,hoL,I.free⟩ hs,by simpa using I.len⟩ ⟨_,hs,.inl rfl⟩
  ·exact (hs.2 b (Y0i (Y0t (Y0f e) I.ok.above))).trans (I.base.keep b o e n hb hx)
  ·obtain ⟨sl,e1⟩:=I.base.slot b o e n hb hx;exact ⟨sl,(hs.2 b (Y0i (Y0t (Y0f e) I.ok.above))).trans e1⟩
  ·obtain ⟨o',e1⟩:=I.base.there b o e hx;exact ⟨o',(hs.2 b (Y0i (Y0t (Y0f e) I.ok.above))).trans e1⟩
  ·by_cases hj:j=i
   ·subst hj;rw [hi] at e1;cases e1;rw [Y1j hiσ] at e2;cases e2;exact ⟨u,r,.inl ⟨hk,by simp⟩⟩
   ·rw [Y18 (Ne.symm hj)] at e2;obtain ⟨u',r',q⟩:=hl j y v' e1 e2 e3;refine ⟨u',r',?_⟩;rcases q with ⟨k,e⟩ | ⟨k,c,e,z⟩
    ·refine .inl ⟨k,?_⟩
     have:y≠x:=λ e=>hj (Qc hN e1 (e▸hi))
     simp [this,e]
    ·exact .inr ⟨k,c,e,z.sameBut hs (cne y c e)⟩
  ·obtain ⟨w',z⟩:=I.cell y c e;exact ⟨w',z.sameBut hs (cne y c e)⟩
  ·obtain ⟨e,n,ne,nf,d⟩:=I.pin p hp;exact ⟨(hs.2 p.1 ne).trans e,n,ne,nf,d⟩
 ·have hfn:X.fn x=true:=by
   rcases hf with z | z
   ·exact z
   ·rw [z] at hk;cases hk
  obtain ⟨c,hc⟩:=I.ok.has x (.inl hk);obtain ⟨w',z⟩:=I.cell x c hc;refine wpAny_storeName_cell I.ok.kind hk hc z (λ h' hc' hs=>?_);obtain ⟨oc,hoc,hocd⟩:=id z;refine h { s with heap:=h' } ⟨I.ok,I.os,I.bare,⟨λ b o e n hb hx=>?_,λ b o e n hb hx=>?_,I.base.free,λ b o e hx=>?_,I.base.tups,I.base.frzs,I.base.tbls⟩,⟨m,hn.sameBut hs (Ne.symm (cne x c hc)),λ j y v' e1 e2 e3=>?_⟩,λ y c' e=>?_,I.free,I.freeC,λ p hp=>?_,tracked ⟨oc,hoc,I.freeC x c hc⟩ hs,by simpa using I.len⟩ ⟨c,hs,.inr hc⟩
  ·exact (hs.2 b (Y0i (Y0t (Y0f e) (I.ok.cab x c hfn hc)))).trans (I.base.keep b o e n hb hx)
  ·obtain ⟨sl,e1⟩:=I.base.slot b o e n hb hx;exact ⟨sl,(hs.2 b (Y0i (Y0t (Y0f e) (I.ok.cab x c hfn hc)))).trans e1⟩
  ·obtain ⟨o',e1⟩:=I.base.there b o e hx;exact ⟨o',(hs.2 b (Y0i (Y0t (Y0f e) (I.ok.cab x c hfn hc)))).trans e1⟩
  ·by_cases hj:j=i
   ·subst hj;rw [hi] at e1;cases e1;rw [Y1j hiσ] at e2;cases e2;exact ⟨u,r,.inr ⟨.inl hk,c,hc,hc'⟩⟩
   ·rw [Y18 (Ne.symm hj)] at e2;obtain ⟨u',r',q⟩:=hl j y v' e1 e2 e3;refine ⟨u',r',?_⟩;rcases q with q | ⟨k,c',e,z'⟩
    ·exact .inl q
    ·refine .inr ⟨k,c',e,z'.sameBut hs ?_⟩
     rintro rfl
     exact hj (Qc hN e1 (I.ok.inj _ _ _ e hc▸hi))
  ·by_cases hcc:c'=c
   ·subst hcc;exact ⟨_,hc'⟩
   ·obtain ⟨w2,z2⟩:=I.cell y c' e;exact ⟨w2,z2.sameBut hs hcc⟩
  ·obtain ⟨e,n,ne,nf,d⟩:=I.pin p hp;refine ⟨(hs.2 p.1 ?_).trans e,n,ne,nf,d⟩;intro q;rw [q,hoc] at e;have q':oc=p.2:=Option.some.inj e;exact d w' (by rw [<- q'];exact hocd)
theorem Qd {M:Model}{A:Around}{E:XU}{i:Nat}{x:Str}{v:V}{u:Value}{Q:Unit->Shared->Prop}(I:110)(hN:X.N.Nodup)(hi:X.N[i]?=some x)(hx:Loc X.env.scope x)(r:RelV v u)
  (h:∀ s',Inv X pins (σ.set i (some v)) H s'->Q () s') (hf:X.fn x=true\/X.env.scope.names.lookup x=some .local:=by first | exact .inl rfl | exact .inr rfl | assumption):wpAny M A (storeName X.env x u) Q E s :=
 Jf I hN hi hx r (λ s' I' _=>h s' I') hf
theorem Inv.call' {s':130}{ch:XV}(I:110)(ho:s'.os=s.os)(u:Un (frs X.stack) ch H H' s.heap s'.heap)(hok:HOk X.prog X.w H' s'.heap)(hg:AllBare s'.gens)
  (hch:149):Inv X pins σ H' s':=by
 obtain ⟨h',g',d',t',o'⟩:=s';have e:o'=s.os:=ho;subst e;exact I.call (g':=g') (t':=t') (d':=d') u hok hg hch
end
abbrev XK:=Value->Option Addr->Hp->Prop
abbrev St:=List (Option V)
abbrev VK:=V->Hp->Prop
abbrev TE:=St->Hp->VK->Prop
abbrev TT:=St->Hp->(Bool->Hp->Prop)->Prop
abbrev TA:=St->Hp->(List V->Hp->Prop)->Prop
structure Ends where
 nx:St->Hp->Prop
 rt:VK
 bk:St->Hp->Prop:=λ _ _=>False
 ct:St->Hp->Prop:=λ _ _=>False
abbrev TS:=Ends->St->Hp->Prop
def EP (X:Cx)(pins:115)(σ:St)(Q:VK)(u:Value)(s':130):Prop:=∃ v H',Inv X pins σ H' s'/\RelV v u/\Q v H'
def TP (X:Cx)(pins:115)(σ:St)(Q:Bool->Hp->Prop)(b:Bool)(s':130):Prop:=∃ H',Inv X pins σ H' s'/\Q b H'
def AP (X:Cx)(pins:115)(σ:St)(Q:List V->Hp->Prop)(us:XW)(s':130):Prop:=∃ vs H',Inv X pins σ H' s'/\Vals vs us/\Q vs H'
def SP (X:Cx)(pins:115)(D:Ends)(f:Flow)(s':130):Prop :=
 match f with
 | .next=>∃ σ' H',Inv X pins σ' H' s'/\D.nx σ' H'
 | .brk=>∃ σ' H',Inv X pins σ' H' s'/\D.bk σ' H'
 | .cont=>∃ σ' H',Inv X pins σ' H' s'/\D.ct σ' H'
 | .ret u=>∃ v σ' H',Inv X pins σ' H' s'/\RelV v u/\D.rt v H'
def PE (X:Cx)(e:Expr)(t:TE):Prop :=
 ∀ (pins:115) (s:130) (σ:St) (H:Hp) (Q:VK),Inv X pins σ H s->t σ H Q->wpAny 116 X.A (eval e X.env) (EP X pins σ Q) X.xe s
def PT (X:Cx)(e:Expr)(t:TT):Prop :=
 ∀ (pins:115) (s:130) (σ:St) (H:Hp) (Q:Bool->Hp->Prop),Inv X pins σ H s->t σ H Q->wpAny 116 X.A (isTrue e X.env (eval e X.env)) (TP X pins σ Q) X.xe s
def PW (X:Cx)(e:Expr)(t:TT):Prop :=
 ∀ (whole:Sem Value) (pins:115) (s:130) (σ:St) (H:Hp) (Q:Bool->Hp->Prop),Inv X pins σ H s->t σ H Q->wpAny 116 X.A (isTrue e X.env whole) (TP X pins σ Q) X.xe s
theorem PW.pt {X:Cx}{e:Expr}{t:TT}(h:PW X e t):PT X e t:=h _
def PA (X:Cx)(es:List Expr)(t:TA):Prop :=
 ∀ (pos:Pos) (pins:115) (s:130) (σ:St) (H:Hp) (Q:List V->Hp->Prop),Inv X pins σ H s->t σ H Q->wpAny 116 X.A (spliced (backTo pos (starEach es X.env))) (AP X pins σ Q) X.xe s
def PS (X:Cx)(st:Stmt)(t:TS):Prop :=
 ∀ (pins:115) (s:130) (σ:St) (H:Hp) (D:Ends),Inv X pins σ H s->t D σ H->wpAny 116 X.A (exec st X.env) (SP X pins D) X.xe s
def PSs (X:Cx)(st:List Stmt)(t:TS):Prop :=
 ∀ (pins:115) (s:130) (σ:St) (H:Hp) (D:Ends),Inv X pins σ H s->t D σ H->wpAny 116 X.A (execs st X.env) (SP X pins D) X.xe s
theorem thn {α:Type}{t:Sem α}{Q Q':α->Shared->Prop}{M:Model}{A:Around}{E:XU}{s:130}(h:wpAny M A t Q E s)(hQ:∀ a s,Q a s->Q' a s):wpAny M A t Q' E s:=wpAny_mono h hQ λ _ _ x=>x
section
variable {X:Cx}
theorem bin {a b:Expr}{ta tb:TE}(ha:PE X a ta)(hb:PE X b tb){pins:115}{s:130}{σ:St}{H:Hp}{R:V->V->Hp->Prop}(I:110)(h:ta σ H λ x H1=>tb σ H1 λ y H2=>R x y H2)
  {α:Type}{Q:α->Shared->Prop}{f:Value->Value->Sem α}
  (hf:∀ v u s2 x y H2,Inv X pins σ H2 s2->RelV x v->RelV y u->R x y H2->wpAny 116 X.A (f v u) Q X.xe s2) :
  wpAny 116 X.A (eval a X.env) (λ v s₁=>wpAny 116 X.A (eval b X.env) (λ u s₂=>wpAny 116 X.A (f v u) Q X.xe s₂) X.xe s₁) X.xe s:=by
 refine thn 204 λ v s1 ⟨x,H1,I1,r1,q1⟩=>?_;refine thn (hb pins s1 σ H1 _ I1 q1) λ u s2 ⟨y,H2,I2,r2,q2⟩=>?_;exact hf v u s2 x y H2 I2 r1 r2 q2
def z7u (i:Nat):TE:=λ σ H Q=>∃ v,σ[i]?=some (some v)/\Q v H
def tC (v:V):TE:=λ _ H Q=>Q v H
theorem Oa {i:Nat}{x:Str}{pos:Pos} (hN:X.N[i]?=some x) (hv:Vis X.env.scope x) (hd:143=false:=by decide) (hcd:(x==("__classdict__":Str))=false:=by decide):PE X (.Name x pos) (z7u i):=by
 intro pins s σ H Q I h;obtain ⟨v,e,h⟩:=h;obtain ⟨m,hn,hl⟩:=I.loc;obtain ⟨u,r,l⟩:=hl i x v hN e hv;have fin:EP X pins σ Q u s:=⟨v,H,I,r,h⟩;rcases l with ⟨hk,hm⟩ | ⟨hk,c,hc,hcell⟩
 ·exact wpAny_Name (wpAny_loadName_local I.ok.kind hk hn hm fin) hd
 ·rcases hk with hk | hk
  ·exact wpAny_Name (wpAny_loadName_cell I.ok.kind hk hc hcell fin) hd
  ·exact wpAny_Name (wpAny_loadName_free I.ok.kind hk hc hcell fin hcd) hd
theorem z4z {i j pos}:PE X (.Constant 187 j pos) (tC 187):=λ _ _ _ H _ I h=>wpAny_Constant_int ⟨.int i,H,I.tok _,125,h⟩
theorem z7v {b j pos}:PE X (.Constant (.bool b) j pos) (tC (.bl b)):=λ _ _ _ H _ I h=>Constant_bool ⟨.bl b,H,I,rfl,h⟩
theorem z50 {j pos}:PE X (.Constant .none j pos) (tC .non):=λ _ _ _ H _ I h=>Constant_none ⟨.non,H,I,rfl,h⟩
theorem Ob {x j pos}:PE X (.Constant (.str x) j pos) (tC (.str x)):=λ _ _ _ H _ I h=>Calls.Constant_str ⟨.str x,H,I.tok _,125,h⟩
def Gl (X:Cx)(x:Str):Prop:=X.env.kindOf x=some .globalImplicit
theorem W0 {E:XU}{pins:115}{s:130}{σ:St}{H:Hp}{x:Str}{u:Value}{pos:Pos}{Q:XU}(I:110)(hg:Gl X x)(hm:X.mg x=some u)(h:Q u s)
  (hd:143=false:=by decide):wpAny 116 X.A (eval (.Name x pos) X.env) Q E s :=
 Calls.Name_function_global I.ok.kind hg (Calls.loadGlobal_global (by rw [I.ok.glob];exact I.mod.glob.keeps I.bk) hm h) hd
theorem y0 {E:XU}{pins:115}{s:130}{σ:St}{H:Hp}{x:Str}{u:Value}{pos:Pos}{Q:XU}(I:110)(hg:Gl X x)(hm:X.mg x=none)(hv:bootBuiltins x=some u)(h:Q u s)
  (hn:x≠"__name__":=by decide) (hd:143=false:=by decide):wpAny 116 X.A (eval (.Name x pos) X.env) Q E s:=by
 obtain ⟨mb,h1,h2⟩:=I.mod.blt;exact Calls.Name_function_global I.ok.kind hg (Calls.loadGlobal_builtin (by rw [I.ok.glob];exact I.mod.glob.keeps I.bk) hm (by rw [I.ok.blt];exact h1.keeps I.bk) ((h2 x hn).trans hv) h) hd
theorem z12 {x:Str}{v:V}{u:Value}{pos:Pos} (hg:Gl X x) (hm:X.mg x=some u) (r:RelV v u) (hd:143=false:=by decide):PE X (.Name x pos) (tC v) :=
 λ _ _ _ H _ I h=>W0 I hg hm ⟨v,H,I,r,h⟩ hd
theorem z13 {x:Str}{v:V}{u:Value}{pos:Pos} (hg:Gl X x) (hm:X.mg x=none) (hv:bootBuiltins x=some u) (r:RelV v u) (hn:x≠"__name__":=by decide) (hd:143=false:=by decide):PE X (.Name x pos) (tC v) :=
 λ _ _ _ H _ I h=>y0 I hg hm hv ⟨v,H,I,r,h⟩ hn hd
variable {a b:Expr}{ta tb:TE}{pos:Pos}
def tB (t:TE):TT:=λ σ H Q=>t σ H λ x H1=>∃ c,x=.bl c/\Q c H1
theorem z51 {e:Expr}{t:TE}(h:PE X e t)(he:∀ whole,isTrue e X.env whole=(do let v <- whole;standAt e.pos;holding [v] (truthy v)):=by intro _;rfl):PT X e (tB t):=by
 intro pins s σ H Q I hw;refine isTrue_plain (thn (h pins s σ H _ I hw) λ v s1 ⟨x,H1,I1,r1,q1⟩=>?_) (he _);obtain ⟨d,rfl,q⟩:=q1;cases r1;exact wpAny_truthy_bool ⟨H1,I1,q⟩
variable {tA tB':TT}{rest:List Expr}
def z9w (t u:TT):TT:=λ σ H Q=>t σ H λ c H1=>if c=true then u σ H1 Q else Q false H1
def tOr (t u:TT):TT:=λ σ H Q=>t σ H λ c H1=>if c=true then Q true H1 else u σ H1 Q
def z9x (t:TT):TT:=λ σ H Q=>t σ H λ c H1=>Q (!c) H1
theorem z14 (ha:PT X a tA):PW X (.BoolOp .And [a] pos) tA:=by
 intro wh pins s σ H Q I h;refine isTrue_and (thn (ha pins s σ H Q I h) λ c s1 e=>?_);cases c with
 | true=>exact isTrue_and_nil e
 | false=>exact e
theorem z52 (ha:PT X a tA):PW X (.BoolOp .Or [a] pos) tA:=by
 intro wh pins s σ H Q I h;refine isTrue_or (thn (ha pins s σ H Q I h) λ c s1 e=>?_);cases c with
 | false=>exact isTrue_or_nil e
 | true=>exact e
theorem Oc (ha:PT X a tA)(hb:PW X (.BoolOp .And (b::rest) pos) tB'):PW X (.BoolOp .And (a::b::rest) pos) (z9w tA tB'):=by
 intro wh pins s σ H Q I h;refine isTrue_and (thn 204 λ c s1 ⟨H1,I1,q1⟩=>?_);cases c with
 | true=>exact hb wh pins s1 σ H1 Q I1 q1
 | false=>exact ⟨H1,I1,q1⟩
theorem z3y (ha:PT X a tA)(hb:PW X (.BoolOp .Or (b::rest) pos) tB'):PW X (.BoolOp .Or (a::b::rest) pos) (tOr tA tB'):=by
 intro wh pins s σ H Q I h;refine isTrue_or (thn 204 λ c s1 ⟨H1,I1,q1⟩=>?_);cases c with
 | true=>exact ⟨H1,I1,q1⟩
 | false=>exact hb wh pins s1 σ H1 Q I1 q1
theorem z53 (ha:PT X a tA):PT X (.UnaryOp .Not a pos) (z9x tA):=by
 intro pins s σ H Q I h;exact isTrue_not (ha pins s σ H (λ c H1=>Q (!c) H1) I h)
def z7w (ta tb:TE):TE:=λ σ H Q=>ta σ H λ x H1=>∃ c,x=.bl c/\if c=true then tb σ H1 Q else Q (.bl false) H1
def z9y (ta tb:TE):TE:=λ σ H Q=>ta σ H λ x H1=>∃ c,x=.bl c/\if c=true then Q (.bl true) H1 else tb σ H1 Q
def z7x (ta:TE):TE:=λ σ H Q=>ta σ H λ x H1=>∃ c,x=.bl c/\Q (.bl (!c)) H1
theorem Od {op}{t:TE}(h:PE X a t):PE X (.BoolOp op [a] pos) t:=λ pins s σ H Q I hw=>BoolOp_one (h pins s σ H Q I hw)
theorem Oe (ha:PE X a ta)(hb:PE X (.BoolOp .And (b::rest) pos) tb):PE X (.BoolOp .And (a::b::rest) pos) (z7w ta tb):=by
 intro pins s σ H Q I h;refine BoolOp_and (thn 204 λ v s1 ⟨x,H1,I1,r1,q1⟩=>?_);obtain ⟨c,rfl,q1⟩:=q1;cases r1;refine wpAny_truthy_bool ?_;cases c with
 | true=>exact hb pins s1 σ H1 Q I1 q1
 | false=>exact ⟨.bl false,H1,I1,rfl,q1⟩
theorem z3z (ha:PE X a ta)(hb:PE X (.BoolOp .Or (b::rest) pos) tb):PE X (.BoolOp .Or (a::b::rest) pos) (z9y ta tb):=by
 intro pins s σ H Q I h;refine BoolOp_or (thn 204 λ v s1 ⟨x,H1,I1,r1,q1⟩=>?_);obtain ⟨c,rfl,q1⟩:=q1;cases r1;refine wpAny_truthy_bool ?_;cases c with
 | false=>exact hb pins s1 σ H1 Q I1 q1
 | true=>exact ⟨.bl true,H1,I1,rfl,q1⟩
theorem z54 (ha:PE X a ta):PE X (.UnaryOp .Not a pos) (z7x ta):=by
 intro pins s σ H Q I h;refine UnaryOp_ (thn 204 λ v s1 ⟨x,H1,I1,r1,q1⟩=>?_);obtain ⟨c,rfl,q1⟩:=q1;cases r1;exact not_of (wpAny_truthy_bool ⟨.bl (!c),H1,I1,rfl,q1⟩)
def tIf (t:TT)(ta tb:TE):TE:=λ σ H Q=>t σ H λ c H1=>if c=true then ta σ H1 Q else tb σ H1 Q
theorem Of {c:Expr}(hc:PT X c tA)(ha:PE X a ta)(hb:PE X b tb):PE X (.IfExp c a b pos) (tIf tA ta tb):=by
 intro pins s σ H Q I h;refine wpAny_IfExp (thn (hc pins s σ H _ I h) λ d s1 ⟨H1,I1,q1⟩=>?_);cases d with
 | true=>exact ha pins s1 σ H1 Q I1 q1
 | false=>exact hb pins s1 σ H1 Q I1 q1
end
def SqL (K:Y00)(H:Hp)(a:Addr)(xs:157):Prop :=
 Rd H a 178 \/
  ∃ (o:Obj) (its:Array Value) (n:Nat),K.lookup a=some o/\o.cls=.type "list"/\o.dict=none/\o.data=.seq its n/\its.size<=sizeLine/\Vals xs its.toList
def SqT (K:Y00)(H:Hp)(a:Addr)(xs:157):Prop :=
 Rd H a (.tup xs) \/
  ∃ (o:Obj) (its:Array Value) (n:Nat),K.lookup a=some o/\o.cls=.type "tuple"/\o.data=.seq its n/\its.size<=sizeLine/\Vals xs its.toList
def z9z:Value->Option V
 | .none=>some .non
 | .bool b=>some (.bl b)
 | .int i _=>some 187
 | .str x _=>some (.str x)
 | .bytes b _=>some (.byt b)
 | .float b _=>some (.flt b)
 | .ref a=>some 155
 | .type n=>some (.ty n)
 | _=>none
theorem RelV.abs {x:V}{u:Value}(r:RelV x u):z9z u=some x:=by
 cases x with
 | non=>cases r;rfl
 | bl _=>cases r;rfl
 | int _=>obtain ⟨t,rfl⟩:=r;rfl
 | str _=>obtain ⟨t,rfl⟩:=r;rfl
 | byt _=>obtain ⟨t,rfl⟩:=r;rfl
 | flt _=>obtain ⟨t,rfl⟩:=r;rfl
 | ref _=>cases r;rfl
 | ty _=>cases r;rfl
theorem RelV.inj {x y:V}{u:Value}(r:RelV x u)(q:RelV y u):x=y:=Option.some.inj (r.abs.symm.trans q.abs)
theorem Vals.inj:∀ {xs ys:157}{us:XW},Vals xs us->Vals ys us->xs=ys
 | _,_,_,.nil,.nil=>rfl
 | _,_,_,.cons r t,.cons r' t'=>by rw [r.inj r',Vals.inj t t']
section
variable {X:Cx}{pins:115}{σ:St}{H:Hp}{s:130}{a:Addr}{xs ys:157}
theorem SqL.of {K:Y00}(h:H a=some 178):SqL K H a xs:=.inl (.inl h)
theorem SqT.of {K:Y00}(h:H a=some (.tup xs)):SqT K H a xs:=.inl (.inl h)
theorem Inv.list (I:110)(h:SqL X.K H a xs):∃ its:List Value,Vals xs its/\PlainL s.heap a its.toArray/\xs.length<=sizeLine:=by
 rcases h with h | ⟨o,its,n,hk,hc,hd,hs,hz,r⟩
 ·obtain ⟨z,its,n,r,e⟩:=h.ok I.hok;exact ⟨its,r,⟨_,n,e,rfl,rfl,rfl⟩,z⟩
 ·refine ⟨its.toList,r,⟨o,n,I.kIn a o hk,hc,hd,by simpa using hs⟩,?_⟩;have e:=r.length;simp only [Y1k] at e;omega
theorem Inv.tuple (I:110)(h:SqT X.K H a xs):∃ its:List Value,Vals xs its/\IsTup s.heap a its.toArray/\xs.length<=sizeLine:=by
 rcases h with h | ⟨o,its,n,hk,hc,hs,hz,r⟩
 ·obtain ⟨z,its,r,p⟩:=h.ok I.hok;exact ⟨its,r,p,z⟩
 ·refine ⟨its.toList,r,⟨o,I.kIn a o hk,hc,n,by simpa using hs⟩,?_⟩;have e:=r.length;simp only [Y1k] at e;omega
theorem Inv.list_inj (I:110)(h:SqL X.K H a xs)(h':SqL X.K H a ys):xs=ys:=by
 obtain ⟨its,r,⟨o,n,e,_,_,d⟩,_⟩:=I.list h;obtain ⟨its',r',⟨o',n',e',_,_,d'⟩,_⟩:=I.list h';rw [e] at e';cases e';rw [d] at d';injection d' with d1 _
 have:its=its':=by simpa using congrArg Array.toList d1
 subst this;exact r.inj r'
theorem Inv.tuple_inj (I:110)(h:SqT X.K H a xs)(h':SqT X.K H a ys):xs=ys:=by
 obtain ⟨its,r,⟨o,e,_,n,d⟩,_⟩:=I.tuple h;obtain ⟨its',r',⟨o',e',_,n',d'⟩,_⟩:=I.tuple h';rw [e] at e';cases e';rw [d] at d';injection d' with d1 _
 have:its=its':=by simpa using congrArg Array.toList d1
 subst this;exact r.inj r'
end
abbrev Cx.wish (X:Cx)(E:XU):Cx:={ X with xe:=E }
abbrev Cx.nox (X:Cx):Cx:=X.wish λ _ _=>False
theorem Cx.Ok.wish {X:Cx}(ok:X.Ok)(E:XU):(X.wish E).Ok :=
 ⟨ok.mod,ok.kind,ok.glob,ok.blt,ok.above,ok.inj,ok.has,ok.cab,ok.hd,ok.frames,ok.stk,ok.exf,ok.bs,ok.bsz,ok.noex,ok.exfs,ok.funs,ok.frf⟩
theorem Cx.Ok.unwish {X:Cx}{E:XU}(ok:(X.wish E).Ok):X.Ok :=
 ⟨ok.mod,ok.kind,ok.glob,ok.blt,ok.above,ok.inj,ok.has,ok.cab,ok.hd,ok.frames,ok.stk,ok.exf,ok.bs,ok.bsz,ok.noex,ok.exfs,ok.funs,ok.frf⟩
section
variable {X:Cx}{pins:115}{σ:St}{H:Hp}{s:130}{E:XU}
theorem Inv.wish (I:110)(E:XU):Inv (X.wish E) pins σ H s:=⟨I.ok.wish E,I.os,I.bare,I.base,I.loc,I.cell,I.free,I.freeC,I.pin,I.hok,I.len⟩
theorem Inv.unwish (I:Inv (X.wish E) pins σ H s):Inv X pins σ H s:=⟨I.ok.unwish,I.os,I.bare,I.base,I.loc,I.cell,I.free,I.freeC,I.pin,I.hok,I.len⟩
theorem SP.unwish {D:Ends}{f:Flow}{s':130}(h:SP (X.wish E) pins D f s'):SP X pins D f s':=by
 cases f with
 | next=>obtain ⟨σ',H',I,q⟩:=h;exact ⟨σ',H',I.unwish,q⟩
 | brk=>obtain ⟨σ',H',I,q⟩:=h;exact ⟨σ',H',I.unwish,q⟩
 | cont=>obtain ⟨σ',H',I,q⟩:=h;exact ⟨σ',H',I.unwish,q⟩
 | ret u=>obtain ⟨v,σ',H',I,r,q⟩:=h;exact ⟨v,σ',H',I.unwish,r,q⟩
end
section
variable {X:Cx}{st:Stmt}{rest:List Stmt}{t u:TS}{e:Expr}{te:TE}{pos:Pos}
def z7y:TS:=λ D σ H=>D.nx σ H
def za0 (t u:TS):TS:=λ D σ H=>t { D with nx:=u D } σ H
theorem z15:PSs X [] z7y:=λ _ _ σ H _ I h=>wpAny_execs_nil ⟨σ,H,I,h⟩
theorem Og (h1:PS X st t)(h2:PSs X rest u):PSs X (st::rest) (za0 t u):=by
 intro pins s σ H D I h;refine wpAny_execs_cons (thn (h1 pins s σ H { D with nx:=u D } I h) λ f s1 q=>?_);cases f with
 | next =>
  obtain ⟨σ',H',I',q⟩:=q;exact h2 pins s1 σ' H' D I' q
 | ret v=>exact q
 | brk=>exact q
 | cont=>exact q
theorem Inv.quiet {pins:115}{σ:St}{H:Hp}{s:130}(I:110):interactive X.env=false:=by simp [interactive,I.ok.kind]
def z7z (te:TE):TS:=λ D σ H=>te σ H λ _ H1=>D.nx σ H1
theorem z16 (he:PE X e te)(hs:swapsWith e none pos.line X.env=pure false:=by rfl):PS X (.Expr e pos) (z7z te):=by
 intro pins s σ H D I h;exact wpAny_Expr_any (thn (he pins s σ H _ I h) λ v s1 ⟨x,H1,I1,r1,q1⟩=>⟨σ,H1,I1,q1⟩) I.quiet hs
def za1 (te:TE):TS:=λ D σ H=>te σ H D.rt
theorem z55 (he:PE X e te):PS X (.Return (some e) pos) (za1 te):=by
 intro pins s σ H D I h;exact wpAny_Return_some (thn (he pins s σ H _ I h) λ v s1 ⟨x,H1,I1,r1,q1⟩=>⟨x,σ,H1,I1,r1,q1⟩)
def za2 (c:TT)(t u:TS):TS:=λ D σ H=>c σ H λ b H1=>if b=true then t D σ H1 else u D σ H1
theorem z80 {c:Expr}{a b:List Stmt}{tc:TT}(hc:PT X c tc)(ha:PSs X a t)(hb:PSs X b u):PS X (.If c a b pos) (za2 tc t u):=by
 intro pins s σ H D I h;refine wpAny_If (thn (hc pins s σ H _ I h) λ d s1 ⟨H1,I1,q1⟩=>?_);cases d with
 | true=>exact ha pins s1 σ H1 D I1 q1
 | false=>exact hb pins s1 σ H1 D I1 q1
end
abbrev TG:=V->St->Hp->(St->Hp->Prop)->Prop
abbrev TGs:=List V->St->Hp->(St->Hp->Prop)->Prop
def PG (X:Cx)(target:Expr)(t:TG):Prop :=
 ∀ (pins:115) (s:130) (σ:St) (H:Hp) (v:V) (u:Value) (Q:St->Hp->Prop),Inv X pins σ H s->RelV v u->t v σ H Q ->
  wpAny 116 X.A (assign target X.env u) (λ _ s'=>∃ σ' H',Inv X pins σ' H' s'/\Q σ' H') X.xe s
def PGs (X:Cx)(ts:List Expr)(t:TGs):Prop :=
 ∀ (pins:115) (s:130) (σ:St) (H:Hp) (vs:157) (us:XW) (Q:St->Hp->Prop),Inv X pins σ H s->Vals vs us->t vs σ H Q ->
  wpAny 116 X.A (assignInOrder ((assignEach ts X.env).map (·.2)) us) (λ _ s'=>∃ σ' H',Inv X pins σ' H' s'/\Q σ' H') X.xe s
abbrev z17:=V->V->V->Hp->(Hp->Prop)->Prop
def z56 (X:Cx)(t:z17):Prop :=
 ∀ (pins:115) (s:130) (σ:St) (H:Hp) (o i v:V) (ov iv u:Value) (Q:Hp->Prop),Inv X pins σ H s->RelV o ov->RelV i iv->RelV v u->t o i v H Q ->
  wpAny 116 X.A (setItem ov iv u) (λ _ s'=>∃ H',Inv X pins σ H' s'/\Q H') X.xe s
section
variable {X:Cx}{pos:Pos}
def UQ (i:Nat):TG:=λ v σ H Q=>Q (σ.set i (some v)) H
theorem UR {i:Nat}{x:Str}(hN:X.N.Nodup)(hi:X.N[i]?=some x)(hx:Loc X.env.scope x)(hf:X.fn x=true\/X.env.scope.names.lookup x=some .local:=by first | exact .inl rfl | exact .inr rfl | assumption):PG X (.Name x pos) (UQ i):=by
 intro pins s σ H v u Q I r h;exact wpAny_assign_Name (Qd I hN hi hx r (λ s' I'=>⟨_,H,I',h⟩) hf)
def z81:TGs:=λ vs σ H Q=>vs=[]/\Q σ H
def z40 (t:TG)(u:TGs):TGs:=λ vs σ H Q=>∃ v r,vs=v::r/\t v σ H λ σ' H'=>u r σ' H' Q
theorem z18:PGs X [] z81:=by
 intro pins s σ H vs us Q I r h;obtain ⟨e,h⟩:=h;subst e;cases r;exact assignInOrder_nil ⟨σ,H,I,h⟩
theorem Oh {e:Expr}{es:List Expr}{t:TG}{u:TGs}(h1:PG X e t)(h2:PGs X es u)
  (hs:(assignEach (e::es) X.env).map (·.2)=assign e X.env::(assignEach es X.env).map (·.2):=by rfl):PGs X (e::es) (z40 t u):=by
 intro pins s σ H vs us Q I r h;obtain ⟨v,vr,e1,h⟩:=h;subst e1;cases r with
 | cons r rr =>
  rw [hs];refine assignInOrder_cons (thn (h1 pins s σ H _ _ _ I r h) λ _ s1 ⟨σ1,H1,I1,q1⟩=>?_);exact h2 pins s1 σ1 H1 _ _ Q I1 rr q1
def za3 (K:Y00)(n:Nat)(t:TGs):TG:=λ v σ H Q=>∃ a xs,v=.ref a/\SqT K H a xs/\xs.length=n/\t xs σ H Q
theorem Oi {es:List Expr}{k:Nat}{t:TGs}{n:Nat}(hc:X.calm=true)(h:PGs X es t)
  (hn:(assignEach es X.env).length=n:=by rfl) (hst:(assignEach es X.env).findIdx? (·.1)=none:=by rfl):PG X (.Tuple es k pos) (za3 X.K n t):=by
 intro pins s σ H v u Q I r hw;obtain ⟨a,xs,e1,hq,hl,hw⟩:=hw;subst e1;cases r;obtain ⟨its,rv,ht,hz⟩:=I.tuple hq;refine assign_Tuple_tuple (I.ok.hd hc) ht (by simp [hn,<- hl,rv.length]) hst λ h' hx=>?_;have I1:Inv X pins σ H { s with heap:=h' }:=I.kept (t':=s.toks) λ b o e=>hx b o (Y0i (Y0f e)) e;exact h pins _ σ H xs _ Q I1 (by simpa using rv) hw
def za4 (to ti:TE)(t:z17):TG:=λ v σ H Q=>to σ H λ o H1=>ti σ H1 λ i H2=>t o i v H2 λ H3=>Q σ H3
theorem z57 {o i:Expr}{to ti:TE}{t:z17}(ho:PE X o to)(hi:PE X i ti)(hs:z56 X t)
  (ha:∀ v,assign (.Subscript o i pos) X.env v=(do
   let ov <- holding [v] (eval o X.env)
   let iv <- holding [v,ov] (eval i X.env)
   standAt pos
   holding [v,ov,iv] (setItem ov iv v)
   release [v,ov,iv] []):=by intro _;rfl):PG X (.Subscript o i pos) (za4 to ti t):=by
 intro pins s σ H v u Q I r h;rw [ha];refine wpAny_bind (wpAny_holding (thn (ho pins s σ H _ I h) λ ov s1 ⟨x,H1,I1,r1,q1⟩=>?_));refine wpAny_bind (wpAny_holding (thn (hi pins s1 σ H1 _ I1 q1) λ iv s2 ⟨y,H2,I2,r2,q2⟩=>?_));refine wpAny_bind (wpAny_standAt (wpAny_bind (wpAny_holding (thn (hs pins s2 σ H2 x y v ov iv u _ I2 r1 r2 r q2) λ _ s3 ⟨H3,I3,q3⟩=>?_))));exact wpAny_release ⟨σ,H3,I3,q3⟩
def z58 (te:TE)(g:TG):TS:=λ D σ H=>te σ H λ x H1=>g x σ H1 D.nx
theorem Oj {tg e:Expr}{te:TE}{g:TG}(he:PE X e te)(hg:PG X tg g)(hs:swapsWithSole [tg] e pos.line X.env=pure false:=by rfl)(hw:swappedStores [tg] e X.env=pure none:=by rfl)
  (h1:(assignEach [tg] X.env).map (·.2)=[assign tg X.env]:=by rfl):PS X (.Assign [tg] e pos) (z58 te g):=by
 intro pins s σ H D I h;refine wpAny_Assign_stores (thn (he pins s σ H _ I h) λ v s1 ⟨x,H1,I1,r1,q1⟩=>?_) hs hw;rw [h1];exact thn (hg pins s1 σ H1 x v _ I1 r1 q1) λ _ s2 q=>q
theorem z59 {i:Nat}{x:Str}{e:Expr}{te:TE}{pos':Pos}(hN:X.N.Nodup)(hi:X.N[i]?=some x)(hx:Loc X.env.scope x)(he:PE X e te)(hs:swapsWith e (some (.Name x pos')) pos.line X.env=pure false:=by rfl)(hf:X.fn x=true\/X.env.scope.names.lookup x=some .local:=by first | exact .inl rfl | exact .inr rfl | assumption) :
  PS X (.Assign [.Name x pos'] e pos) (z58 te (UQ i)):=by
 intro pins s σ H D I h;refine wpAny_Assign_Name (thn (he pins s σ H _ I h) λ v s1 ⟨y,H1,I1,r1,q1⟩=>?_) hs;exact Qd I1 hN hi hx r1 (λ s2 I2=>⟨_,H1,I2,q1⟩) hf
end
section
variable {X:Cx}{pos:Pos}
def Yt (c:TT)(tb:TS):TS:=λ D σ H=>∃ W:Nat->St->Hp->Prop,(∃ m,W m σ H)/\∀ m σ H,W m σ H ->
 c σ H λ b H1=>if b=true then ∃ N:St->Hp->Prop,(∀ σ' H',N σ' H'->∃ m',m'<m/\W m' σ' H')/\tb { D with nx:=N,ct:=N,bk:=D.nx } σ H1 else D.nx σ H1
theorem Ol {c:Expr}{body:List Stmt}{tc:TT}{tb:TS}(hp:PassesOwn 116 X.A X.env X.xe)(hc:PT X c tc)(hb:PSs X body tb):PS X (.While c body [] pos) (Yt tc tb):=by
 intro pins s σ H D I h;obtain ⟨W,⟨m0,w0⟩,turn⟩:=h;refine wpAny_While (codeAny_whileLoop (λ n s'=>∃ σ' H',Inv X pins σ' H' s'/\W n σ' H') ?_ m0 ⟨σ,H,I,w0⟩)
 rintro n s1 ⟨σ1,H1,I1,w1⟩
 refine wpAny_passesOwn hp (thn (hc pins s1 σ1 H1 _ I1 (turn n σ1 H1 w1)) λ b s2 ⟨H2,I2,q2⟩=>?_);cases b with
 | true =>
  obtain ⟨N,hN,q2⟩:=q2;rw [if_pos rfl];refine wpAny_passesOwn hp (thn (hb pins s2 σ1 H2 _ I2 q2) λ f s3 q3=>?_);cases f with
  | next =>
   obtain ⟨σ3,H3,I3,n3⟩:=q3;obtain ⟨m',hm,w3⟩:=hN σ3 H3 n3;exact ⟨m',hm,σ3,H3,I3,w3⟩
  | cont =>
   obtain ⟨σ3,H3,I3,n3⟩:=q3;obtain ⟨m',hm,w3⟩:=hN σ3 H3 n3;exact ⟨m',hm,σ3,H3,I3,w3⟩
  | brk=>exact q3
  | ret v=>exact q3
 | false =>
  rw [if_neg Y0x];exact wpAny_execs_nil ⟨σ1,H2,I2,q2⟩
end
structure It where
 go:Nat->Hp->Prop
 yld:Nat->Hp->V->Hp->Prop
 stop:Nat->Hp->Prop
def yA (X:Cx)(pins:115)(H:Hp)(b:Addr):Prop :=
 H b=none/\b≠X.env.locals/\b∉X.fs/\(b∈X.ex\/X.s₀.heap.objs.size<=b)/\(∀ x c,X.env.cells.lookup x=some c->c≠b)/\∀ p∈X.pn++pins,p.1≠b
theorem Inv.fpOk {X:Cx}{pins:115}{σ:St}{H H':Hp}{s:130}{b:Addr}(I:110)(hb:s.heap.objs.size<=b)(hn:H' b=none):yA X pins H' b:=by
 refine ⟨hn,Y25 (Y0t I.lt hb),I.nofs hb,.inr (Y0n I.sz hb),λ x c e z=>?_,λ p hp z=>?_⟩
 ·obtain ⟨v,q⟩:=I.cell x c e;exact absurd (Y0t q.lt (by rw [z];exact hb)) (Y1d _)
 ·exact absurd (Y0t (Y0f (I.pin p hp).1) (by rw [z];exact hb)) (Y1d _)
structure Turn (P:156)(w:World)(K:Y00)(tg:Expr)(J:It)(fp:XV)(it:Addr)(tn:Nat->Heap->Prop):Prop where
 mem:it∈fp
 obj:∀ i h,tn i h->∀ b∈fp,∃ o,h.get? b=some o/\∀ v,o.data≠.cell v
 keep:∀ i h h',tn i h->(∀ b∈fp,∀ o,h.get? b=some o->h'.get? b=some o)->tn i h'
 item:∀ (X:Cx),X.prog=P->X.w=w->X.K=K->X.calm=true->∀ (i:Nat) (pins:115) (s:130) (σ:St) (H:Hp) (E:XU),Inv X pins σ H s->(∀ b∈fp,yA X pins H b)->tn i s.heap->J.go i H ->
  wpAny (model P w) X.A (pyNext (.ref it)) (λ r s1=>∃ u,r=some u /\
   wpAny (model P w) X.A (letOwnedTupleGo tg (.ref it) u) (λ _ s2=>∃ x H',Inv X pins σ H' s2/\RelV x u/\J.yld i H x H'/\tn (i+1) s2.heap/\∀ b∈fp,H' b=none) E s1) E s
 done:∀ (X:Cx),X.prog=P->X.w=w->X.K=K->X.calm=true->∀ (i:Nat) (pins:115) (s:130) (σ:St) (H:Hp) (E:XU),Inv X pins σ H s->(∀ b∈fp,yA X pins H b)->tn i s.heap->J.stop i H ->
  wpAny (model P w) X.A (pyNext (.ref it)) (λ r s1=>r=none/\Inv X pins σ H s1) E s
 self:∀ (A:Around) (i:Nat) (s:130) (Q:XU) (E:XU),tn i s.heap->Q (.ref it) s->wpAny (model P w) A (pyIter (.ref it)) Q E s
abbrev TI:=St->Hp->(It->Hp->Prop)->Prop
def PIE (X:Cx)(pins:115)(σ:St)(tg:Expr)(R:It->Hp->Prop)(itv:Value)(s2:130):Prop :=
 ∃ (it:Addr) (fp:XV) (tn:Nat->Heap->Prop) (J:It) (H':Hp),itv=.ref it/\Inv X pins σ H' s2/\Turn X.prog X.w X.K tg J fp it tn/\tn 0 s2.heap/\(∀ b∈fp,yA X pins H' b)/\R J H'
def PI (X:Cx)(tg iter:Expr)(wi:TI):Prop :=
 ∀ (pins:115) (s:130) (σ:St) (H:Hp) (R:It->Hp->Prop),Inv X pins σ H s->wi σ H R ->
  wpAny 116 X.A (eval iter X.env) (λ v s1=>wpAny 116 X.A (pyIter v) (PIE X pins σ tg R) X.xe s1) X.xe s
theorem Jg {M:Model}{A:Around}{E:XU}{s:130}{tg:Expr}{it:Addr}{u:Value}{o:Obj}{n:String}{vs:Array Value}{Q:Unit->Shared->Prop}(ho:s.heap.get? it=some o)(hc:o.cls=.type n)(hd:o.data=.fields vs)
    (hn:["enumerate","zip","dict_itemiterator","dict_reverseitemiterator","odict_iterator","itertools.zip_longest","itertools.pairwise"].contains n=false) (hQ:Q () s):wpAny M A (letOwnedTupleGo tg (.ref it) u) Q E s:=by
  unfold letOwnedTupleGo;cases tg<;>first
    | exact wpAny_pure hQ
    | (cases u<;>first
        | exact wpAny_pure hQ
        | (refine wpAny_bind (wpAny_load ho ?_)
           rw [hc,hd];show wpAny M A (if (["enumerate","zip","dict_itemiterator","dict_reverseitemiterator","odict_iterator","itertools.zip_longest","itertools.pairwise"].contains n&&vs[0]?==some (rawInt _))=true then _ else _) Q E s;rw [if_neg (by intro h;rw [hn,Bool.false_and] at h;cases h)];exact wpAny_pure hQ))
def Itl (K:Y00)(a:Addr):It :=
 ⟨λ i H=>∃ xs x,SqL K H a xs/\xs[i]?=some x,λ i H x H'=>H'=H/\∀ xs,SqL K H a xs->xs[i]?=some x,λ i H=>∃ xs,SqL K H a xs/\xs.length<=i⟩
def Itt (K:Y00)(a:Addr):It :=
 ⟨λ i H=>∃ xs x,SqT K H a xs/\xs[i]?=some x,λ i H x H'=>H'=H/\∀ xs,SqT K H a xs->xs[i]?=some x,λ i H=>∃ xs,SqT K H a xs/\xs.length<=i⟩
def Itr (lo:Int)(n:Nat):It:=⟨λ i _=>i<n,λ i H x H'=>H'=H/\x=.int (lo+i),λ i _=>n<=i⟩
theorem Jh {P:156}{w:World}{K:Y00}{tg:Expr}(a it:Addr):Turn P w K tg (Itl K a) [it] it (λ i h=>h.IsListIter it a i) where
 mem:=by simp
 obj:=λ i h st b hb=>by
  have e:b=it:=by simpa using hb
  subst e;obtain ⟨o,e,c,d⟩:=st;exact ⟨o,e,λ v z=>by rw [d] at z;cases z⟩
 keep:=λ i h h' st k=>st.at λ o e=>k it 111 o e
 item:=by
  intro X hP hw hK hc i pins s σ H E I hf st hg;subst hP hw hK;obtain ⟨xs,x,hq,hx⟩:=hg;obtain ⟨its,rv,p,hz⟩:=I.list hq;obtain ⟨u,hu,ru⟩:=rv.get hx;obtain ⟨f0,f1,f2,f3,f4,f5⟩:=hf it 111;refine wpAny_pyNext_list_item st p.isList (x:=u) (by simpa using hu) λ h' st' sb=>?_;have I1:Inv X pins σ H { s with heap:=h' }:=I.turned (t':=s.toks) (λ b o hb e=>(sb.2 b hb).trans e) f0 f1 f3 f4 f5;obtain ⟨o,e,c,d⟩:=id st';exact ⟨u,rfl,Jg (s:={ s with heap:=h' }) e c d 108 ⟨x,H,I1,ru,⟨rfl,λ ys hy=>by rw [I.list_inj hy hq];exact hx⟩,st',λ b hb=>(hf b hb).1⟩⟩
 done:=by
  intro X hP hw hK hc i pins s σ H E I hf st hg;subst hP hw hK;obtain ⟨xs,hq,hx⟩:=hg;obtain ⟨its,rv,p,hz⟩:=I.list hq;obtain ⟨f0,f1,f2,f3,f4,f5⟩:=hf it 111;have hl:=rv.length;exact wpAny_pyNext_list_end (I.ok.hd hc) st p.isList 175 λ h' eb=>131
 self:=λ _ _ _ _ _ st h=>wpAny_pyIter_listiter st h
theorem Yu {P:156}{w:World}{K:Y00}{tg:Expr}(a it:Addr):Turn P w K tg (Itt K a) [it] it (λ i h=>h.IsTupleIter it a i) where
 mem:=by simp
 obj:=λ i h st b hb=>by
  have e:b=it:=by simpa using hb
  subst e;obtain ⟨o,e,c,d⟩:=st;exact ⟨o,e,λ v z=>by rw [d] at z;cases z⟩
 keep:=λ i h h' st k=>st.at λ o e=>k it 111 o e
 item:=by
  intro X hP hw hK hc i pins s σ H E I hf st hg;subst hP hw hK;obtain ⟨xs,x,hq,hx⟩:=hg;obtain ⟨its,rv,p,hz⟩:=I.tuple hq;obtain ⟨u,hu,ru⟩:=rv.get hx;obtain ⟨f0,f1,f2,f3,f4,f5⟩:=hf it 111;refine wpAny_pyNext_tuple_item st (show s.heap.IsTuple a its.toArray from p) (x:=u) (by simpa using hu) λ h' st' sb=>?_;have I1:Inv X pins σ H { s with heap:=h' }:=I.turned (t':=s.toks) (λ b o hb e=>(sb.2 b hb).trans e) f0 f1 f3 f4 f5;obtain ⟨o,e,c,d⟩:=id st';exact ⟨u,rfl,Jg (s:={ s with heap:=h' }) e c d 108 ⟨x,H,I1,ru,⟨rfl,λ ys hy=>by rw [I.tuple_inj hy hq];exact hx⟩,st',λ b hb=>(hf b hb).1⟩⟩
 done:=by
  intro X hP hw hK hc i pins s σ H E I hf st hg;subst hP hw hK;obtain ⟨xs,hq,hx⟩:=hg;obtain ⟨its,rv,p,hz⟩:=I.tuple hq;obtain ⟨f0,f1,f2,f3,f4,f5⟩:=hf it 111;have hl:=rv.length;exact wpAny_pyNext_tuple_end (I.ok.hd hc) st (show s.heap.IsTuple a its.toArray from p) 175 λ h' eb=>131
 self:=λ _ _ _ _ _ st h=>wpAny_pyIter_tupleiter st h
theorem Yv {P:156}{w:World}{K:Y00}{tg:Expr}(it:Addr)(lo:Int)(n:Nat):Turn P w K tg (Itr lo n) [it] it (λ i h=>IsRangeIter h it (lo+(i:Nat)*1) ((n:Int)-(i:Nat)) 1) where
 mem:=by simp
 obj:=λ i h st b hb=>by
  have e:b=it:=by simpa using hb
  subst e;exact ⟨_,st,λ v z=>by
   have z':Data.fields _=Data.cell v:=z;cases z'⟩
 keep:=λ i h h' st k=>k it 111 _ st
 item:=by
  intro X hP hw hK hc i pins s σ H E I hf st hg;subst hP hw hK;obtain ⟨f0,f1,f2,f3,f4,f5⟩:=hf it 111;have W:=Walks.range (prog:=X.prog) (w:=X.w) (I.ok.hd hc) it lo 1 n;refine W.item i s _ _ hg st λ v h' tk hv st' kk=>?_;obtain ⟨t,rfl⟩:=hv;have I1:Inv X pins σ H { s with heap:=h',toks:=tk }:=I.turned (λ b o hb e=>kk b o (by simpa using hb) e) f0 f1 f3 f4 f5;refine ⟨_,rfl,Jg (s:={ s with heap:=h',toks:=tk }) (n:="range_iterator") st' rfl rfl 108 ⟨.int (lo+i),H,I1,⟨t,?_⟩,⟨rfl,rfl⟩,st',λ b hb=>(hf b hb).1⟩⟩;rw [Int.mul_one]
 done:=by
  intro X hP hw hK hc i pins s σ H E I hf st hg;subst hP hw hK;obtain ⟨f0,f1,f2,f3,f4,f5⟩:=hf it 111;exact wpAny_pyNext_range_end (I.ok.hd hc) st (by have:n<=i:=hg;omega) λ h' eb=>131
 self:=λ _ _ _ _ _ st h=>wpAny_pyIter_rangeiter st h
section
variable {X:Cx}{tg:Expr}
def z82 (K:Y00)(tl:TE):TI:=λ σ H R=>tl σ H λ x H1=>∃ a,x=.ref a/\(∃ xs,SqL K H1 a xs)/\R (Itl K a) H1
theorem z19 {l:Expr}{tl:TE}(hl:PE X l tl):PI X tg l (z82 X.K tl):=by
 intro pins s σ H R I h;refine thn (hl pins s σ H _ I h) λ v s1 ⟨x,H1,I1,r1,q1⟩=>?_;obtain ⟨a,e,⟨xs,hq⟩,q⟩:=q1;subst e;cases r1;obtain ⟨its,rv,p,hz⟩:=I1.list hq;refine wpAny_pyIter_list p.isList ?_;refine ⟨s1.heap.objs.size,[s1.heap.objs.size],_,_,H1,rfl,I1.kept (t':=s1.toks) λ b o e=>Y02 _ e,Jh a _,172,λ b hb=>?_,q⟩;have e:b=s1.heap.objs.size:=by simpa using hb
 subst e;exact I1.fpOk 169 (I1.hok.fresh 169)
theorem Om {pins:115}{σ:St}{H:Hp}{s:130}{R:It->Hp->Prop}{E:XU}{lo hi:Int}{t u v:Tok}{tk:Nat}(I:110)(h1:-(2 ^ 62)<=lo)(h2:lo<2 ^ 62)(h3:-(2 ^ 62)<=hi)(h4:hi<2 ^ 62)
  (q:R (Itr lo (hi-lo).toNat) H):wpAny 116 X.A (pyIter 159) (PIE X pins σ tg R) E { s with heap:=s.heap.push { cls:=.type "range",data:=.fields #[.int lo t,.int hi u,.int 1 v] },toks:=tk }:=by
 refine wpAny_pyIter_range (IsRange.new ..) (small_one h1 h2 h3 h4) ?_;have I1:Inv X pins σ H { s with heap:=s.heap.push { cls:=.type "range",data:=.fields #[.int lo t,.int hi u,.int 1 v] },toks:=tk }:=I.kept λ b o e=>Y02 _ e;refine ⟨(s.heap.push { cls:=.type "range",data:=.fields #[.int lo t,.int hi u,.int 1 v] }).objs.size,[(s.heap.push { cls:=.type "range",data:=.fields #[.int lo t,.int hi u,.int 1 v] }).objs.size],_,_,H,rfl,
  I1.kept (t':=tk) λ b o e=>Y02 _ e,Yv _ lo (hi-lo).toNat,?_,λ b hb=>?_,q⟩
 ·have e1:lo+((0:Nat):Int)*1=lo:=by simp
  have e2:(((hi-lo).toNat:Nat):Int)-((0:Nat):Int)=Builtin.Range.rangeSize lo hi 1:=by rw [rangeSize_one];split<;>omega
  show IsRangeIter _ _ (lo+((0:Nat):Int)*1) ((((hi-lo).toNat:Nat):Int)-((0:Nat):Int)) 1;rw [e1,e2];exact Y0d _ rfl
 ·have e:b=(s.heap.push { cls:=.type "range",data:=.fields #[.int lo t,.int hi u,.int 1 v] }).objs.size:=by simpa using hb
  subst e;exact I1.fpOk 169 (I1.hok.fresh 169)
def z83 (ta:TA):TI:=λ σ H R=>ta σ H λ vs H1=>∃ j:Int,vs=[.int j]/\-(2 ^ 62)<=j/\j<2 ^ 62/\R (Itr 0 j.toNat) H1
theorem Gc {a:Expr}{ta:TA}{p pos:Pos} (hg:Gl X "range") (hm:X.mg "range"=none) (ha:PA X [a] ta) (hs:starEach [a] X.env=[(false,eval a X.env)]:=by rfl):PI X tg (.Call (.Name "range" p) [a] [] pos) (z83 ta):=by
 intro pins s σ H R I h;refine Call_ (y0 I hg hm boot_range (Y2x (thn (ha pos pins s σ H _ I h) λ us s1 ⟨vs,H1,I1,r1,q1⟩=>?_) hs rfl));obtain ⟨j,e,q1,q2,q⟩:=q1;subst e;cases r1 with
 | cons r rr =>
  cases rr;obtain ⟨t,rfl⟩:=r;exact call_range_1 (Om I1 109 109 q1 q2 (by simpa using q))
def z5a (wi:TI)(g:TG)(tb:TS):TS:=λ D σ H=>wi σ H λ J H1=>∃ W:Nat->Nat->St->Hp->Prop,(∃ m,W 0 m σ H1)/\∀ i m σ H,W i m σ H ->
 (J.stop i H/\D.nx σ H)\/(J.go i H/\∃ N:St->Hp->Prop,(∀ σ' H',N σ' H'->∃ m',m'<m/\W (i+1) m' σ' H')/\∀ x H',J.yld i H x H'->g x σ H' λ σ2 H2=>tb { D with nx:=N,ct:=N,bk:=D.nx } σ2 H2)
def wK (fp:XV)(h:Heap):List (Addr×Obj):=fp.filterMap λ b=>(h.get? b).map λ o=>(b,o)
theorem jO {fp:XV}{h:Heap}{b:Addr}{o:Obj}(hb:b∈fp)(e:h.get? b=some o):(b,o)∈wK fp h:=Y1m.mpr ⟨b,hb,by rw [e];rfl⟩
theorem Ji {fp:XV}{h:Heap}{p:Addr×Obj}(hp:p∈wK fp h):p.1∈fp/\h.get? p.1=some p.2:=by
 obtain ⟨b,hb,e⟩:=Y1m.mp hp;cases q:h.get? b with
 | none=>rw [q] at e;cases e
 | some o =>
  rw [q] at e;have e':(b,o)=p:=Option.some.inj e;subst e';exact ⟨hb,q⟩
theorem Inv.pinned {pins:115}{σ:St}{H:Hp}{s:130}{fp:XV}(I:110)(hf:∀ b∈fp,yA X pins H b)(ho:∀ b∈fp,∃ o,s.heap.get? b=some o/\∀ v,o.data≠.cell v):Inv X (pins++wK fp s.heap) σ H s :=
 I.pins_of λ p hp=>(Y0r.mp hp).elim (λ z=>I.pin p (Y0o _ z)) λ z=>by
  obtain ⟨hb,e⟩:=Ji z;obtain ⟨f0,f1,f2,_⟩:=hf p.1 hb;obtain ⟨o,e',d⟩:=ho p.1 hb;rw [e] at e';cases e';exact ⟨e,f0,f1,f2,d⟩
theorem Inv.unpinned {pins pl:115}{σ:St}{H:Hp}{s:130}(I:Inv X (pins++pl) σ H s):Inv X pins σ H s:=I.pins_of λ p hp=>I.pin p (Y0o _ (Y0w _ hp))
theorem z5b {iter:Expr}{body:List Stmt}{wi:TI}{g:TG}{tb:TS}{pos:Pos}(hp:PassesOwn 116 X.A X.env X.xe)(hc:X.calm=true)(hi:PI X tg iter wi)(hg:PG X tg g)(hb:PSs X body tb)
  (hs:∀ x,foldedSetIterable iter X.env x=pure x:=by intro _;rfl):PS X (.For tg iter body [] pos) (z5a wi g tb):=by
 intro pins s σ H D I h;refine wpAny_For (thn (hi pins s σ H _ I h) λ v s1 h1=>thn h1 λ itv s2 h2=>?_) hs;obtain ⟨it,fp,tn,J,H2,e,I2,T,st2,f2,W,⟨m0,w0⟩,turn⟩:=h2;subst e;have stat:∀ {H':Hp},(∀ b∈fp,H' b=none)->∀ b∈fp,yA X pins H' b:=λ hn b hb=>⟨hn b hb,(f2 b hb).2⟩;refine codeAny_forLoop_any (λ n s'=>∃ i σ' H',Inv X pins σ' H' s'/\tn i s'.heap/\(∀ b∈fp,H' b=none)/\W i n σ' H') ?_ m0 ⟨0,σ,H2,I2,st2,λ b hb=>(f2 b hb).1,w0⟩
 rintro n s3 ⟨i,σ3,H3,I3,st3,fr3,w3⟩
 rcases turn i n σ3 H3 w3 with ⟨stop,qn⟩ | ⟨go,N,hN,step⟩
 ·refine wpAny_passesOwn hp (thn (T.done X rfl rfl rfl hc i pins s3 σ3 H3 X.xe I3 (stat fr3) st3 stop) λ r s4 ⟨hr,I4⟩=>?_);subst hr;exact wpAny_execs_nil ⟨σ3,H3,I4,qn⟩
 ·refine wpAny_passesOwn hp (thn (T.item X rfl rfl rfl hc i pins s3 σ3 H3 X.xe I3 (stat fr3) st3 go) λ r s4 ⟨u,hr,h4⟩=>?_);subst hr;refine wpAny_passesOwn hp (thn h4 λ _ s5 ⟨x,H5,I5,r5,y5,st5,fr5⟩=>?_);have I5':=I5.pinned (stat fr5) (T.obj _ _ st5);refine wpAny_passesOwn hp (thn (hg _ s5 σ3 H5 x u _ I5' r5 (step x H5 y5)) λ _ s6 ⟨σ6,H6,I6,q6⟩=>?_);refine wpAny_passesOwn hp (thn (hb _ s6 σ6 H6 _ I6 q6) λ f s7 q7=>?_);have again:∀ {σ7:St}{H7:Hp},Inv X (pins++wK fp s5.heap) σ7 H7 s7->N σ7 H7->∃ m,m<n/\∃ i σ' H',Inv X pins σ' H' s7/\tn i s7.heap/\(∀ b∈fp,H' b=none)/\W i m σ' H':=λ {σ7 H7} I7 n7=>by
   obtain ⟨m',hm,w7⟩:=hN σ7 H7 n7;refine ⟨m',hm,i+1,σ7,H7,I7.unpinned,T.keep _ _ _ st5 λ b hb o e=>(I7.pin (b,o) (Y0o _ (Y0o _ (jO hb e)))).1,λ b hb=>?_,w7⟩;obtain ⟨o,e,d⟩:=T.obj _ _ st5 b hb;exact (I7.pin (b,o) (Y0o _ (Y0o _ (jO hb e)))).2.1
  cases f with
  | next=>obtain ⟨σ7,H7,I7,n7⟩:=q7;exact again I7 n7
  | cont=>obtain ⟨σ7,H7,I7,n7⟩:=q7;exact again I7 n7
  | brk=>obtain ⟨σ7,H7,I7,q7⟩:=q7;exact ⟨σ7,H7,I7.unpinned,q7⟩
  | ret v=>obtain ⟨x7,σ7,H7,I7,r7,q7⟩:=q7;exact ⟨x7,σ7,H7,I7.unpinned,r7,q7⟩
end
abbrev R2:=V->V->Hp->VK->Prop
def OpR (X:Cx)(f:Value->Value->Sem Value)(r:R2):Prop :=
 ∀ (pins:115) (s:130) (σ:St) (H:Hp) (x y:V) (v u:Value) (Q:VK),Inv X pins σ H s->RelV x v->RelV y u->r x y H Q ->
  wpAny 116 X.A (f v u) (EP X pins σ Q) X.xe s
def UnR (X:Cx)(f:Value->Sem Value)(r:V->Hp->VK->Prop):Prop :=
 ∀ (pins:115) (s:130) (σ:St) (H:Hp) (x:V) (v:Value) (Q:VK),Inv X pins σ H s->RelV x v->r x H Q ->
  wpAny 116 X.A (f v) (EP X pins σ Q) X.xe s
def j1 (X:Cx)(f:Value)(r:List V->Hp->VK->Prop):Prop :=
 ∀ (pins:115) (s:130) (σ:St) (H:Hp) (xs:157) (us:XW) (Q:VK),Inv X pins σ H s->Vals xs us->r xs H Q ->
  wpAny 116 X.A (call f us) (EP X pins σ Q) X.xe s
def tOp (r:R2)(ta tb:TE):TE:=λ σ H Q=>ta σ H λ x H1=>tb σ H1 λ y H2=>r x y H2 Q
def tUn (r:V->Hp->VK->Prop)(ta:TE):TE:=λ σ H Q=>ta σ H λ x H1=>r x H1 Q
def rI (C:Int->Int->Prop)(g:Int->Int->V):R2:=λ x y H Q=>∃ i j,x=.int i/\y=.int j/\C i j/\Q (g i j) H
def rI0 (g:Int->Int->V):R2:=λ x y H Q=>∃ i j,x=.int i/\y=.int j/\Q (g i j) H
def rU (g:Int->V):V->Hp->VK->Prop:=λ x H Q=>∃ i,x=.int i/\Q (g i) H
section
variable {X:Cx}{a b c:Expr}{ta tb tc:TE}{pos:Pos}
theorem z5c (ha:PE X a ta)(hb:PE X b tb){pins:115}{s:130}{σ:St}{H:Hp}{R:V->V->Hp->Prop}(I:110)
  (h:ta σ H λ x H1=>tb σ H1 λ y H2=>R x y H2) {Q:XU}{f:Value->Value->Sem Value}
  (hf:∀ v u s2 x y H2,Inv X pins σ H2 s2->RelV x v->RelV y u->R x y H2->wpAny 116 X.A (f v u) Q X.xe s2) :
  wpAny 116 X.A (eval a X.env) (λ v s₁=>wpAny 116 X.A (eval b X.env) (λ u s₂=>wpAny 116 X.A (f v u) Q X.xe s₂) X.xe s₁) X.xe s:=by
 refine thn 204 λ v s1 ⟨x,H1,I1,r1,q1⟩=>?_;refine thn (hb pins s1 σ H1 _ I1 q1) λ u s2 ⟨y,H2,I2,r2,q2⟩=>?_;exact hf v u s2 x y H2 I2 r1 r2 q2
theorem z84 {op:Operator}{r:R2}(ho:OpR X (binaryOp op) r)(ha:PE X a ta)(hb:PE X b tb):PE X (.BinOp a op b pos) (tOp r ta tb):=by
 intro pins s σ H Q I h;exact wpAny_BinOp (z5c ha hb I h λ v u s2 x y H2 I2 rx ry q=>ho pins s2 σ H2 x y v u Q I2 rx ry q)
theorem On {op:UnaryOp}{r:V->Hp->VK->Prop}(ho:UnR X (unaryOp op) r)(ha:PE X a ta):PE X (.UnaryOp op a pos) (tUn r ta):=by
 intro pins s σ H Q I h;exact UnaryOp_ (thn 204 λ v s1 ⟨x,H1,I1,r1,q1⟩=>ho pins s1 σ H1 x v Q I1 r1 q1)
theorem opI {f:Value->Value->Sem Value}{C:Int->Int->Prop}{g:Int->Int->Int}
  (rule:∀ (i j:Int) (t u:Tok) (s:130) (Q:XU) (E:XU),C i j->Q (.int (g i j) s.toks) { s with toks:=s.toks+1 }->wpAny (model X.prog X.w) X.A (f (.int i t) (.int j u)) Q E s) :
  OpR X f (rI C λ i j=>.int (g i j)):=by
 intro pins s σ H x y v u Q I rx ry h;obtain ⟨i,j,rfl,rfl,hc,q⟩:=h;obtain ⟨t,rfl⟩:=rx;obtain ⟨t',rfl⟩:=ry;exact rule i j t t' s _ _ hc ⟨.int (g i j),H,I.tok _,125,q⟩
theorem z1a {f:Value->Value->Sem Value}{g:Int->Int->Int}
  (rule:∀ (i j:Int) (t u:Tok) (s:130) (Q:XU) (E:XU),Q (.int (g i j) s.toks) { s with toks:=s.toks+1 }->wpAny (model X.prog X.w) X.A (f (.int i t) (.int j u)) Q E s) :
  OpR X f (rI0 λ i j=>.int (g i j)):=by
 intro pins s σ H x y v u Q I rx ry h;obtain ⟨i,j,rfl,rfl,q⟩:=h;obtain ⟨t,rfl⟩:=rx;obtain ⟨t',rfl⟩:=ry;exact rule i j t t' s _ _ ⟨.int (g i j),H,I.tok _,125,q⟩
theorem z1b {f:Value->Value->Sem Value}{g:Int->Int->Bool}
  (rule:∀ (i j:Int) (t u:Tok) (s:130) (Q:XU) (E:XU),Q (.bool (g i j)) s->wpAny 116 X.A (f (.int i t) (.int j u)) Q E s) :
  OpR X f (rI0 λ i j=>.bl (g i j)):=by
 intro pins s σ H x y v u Q I rx ry h;obtain ⟨i,j,rfl,rfl,q⟩:=h;obtain ⟨t,rfl⟩:=rx;obtain ⟨t',rfl⟩:=ry;exact rule i j t t' s _ _ ⟨.bl (g i j),H,I,rfl,q⟩
def za5 (i j:Int):Prop:=0<=j/\j<=1000000/\i.natAbs<2 ^ 64
def zb8 (i j:Int):Prop:=(-(2 ^ 64)<i/\i<2 ^ 64)\/(-(2 ^ 64)<j/\j<2 ^ 64)
theorem Yw (k:Nat):(0:Int)<=2 ^ k:=by
 rw [two_pow_cast];exact Int.natCast_nonneg _
theorem z5d:OpR X (binaryOp .Add) (rI0 λ i j=>.int (i+j)):=z1a λ _ _ _ _ _ _ _ q=>add_int q
theorem z5e:OpR X (binaryOp .Sub) (rI0 λ i j=>.int (i-j)):=z1a λ _ _ _ _ _ _ _ q=>sub_int q
theorem z5f:OpR X (binaryOp .Mod) (rI (λ _ j=>0<j) λ i j=>.int (i%j)):=opI λ i j _ _ _ _ _ hc q=>by
 have h1:(0:Int)<j:=hc;exact mod_int' 109 (by rw [Int.fmod_eq_emod_of_nonneg i 109];exact q)
theorem z5g:OpR X (binaryOp .Pow) (rI za5 λ i j=>.int (i ^ j.toNat)):=opI λ _ _ _ _ _ _ _ hc q=>pow_int_small hc.1 hc.2.1 hc.2.2 q
theorem z5h:OpR X (binaryOp .RShift) (rI (λ _ j=>0<=j) λ i j=>.int (i/2 ^ j.toNat)):=opI λ i j _ _ _ _ _ hc q =>
 rshift_int hc (by rw [Int.fdiv_eq_ediv_of_nonneg i (Yw _)];exact q)
theorem z5i:OpR X (binaryOp .BitAnd) (rI0 λ i j=>.int (Builtin.bitAnd i j)):=z1a λ _ _ _ _ _ _ _ q=>and_int q
theorem z85:OpR X (binaryOp .BitOr) (rI0 λ i j=>.int (Builtin.bitOr i j)):=z1a λ _ _ _ _ _ _ _ q=>or_int q
theorem unI {f:Value->Sem Value}{g:Int->Int}
  (rule:∀ (i:Int) (t:Tok) (s:130) (Q:XU) (E:XU),Q (.int (g i) s.toks) { s with toks:=s.toks+1 }->wpAny (model X.prog X.w) X.A (f (.int i t)) Q E s) :
  UnR X f (rU λ i=>.int (g i)):=by
 intro pins s σ H x v Q I rx h;obtain ⟨i,rfl,q⟩:=h;obtain ⟨t,rfl⟩:=rx;exact rule i t s _ _ ⟨.int (g i),H,I.tok _,125,q⟩
theorem z5j:UnR X (unaryOp .USub) (rU λ i=>.int (-i)):=unI λ _ _ _ _ _ q=>neg_int q
theorem z5k:UnR X (unaryOp .Invert) (rU λ i=>.int (Builtin.bitNot i)):=unI λ _ _ _ _ _ q=>invert_int q
end
section
variable {X:Cx}{a b c:Expr}{ta tb tc:TE}{pos:Pos}
theorem yY {pins:115}{σ:St}{H:Hp}{s:130}{Q:VK}{k k':Bool}(I:110)(q:Q (.bl k) H)(e:k=k'):EP X pins σ Q (.bool k') s:=by
 subst e;exact ⟨.bl k,H,I,rfl,q⟩
theorem z86:OpR X (compareOp .Lt) (rI0 λ i j=>.bl (decide (i<j))):=z1b λ _ _ _ _ _ _ _ q=>lt_int q
theorem z87:OpR X (compareOp .LtE) (rI0 λ i j=>.bl (decide (i<=j))):=z1b λ _ _ _ _ _ _ _ q=>le_int q
theorem z88:OpR X (compareOp .Gt) (rI0 λ i j=>.bl (decide (j<i))):=z1b λ _ _ _ _ _ _ _ q=>gt_int q
theorem z89:OpR X (compareOp .GtE) (rI0 λ i j=>.bl (decide (j<=i))):=z1b λ _ _ _ _ _ _ _ q=>ge_int q
theorem Gd:OpR X (compareOp .In) (λ x y H Q=>∃ i j,x=.str i/\y=.str j/\Q (.bl (!(Builtin.Str.occurrences j i 0 j.length 1).isEmpty)) H):=by
 intro pins s σ H x y v u Q I rx ry h;obtain ⟨i,j,rfl,rfl,q⟩:=h;obtain ⟨t,rfl⟩:=rx;obtain ⟨t',rfl⟩:=ry;exact in_str (yY I q rfl)
theorem W1 {op:CmpOp}{r:R2}(ho:OpR X (compareOp op) r)(ha:PE X a ta)(hb:PE X b tb)(hm:behindInMarks op b=false):PE X (.Compare a [op] [b] pos) (tOp r ta tb):=by
 intro pins s σ H Q I h;exact wpAny_Compare1 (z5c ha hb I h λ v u s2 x y H2 I2 rx ry q=>ho pins s2 σ H2 x y v u Q I2 rx ry q) hm
def US (t:TE):TT:=λ σ H Q=>t σ H λ x H'=>∃ k,x=.bl k/\Q k H'
theorem W2 {op:CmpOp}{r:R2}(ho:OpR X (compareOp op) r)(ha:PE X a ta)(hb:PE X b tb)(hm:behindInMarks op b=false):PT X (.Compare a [op] [b] pos) (US (tOp r ta tb)):=by
 intro pins s σ H Q I h;refine wpAny_isTrue_Compare1 (thn 204 λ v s1 ⟨x,H1,I1,r1,q1⟩=>thn (hb pins s1 σ H1 _ I1 q1) λ u s2 ⟨y,H2,I2,r2,q2⟩ =>
  thn (ho pins s2 σ H2 x y v u _ I2 r1 r2 q2) λ c s3 ⟨z,H3,I3,r3,k,e,q3⟩=>?_) hm
 subst e;cases r3;exact wpAny_truthy_bool ⟨H3,I3,q3⟩
theorem yZ:(sizeLine:Nat)<2 ^ 63:=by rw [sizeLine_eq];decide
theorem Yx:OpR X (binaryOp .Add) (λ x y H Q=>∃ i j,x=.str i/\y=.str j/\i.length+j.length<=sizeLine/\Q (.str (i++j)) H):=by
 intro pins s σ H x y v u Q I rx ry h;obtain ⟨i,j,rfl,rfl,hz,q⟩:=h;obtain ⟨t,rfl⟩:=rx;obtain ⟨t',rfl⟩:=ry;exact add_str (λ t' tk=>⟨.str (i++j),H,I.tok _,125,q⟩) hz
theorem jV {x:V}{us:XW}(r:Vals [x] us):∃ u,us=[u]/\RelV x u:=by
 cases r with
 | cons r1 r2=>cases r2;exact ⟨_,rfl,r1⟩
theorem z8a {x y:V}{us:XW}(r:Vals [x,y] us):∃ u w',us=[u,w']/\RelV x u/\RelV y w':=by
 cases r with
 | cons r1 r2 =>
  cases r2 with
  | cons r3 r4=>cases r4;exact ⟨_,_,rfl,r1,r3⟩
theorem Oo:j1 X (.builtin "abs") (λ xs H Q=>∃ i,xs=[.int i]/\Q (.int (if i<0 then -i else i)) H):=by
 intro pins s σ H xs us Q I r h;obtain ⟨i,rfl,q⟩:=h;obtain ⟨u,rfl,t,rfl⟩:=jV r;exact call_abs_int λ u tk=>⟨.int (if i<0 then -i else i),H,I.tok _,125,q⟩
theorem Jj:j1 X (.type "int") (λ xs H Q=>(∃ i,xs=[.int i]/\Q 187 H)\/∃ k,xs=[.bl k]/\Q (.int (if k then 1 else 0)) H):=by
 intro pins s σ H xs us Q I r h;rcases h with ⟨i,rfl,q⟩ | ⟨k,rfl,q⟩
 ·obtain ⟨u,rfl,t,rfl⟩:=jV r;exact call_int_int ⟨.int i,H,I,125,q⟩
 ·obtain ⟨u,rfl,r1⟩:=jV r;cases r1;exact call_int_bool ⟨.int (if k then 1 else 0),H,I.tok _,125,q⟩
theorem W3:j1 X (.type "str") (λ xs H Q=>∃ i,xs=[.int i]/\i.natAbs.log2<1920/\Q (.str (toString i)) H):=by
 intro pins s σ H xs us Q I r h;obtain ⟨i,rfl,hz,q⟩:=h;obtain ⟨u,rfl,t,rfl⟩:=jV r;exact PySem.P.str_of_int hz ⟨.str _,H,I.tok _,125,q⟩
def za6 (K:Y00)(x:V)(H:Hp)(n:Nat):Prop :=
 match x with
 | .str y=>y.length<=sizeLine/\n=y.length
 | .byt y=>y.size<=sizeLine/\n=y.size
 | .ref p=>(∃ xs,SqL K H p xs/\n=xs.length)\/∃ xs,SqT K H p xs/\n=xs.length
 | _=>False
theorem Oq:j1 X (.builtin "len") (λ xs H Q=>∃ x n,xs=[x]/\za6 X.K x H n/\Q (.int n) H):=by
 intro pins s σ H xs us Q I r h;obtain ⟨x,n,rfl,e,q⟩:=h;obtain ⟨u,rfl,rx⟩:=jV r;have hl:=yZ;have hs:sizeLine=16777216:=sizeLine_eq;cases x with
 | str y =>
  obtain ⟨t,rfl⟩:=rx;obtain ⟨hy,e'⟩:y.length<=sizeLine/\n=y.length:=e;subst e';exact len_str 109 ⟨.int _,H,I.tok _,125,q⟩
 | byt y =>
  obtain ⟨t,rfl⟩:=rx;obtain ⟨hy,e'⟩:y.size<=sizeLine/\n=y.size:=e;subst e';exact PySem.W.len_bytes 109 ⟨.int _,H,I.tok _,125,q⟩
 | ref p =>
  cases rx;have e':(∃ xs,SqL X.K H p xs/\n=xs.length)\/∃ xs,SqT X.K H p xs/\n=xs.length:=e;rcases e' with ⟨xs,hx,e'⟩ | ⟨xs,hx,e'⟩
  ·subst e';obtain ⟨its,r',pl,hz⟩:=I.list hx;have hlen:=r'.length;exact Calls.call_len_list pl.isList (by simp only [Y0a];omega) ⟨.int xs.length,H,I.tok _,⟨_,by simp only [Y0a];rw [hlen]⟩,q⟩
  ·subst e';obtain ⟨its,r',pl,hz⟩:=I.tuple hx;have hlen:=r'.length;exact len_tuple pl (by simp only [Y0a];omega) ⟨.int xs.length,H,I.tok _,⟨_,by simp only [Y0a];rw [hlen]⟩,q⟩
 | _=>exact (show False from e).elim
end
structure ObjM (h:Heap)(x dx C:Addr)(mA:XJ):Prop where
 obj:h.get? x=some (PySem.W.instObj C dx)
 ns:h.Ns1 dx mA
 ne:dx≠x
theorem Ge {h:Heap}{dx:Addr}{mA:XJ}(n:h.Ns1 dx mA):∃ od,h.get? dx=some od/\∀ name,PySem.W.lookIn name od=some (mA name):=by
 obtain ⟨o,es,ep,ho,hd,hk,_,hm⟩:=n;refine ⟨o,ho,λ name=>?_⟩;have e:=hm name;unfold nsFind findBy at e;rw [<- Array.find?_toList] at e;unfold PySem.W.lookIn;rw [hd];dsimp only
 split
 ·rename_i y q;rw [q] at e;exact congrArg some e
 ·rename_i q;rw [q] at e;have a:es.toList.any (·.refKey)=false:=by
   rw [List.any_eq_false];intro y hy;obtain ⟨z,t,hkey⟩:=hk y (Array.mem_toList_iff.mp hy);simp [DictEntry.refKey,hkey]
  have a':¬ es.toList.any (·.refKey)=true:=by rw [a];exact Y0x
  rw [if_neg a'];exact congrArg some e
theorem ObjM.look {h:Heap}{x dx C:Addr}{mA:XJ}(I:ObjM h x dx C mA):∃ od,PySem.W.InstAt h x (PySem.W.instObj C dx) C (some od)/\∀ name,PySem.W.lookIn name od=some (mA name) :=
 let ⟨od,ho,hl⟩:=Ge I.ns
 ⟨od,⟨I.obj,rfl,rfl,ho⟩,hl⟩
section
variable {prog:156}{w:World}{A:Around}{E:XU}{s:130}{K:Y00}{x dx C f:Addr}{mA:XJ}{name:Str}{v:Value}
theorem z1c {expr:Bool}{Q:XU}(X:K.In s.heap)(I:ObjM s.heap x dx C mA)(hg:PySem.W.plainGet K C name=true)(hh:PySem.W.hasDictIn K C=true)
  (ha:PySem.W.findIn K (.ref C) name=some none) (hv:mA name=some v) (hv':PySem.W.handedIn v=true) (h:Q v { s with toks:=s.toks+1 }) :
  wpAny 118 A (getAttr (.ref x) name expr) Q E s:=by
 obtain ⟨od,J,hl⟩:=I.look;exact PySem.W.get_value X J (PySem.W.plainGet_of hg).1 (PySem.W.findObj_own hh ha rfl (by rw [hl,hv])) hv' h
theorem z1d {ns:XQ}{Q:Unit->Shared->Prop}(X:K.In s.heap)(I:ObjM s.heap x dx C mA)
  (hs:PySem.W.findIn K (.ref C) "__setattr__"=some (some (.builtin "object.__setattr__"))) (hp:PySem.W.plainOver K C=true) (ht:PySem.W.takerIn K C name=some none) (hh:PySem.W.hasDictIn K C=true)
  (hw:PySem.Within mA ns) (hsz:ns.length<=sizeLine)
  (h:∀ h',ObjM h' x dx C (λ y=>if y=name then some v else mA y)->Heap.SameBut dx s.heap h'->Q () { s with heap:=h',toks:=s.toks+2 }) :
  wpAny 118 A (setAttr (.ref x) name v) Q E s:=by
 obtain ⟨od,J,hl⟩:=I.look;refine PySem.W.set_plain X J hs (PySem.W.osa_open (s:={ s with toks:=s.toks+1 }) (r:=none) X J hp ht λ b=>?_);obtain ⟨cd,hc,hd'⟩:=PySem.W.any_some hh;have hx:s.heap.get? x=some ⟨.ref C,some dx,.plain,#[]⟩:=I.obj;refine wpAny_bind (wpAny_pure (wpAny_bind (wpAny_bind (wpAny_loadPart hx (wpAny_bind (PySem.W.Looks.here (s:={ s with toks:=s.toks+1 }) (PySem.W.looks_clsIn X hc) ?_))))));rw [hd'];refine wpAny_pure (a:=some dx) (wpAny_bind (wpAny_pure (wpAny_bind ?_)));refine wpAny_nsSet1 (s:={ s with toks:=s.toks+1 }) I.ns λ h' hn2 hs2=>?_;obtain ⟨oD,esD,epD,hoD,hdD,hcD⟩:=hn2.count (PySem.Within.cons name v hw);refine wpAny_bind (wpAny_lookBehind hoD (by rw [hdD];exact pastItsLine_dict (Y0n hcD (by rw [Y08];omega))) ?_);exact wpAny_pure (h _ ⟨(hs2.2 _ (Ne.symm I.ne)).trans I.obj,hn2,I.ne⟩ hs2)
theorem Os {R:Result->Shared->Prop}{vs:XW}{kw:List (Str×Value)}(X:K.In s.heap)(hm:PySem.W.makesIn K C=true)
    (hi:PySem.W.findIn K (.ref C) "__init__"=some (some (.ref f))) (hf:PySem.W.typeIn K (.ref f)=some (.type "function"))
    (h:codeAny 118 (A.under (.builtin "type.__call__" ⟨.ref C::vs,kw⟩)) (.call (.ref f) ⟨.ref 151::vs,kw⟩) (PySem.W.InitBack 151 R)
      { s with heap:=(s.heap.push PySem.W.emptyDict).push (PySem.W.instObj C s.heap.objs.size) }) :
    codeAny 118 A (.call (.ref C) ⟨vs,kw⟩) R s:=by
  obtain ⟨hh,g,d,t,os⟩:=s;exact PySem.W.make_core (PySem.W.makes_of X hm) (PySem.W.looks_findIn X hi) (λ self=>PySem.W.bind_fn X self hf) (.inl rfl) h
end
def wo (f:Str)(v:V):List (Str×V)->List (Str×V)
 | []=>[(f,v)]
 | (g,x)::r=>if g=f then (g,v)::r else (g,x)::wo f v r
theorem yq (f g:Str)(v:V):∀ fs:List (Str×V),(wo f v fs).lookup g=if g=f then some v else fs.lookup g
 | []=>by
  show List.lookup g [(f,v)]=_;by_cases h:g=f
  ·have hb:(g==f)=true:=beq_iff_eq.mpr h;simp only [List.lookup,hb,if_pos h]
  ·have hb:(g==f)=false:=beq_eq_false_iff_ne.mpr h;simp only [List.lookup,hb,if_neg h]
 | (k,x)::r=>by
  have ih:=yq f g v r;rw [show wo f v ((k,x)::r)=(if k=f then (k,v)::r else (k,x)::wo f v r) from rfl];by_cases hk:k=f
  ·rw [if_pos hk];by_cases h:g=k
   ·have hb:(g==k)=true:=beq_iff_eq.mpr h;simp only [List.lookup,hb,if_pos (h.trans hk)]
   ·have hb:(g==k)=false:=beq_eq_false_iff_ne.mpr h;simp only [List.lookup,hb,if_neg (λ e:g=f=>h (e.trans hk.symm))]
  ·rw [if_neg hk];by_cases h:g=k
   ·have hb:(g==k)=true:=beq_iff_eq.mpr h;simp only [List.lookup,hb,if_neg (λ e:g=f=>hk (h.symm.trans e))]
   ·have hb:(g==k)=false:=beq_eq_false_iff_ne.mpr h;simp only [List.lookup,hb];exact ih
theorem ya (f:Str)(v:V):∀ fs:List (Str×V),f∈(wo f v fs).map (·.1)/\∀ g,g∈fs.map (·.1)->g∈(wo f v fs).map (·.1)
 | []=>⟨by simp [wo],λ g h=>by simp at h⟩
 | (k,x)::r=>by
  obtain ⟨i1,i2⟩:=ya f v r;rw [show wo f v ((k,x)::r)=(if k=f then (k,v)::r else (k,x)::wo f v r) from rfl];by_cases hk:k=f
  ·rw [if_pos hk];subst hk;exact ⟨by simp,λ g h=>by simpa using h⟩
  ·rw [if_neg hk];refine ⟨?_,λ g h=>?_⟩
   ·rw [Y09];exact Y03 _ i1
   ·rw [Y09] at h ⊢;rcases Y06.mp h with e | e
    ·exact Y06.mpr (.inl e)
    ·exact Y03 _ (i2 g e)
theorem yr (f:Str)(v:V):∀ fs:List (Str×V),(wo f v fs).length<=fs.length+1
 | []=>by simp [wo]
 | (k,x)::r=>by
  have ih:=yr f v r;rw [show wo f v ((k,x)::r)=(if k=f then (k,v)::r else (k,x)::wo f v r) from rfl];by_cases hk:k=f
  ·rw [if_pos hk,Y08,Y08];omega
  ·rw [if_neg hk,Y08,Y08];omega
theorem RelO.some_of {v:V}{o:Option Value}(r:RelO (some v) o):∃ u,o=some u/\RelV v u:=by
 cases o with
 | none=>exact (show False from r).elim
 | some u=>exact ⟨u,rfl,r⟩
theorem Gf {v:V}{u:Value}(r:RelV v u):PySem.W.handedIn u=true:=by
 cases v with
 | non=>cases (show u=Value.none from r);rfl
 | bl b=>cases (show u=Value.bool b from r);rfl
 | int i=>obtain ⟨t,e⟩:=(show ∃ t,u=Value.int i t from r);cases e;rfl
 | str x=>obtain ⟨t,e⟩:=(show ∃ t,u=Value.str x t from r);cases e;rfl
 | byt b=>obtain ⟨t,e⟩:=(show ∃ t,u=Value.bytes b t from r);cases e;rfl
 | flt b=>obtain ⟨t,e⟩:=(show ∃ t,u=Value.float b t from r);cases e;rfl
 | ref a=>cases (show u=Value.ref a from r);rfl
 | ty n=>cases (show u=Value.type n from r);rfl
section
variable {P:156}{w:World}{H H':Hp}{h h':Heap}{a C dx:Addr}{fs fs':List (Str×V)}
theorem W4 (hok:HOk P w H h)(e:H a=some (.ins C dx fs)):∃ mA,ObjM h a dx C mA/\(∀ f,RelO (fs.lookup f) (mA f))/\PySem.Within mA (fs.map (·.1))/\fs.length<=1000/\H dx=some (.own a):=by
 obtain ⟨d,z,ne,ob,mA,n,r,q⟩:=(show ObjOk P w H h a (.ins C dx fs) from hok a _ e);exact ⟨mA,⟨ob,n,ne⟩,r,q,z,d⟩
end
structure Cls (K:Y00)(C:Addr):Prop where
 pg:PySem.W.plainGet K C Str.empty=true
 hd:PySem.W.hasDictIn K C=true
 po:PySem.W.plainOver K C=true
 sa:PySem.W.findIn K (.ref C) "__setattr__"=some (some (.builtin "object.__setattr__"))
theorem Cls.get {K:Y00}{C:Addr}(c:Cls K C)(f:Str):PySem.W.plainGet K C f=true:=c.pg
def NoAttr (K:Y00)(C:Addr)(f:Str):Prop:=PySem.W.findIn K (.ref C) f=some none
theorem NoAttr.taker {K:Y00}{C:Addr}{f:Str}(n:NoAttr K C f):PySem.W.takerIn K C f=some none:=by
 unfold PySem.W.takerIn;rw [show PySem.W.findIn K (.ref C) f=some none from n];rfl
structure Con (K:Y00)(C:Addr)(f:Str)(v:V)(u:Value):Prop where
 at_:PySem.W.findIn K (.ref C) f=some (some u)
 rel:RelV v u
 get:PySem.W.specialIn K u "__get__"=some none
 cp:PySem.W.copiedNames.contains f=false
structure Meth (K:Y00)(C:Addr)(m:Str)(f:Addr):Prop where
 at_:PySem.W.findIn K (.ref C) m=some (some (.ref f))
 fn:PySem.W.isFn K (.ref f)=true
 kp:PySem.W.keepIn K (.ref f)=true
section
variable {X:Cx}{pins:115}{σ:St}{H:Hp}{s:130}{a C dx:Addr}{fs:List (Str×V)}{f:Str}{v:V}{A:Around}{E:XU}
theorem Yy {b:Bool}{Q:XU}(I:110)(e:H a=some (.ins C dx fs))(c:Cls X.K C)(n:NoAttr X.K C f)(l:fs.lookup f=some v)
  (h:∀ u s',Inv X pins σ H s'->RelV v u->Q u s'):wpAny 116 A (getAttr 155 f b) Q E s:=by
 obtain ⟨mA,O,r,_,_,_⟩:=W4 I.hok e;obtain ⟨u,hu,ru⟩:=RelO.some_of (v:=v) (o:=mA f) (by rw [<- l];exact r f);exact z1c I.kIn O (c.get f) c.hd n hu (Gf ru) (h u _ (I.tok _) ru)
theorem Yz {y:V}{u:Value}{Q:Unit->Shared->Prop}(I:110)(e:H a=some (.ins C dx fs))(c:Cls X.K C)(n:NoAttr X.K C f)(hl:fs.length<1000)(ry:RelV y u)
  (h:∀ s',Inv X pins σ (upd H a (.ins C dx (wo f y fs))) s'->Q () s'):wpAny 116 A (setAttr 155 f u) Q E s:=by
 obtain ⟨mA,O,r,wi,_,ho⟩:=W4 I.hok e;have hz:(fs.map (·.1)).length<=sizeLine:=by rw [Y04,sizeLine_eq];omega
 refine z1d I.kIn O c.sa c.po n.taker c.hd wi hz λ h' O' sb=>h _ ?_;have hd:∃ o,h'.get? dx=some o:=let ⟨o,_,_,e',_⟩:=O'.ns;⟨o,e'⟩;refine I.write (x:=a) (e:=dx) (by rw [e];exact True.intro) (.inr ho) (λ b q hb z=>(sb.2 b hb).trans z) hd ?_;refine ⟨by rw [zl O.ne];exact ho,?_,O.ne,O'.obj,_,O'.ns,λ g=>?_,λ g hg=>?_⟩
 ·have:=yr f y fs;omega
 ·show RelO ((wo f y fs).lookup g) (if g=f then some u else mA g);rw [yq];by_cases q:g=f
  ·rw [if_pos q,if_pos q];exact ry
  ·rw [if_neg q,if_neg q];exact r g
 ·by_cases q:g=f
  ·rw [q];exact (ya f y fs).1
  ·refine (ya f y fs).2 g (wi g λ z=>hg ?_);show (if g=f then some u else mA g)=none;rw [if_neg q];exact z
theorem Inv.made (I:110):Inv X pins σ (upd (upd H s.heap.objs.size (.own 151)) 151 (.ins C s.heap.objs.size []))
    { s with heap:=(s.heap.push PySem.W.emptyDict).push (PySem.W.instObj C s.heap.objs.size) }:=by
  have e1:(s.heap.push PySem.W.emptyDict).get? s.heap.objs.size=some PySem.W.emptyDict:=Y0d s.heap rfl;have e2:((s.heap.push PySem.W.emptyDict).push (PySem.W.instObj C s.heap.objs.size)).get? 151=some (PySem.W.instObj C s.heap.objs.size):=by
    have:=Y0d (s.heap.push PySem.W.emptyDict) (o:=PySem.W.instObj C s.heap.objs.size) rfl
    rwa [Y1g] at this
  have e3:(s.heap.push PySem.W.emptyDict).Ns s.heap.objs.size (λ _=>none):=⟨PySem.W.emptyDict,#[],_,e1,rfl,(λ e he=>absurd he 111),λ _=>rfl⟩;have I1:=I.laid (a:=s.heap.objs.size) (o:=.own 151) (h':=s.heap.push PySem.W.emptyDict) (t':=s.toks) (λ b u q=>Y02 _ q) 169 ⟨_,e1⟩;refine I1.laid (a:=s.heap.objs.size+1) (o:=.ins C s.heap.objs.size []) (t':=s.toks) (λ b u q=>Y02 _ q) (Y3u (Y1g _ _)) ?_;have ne:s.heap.objs.size≠s.heap.objs.size+1:=Y0i (Y1n _);refine ⟨by rw [zl ne,zw],Y1h _,ne,e2,λ _=>none,(Heap.Ns1.of_empty e3).at λ o q=>Y02 _ q,λ _=>True.intro,λ y hy=>absurd rfl hy⟩
theorem z1e {prog:156}{w:World}{env:Env}{e:Expr}{f:Str}{pos:Pos}{s:130}{Q:XU}(hb:attributeBase e f env (eval e env)=eval e env)
  (h:wpAny 118 A (eval e env) (λ o s₁=>wpAny 118 A (getAttr o f true) Q E s₁) E s):wpAny 118 A (eval (.Attribute e f pos) env) Q E s :=
 Attribute_any_ h (by rw [arm_eval_Attribute,hb])
end
def za7 (K:Y00)(ta:TE)(f:Str):TE:=λ σ H Q=>ta σ H λ x H1=>∃ a C dx fs v,x=.ref a/\H1 a=some (.ins C dx fs)/\Cls K C/\NoAttr K C f/\fs.lookup f=some v/\Q v H1
def za8 (K:Y00)(ta tv:TE)(f:Str):TS:=λ D σ H=>tv σ H λ y H1=>ta σ H1 λ x H2=>∃ a C dx fs,x=.ref a/\H2 a=some (.ins C dx fs)/\Cls K C/\NoAttr K C f/\fs.length<1000 /\
 D.nx σ (upd H2 a (.ins C dx (wo f y fs)))
section
variable {X:Cx}{o e value:Expr}{f:Str}{pos pos' tpos:Pos}{ta tv:TE}
theorem z5l (he:PE X e ta)(hb:attributeBase e f X.env (eval e X.env)=eval e X.env):PE X (.Attribute e f pos) (za7 X.K ta f):=by
 intro pins s σ H Q I h;refine z1e hb (thn (he pins s σ H _ I h) λ u s1 ⟨x,H1,I1,rx,a,C,dx,fs,v,ex,ea,c,n,l,q⟩=>?_);subst ex;obtain rfl:u=Value.ref a:=rx;exact Yy I1 ea c n l λ u' s2 I2 ru=>⟨v,H1,I2,ru,q⟩
theorem z5m (ha:PE X o ta)(hv:PE X value tv)(hs:swapsWith value (some (.Attribute o f pos')) pos.line X.env=pure false):PS X (.Assign [.Attribute o f pos'] value pos) (za8 X.K ta tv f):=by
 intro pins s σ H D I h;refine plainObj_wpAny_Assign_Attribute (thn (hv pins s σ H _ I h) λ u s1 ⟨y,H1,I1,ry,q⟩=>thn (ha pins s1 σ H1 _ I1 q) λ ov s2 ⟨x,H2,I2,rx,a,C,dx,fs,ex,ea,c,n,l,q2⟩=>?_) hs;subst ex;obtain rfl:ov=Value.ref a:=rx;exact Yz I2 ea c n l ry λ s3 I3=>⟨σ,_,I3,q2⟩
end
section
variable {X:Cx}{pins:115}{σ:St}{H:Hp}{s:130}{A:Around}{E:XU}{Q:XU}{c:Value}{b:Bool}
inductive TyOf (K:Y00)(H:Hp):V->Value->Prop where
 | non:TyOf K H .non (.type "NoneType")
 | bl (x:Bool):TyOf K H (.bl x) (.type "bool")
 | int (i:Int):TyOf K H 187 (.type "int")
 | str (x:Str):TyOf K H (.str x) (.type "str")
 | flt (x:UInt64):TyOf K H (.flt x) (.type "float")
 | lst {a:Addr}{xs:157} (e:H a=some 178):TyOf K H 155 (.type "list")
 | frz {a:Addr}{o:Obj}{xs:157} (e:H a=some (.frz o 178)):TyOf K H 155 (.type "list")
 | tup {a:Addr}{xs:157} (e:H a=some (.tup xs)):TyOf K H 155 (.type "tuple")
 | dK {a:Addr}{kvs:152} (e:H a=some 192):TyOf K H 155 (.type "dict")
 | dT {a:Addr}{kvs:List (List Key×V)} (e:H a=some (.dT kvs)):TyOf K H 155 (.type "dict")
 | ins {a C dx:Addr}{fs:List (Str×V)} (e:H a=some (.ins C dx fs)) (cl:Cls K C) (ha:PySem.W.findIn K (.ref C) "__class__"=some (some (.builtin "object.__class__")))
   (hn:PySem.W.specialIn K (.builtin "object.__class__") "__get__"=some (some (.builtin "getset_descriptor.__get__"))) (htk:PySem.W.takesIn K (.builtin "object.__class__")=some true)
   (hm:PySem.W.mroIn K C (.type "object")=some true):TyOf K H 155 (.ref C)
theorem jM {x:V}{u t:Value}(I:110)(rx:RelV x u)(ty:TyOf X.K H x t)(e:PySem.W.kitOne X.K t c=some b)(h:∀ tk,Q (.bool b) { s with toks:=tk }) :
  wpAny 116 A (call (.builtin "isinstance") [u,c]) Q E s:=by
 cases ty with
 | non=>cases (show u=Value.none from rx);exact Y17 PySem.W.kitx_none I.kIn True.intro e (λ z=>nomatch z) h
 | bl y=>cases (show u=Value.bool y from rx);exact Y17 PySem.W.kitx_bool I.kIn True.intro e (λ z=>nomatch z) h
 | int i=>obtain ⟨t,q⟩:=(show ∃ t,u=Value.int i t from rx);cases q;exact Y17 PySem.W.kitx_int I.kIn True.intro e (λ z=>nomatch z) h
 | str y=>obtain ⟨t,q⟩:=(show ∃ t,u=Value.str y t from rx);cases q;exact Y17 PySem.W.kitx_str I.kIn True.intro e (λ z=>nomatch z) h
 | flt y=>obtain ⟨t,q⟩:=(show ∃ t,u=Value.float y t from rx);cases q;exact Y17 PySem.W.kitx_float I.kIn True.intro e (λ z=>nomatch z) h
 | @lst a xs ea =>
  cases (show u=Value.ref a from rx);obtain ⟨_,_,n,_,h1⟩:=(show ObjOk X.prog X.w H s.heap a 178 from I.hok a _ ea);exact Y17 Y35 I.kIn ⟨_,h1,rfl⟩ e (λ z=>nomatch z) h
 | @frz a ob xs ea =>
  cases (show u=Value.ref a from rx);obtain ⟨_,_,_,n,_,h1⟩:=(show ObjOk X.prog X.w H s.heap a (.frz ob 178) from I.hok a _ ea);exact Y17 Y35 I.kIn ⟨_,h1,rfl⟩ e (λ z=>nomatch z) h
 | @tup a xs ea =>
  cases (show u=Value.ref a from rx);obtain ⟨_,_,_,p⟩:=(show ObjOk X.prog X.w H s.heap a (.tup xs) from I.hok a _ ea);obtain ⟨o,h1,h2,_⟩:=p;exact Y17 PySem.W.kitx_tuple I.kIn ⟨o,h1,h2⟩ e (λ z=>nomatch z) h
 | @dK a kvs ea =>
  cases (show u=Value.ref a from rx);obtain ⟨_,_,vs,_,p⟩:=(show ObjOk X.prog X.w H s.heap a 192 from I.hok a _ ea);obtain ⟨o,es,ep,h1,h2,_⟩:=p;exact Y17 PySem.W.kitx_dict I.kIn ⟨o,h1,h2.1⟩ e (λ z=>nomatch z) h
 | @dT a kvs ea =>
  cases (show u=Value.ref a from rx);obtain ⟨_,_,xs,_,o,es,ep,h1,h2,_⟩:=(show ObjOk X.prog X.w H s.heap a (.dT kvs) from I.hok a _ ea);exact Y17 PySem.W.kitx_dict I.kIn ⟨o,h1,h2.1⟩ e (λ z=>nomatch z) h
 | @ins a C dx fs ea cl ha hn htk hm =>
  cases (show u=Value.ref a from rx);obtain ⟨mA,O,_⟩:=W4 I.hok ea;obtain ⟨od,J,_⟩:=O.look;exact Y17 (PySem.W.kitx_own (cl.get _) cl.hd ha hn htk hm) I.kIn J e (λ z=>nomatch z) h
end
structure Room (k:Nat)(A:Around):Prop where
 hd:A.handled=none
 dp:A.depth+3*k+5<recursionLimit
 un:A.units+16*k+200<cLine
theorem Room.mono {j k:Nat}{A:Around}(r:Room k A)(h:j<=k):Room j A:=⟨r.hd,by have:=r.dp;omega,by have:=r.un;omega⟩
theorem Room.deeper {k:Nat}{A:Around}(r:Room (k+1) A)(env:Env):Room k (A.deeper env) :=
 ⟨r.hd,by have:=r.dp;show A.depth+1+3*k+5<_;omega,by have:=r.un;show A.units+3+16*k+200<_;omega⟩
theorem YA {A:Around}{C:Addr}{us:XW}{kw:List (Str×Value)}:(A.under (.builtin "type.__call__" ⟨.ref C::us,kw⟩)).depth=A.depth+1:=by
 first | rfl | simp [Around.under,Code.weight,Code.isCreation,Code.isGuard,Code.isCaller,Code.frames,Code.isFrame,guardIds]
theorem YB {A:Around}{C:Addr}{us:XW}{kw:List (Str×Value)}:(A.under (.builtin "type.__call__" ⟨.ref C::us,kw⟩)).units=A.units+1:=by
 first | rfl | simp [Around.under,Code.cUnits,Code.frames,Code.isFrame]
theorem Room.make {k:Nat}{A:Around}(r:Room (k+1) A)(C:Addr)(us:XW)(kw:List (Str×Value)):Room k (A.under (.builtin "type.__call__" ⟨.ref C::us,kw⟩)) :=
 ⟨r.hd,by have:=r.dp;rw [YA];omega,by have:=r.un;rw [YB];omega⟩
theorem Room.depth {k:Nat}{A:Around}(r:Room k A):A.depth<recursionLimit:=by have:=r.dp;omega
theorem Room.units {k:Nat}{A:Around}(r:Room k A):A.units+64<cLine:=by have:=r.un;omega
def za9:TA:=λ _ H Q=>Q [] H
def UT (ta:TE)(tr:TA):TA:=λ σ H Q=>ta σ H λ x H1=>tr σ H1 λ xs H2=>Q (x::xs) H2
section
variable {X:Cx}{e:Expr}{es:List Expr}{te:TE}{t:TA}{pos:Pos}
theorem zY:PA X [] za9:=λ _ _ _ _ H Q I h=>Calls.spliced_nil ⟨[],H,I,.nil,h⟩
theorem zG (ha:PE X e te)(hr:PA X es t)(hs:starEach (e::es) X.env=(false,eval e X.env)::starEach es X.env:=by rfl):PA X (e::es) (UT te t):=by
 intro pos pins s σ H Q I h;rw [hs];show wpAny _ _ (spliced ((false,eval e X.env)::backTo pos (starEach es X.env))) _ _ s;refine Calls.spliced_cons (thn 204 λ u s1 ⟨x,H1,I1,r1,q1⟩=>?_);exact thn (hr pos pins s1 σ H1 _ I1 q1) λ us s2 ⟨xs,H2,I2,r2,q2⟩=>⟨x::xs,H2,I2,.cons r1 r2,q2⟩
def zaa (t:TA):TE:=λ σ H Q=>t σ H λ xs H1=>xs.length<=sizeLine/\∀ p,H1 p=none->Q (.ref p) (upd H1 p (.tup xs))
def zab (t:TA):TE:=λ σ H Q=>t σ H λ xs H1=>xs.length<=sizeLine/\∀ p,H1 p=none->Q (.ref p) (upd H1 p 178)
theorem z5n {x1}(h:PA X es t):PE X (.Tuple es x1 pos) (zaa t):=by
 intro pins s σ H Q I hq;refine wpAny_Tuple_spliced (thn (h pos pins s σ H _ I hq) λ us s1 ⟨xs,H1,I1,r,z,q⟩=>⟨by rw [<- r.length];exact z,?_⟩);have hf:H1 s1.heap.objs.size=none:=I1.hok.fresh 169;refine ⟨.ref s1.heap.objs.size,upd H1 s1.heap.objs.size (.tup xs),I1.laid (t':=s1.toks) (λ b u e=>Y02 _ e) 169 ?_,rfl,q _ hf⟩;exact ⟨z,us,r,⟨_,Y0d _ rfl,rfl,_,rfl⟩⟩
theorem YC (h:PA X es t):PE X (.List es pos) (zab t):=by
 intro pins s σ H Q I hq;refine wpAny_List_spliced (thn (h pos pins s σ H _ I hq) λ us s1 ⟨xs,H1,I1,r,z,q⟩=>⟨by rw [<- r.length];exact z,?_⟩);have hf:H1 s1.heap.objs.size=none:=I1.hok.fresh 169;refine ⟨.ref s1.heap.objs.size,upd H1 s1.heap.objs.size 178,I1.laid (t':=s1.toks) (λ b u e=>Y02 _ e) 169 ?_,rfl,q _ hf⟩;exact ⟨z,us,0,r,Y0d _ rfl⟩
end
abbrev Sp:=List V->Hp->VK->XK->Prop
abbrev CXT:=List Env->Hp->Shared->XK->Value->Shared->Prop
structure Env0 (P:156)(w:World)(K:Y00)(mg:XJ)(base:Heap)(A:Around)(outer:List Env)(s:130)(H:Hp):Prop where
 frames:A.frames=some outer
 mod:Mod K mg base
 bs:∀ b o,base.get? b=some o->s.heap.get? b=some o/\H b=none
 bsz:base.objs.size<=s.heap.objs.size
 funs:s.heap.FunFrames base outer
 frf:∀ b∈frs outer,H b=none
 hok:HOk P w H s.heap
 bare:AllBare s.gens
def CE (outer:List Env)(P:156)(w:World)(H:Hp)(s:130)(Q:VK)(u:Value)(s':130):Prop :=
 ∃ v H',s'.os=s.os/\AllBare s'.gens/\Un (frs outer) [] H H' s.heap s'.heap/\HOk P w H' s'.heap/\RelV v u/\Q v H'
def CR (CX:CXT)(outer:List Env)(P:156)(w:World)(H:Hp)(s:130)(Q:VK)(E:XK)(r:Result)(s':130):Prop :=
 match r with
 | .ok (.ret u)=>CE outer P w H s Q u s'
 | .ok _=>False
 | .error e=>CX outer H s E e s'
structure FnOk (P:156)(w:World)(K:Y00)(mg:XJ)(base:Heap)(CX:CXT)(k:Nat)(f:Addr)(fd:FuncData)(ps:XQ)(sp:Sp):Prop where
 len:∀ vs H Q E,sp vs H Q E->vs.length=ps.length
 run:∀ (A:Around) (outer:List Env) (s:130) (H:Hp) (args:Args) (us:XW) (vs:157) (Q:VK) (E:XK),Room k A->Env0 P w K mg base A outer s H->BindsTo s fd args (ps.zip us)->Vals vs us->sp vs H Q E ->
  codeAny (model P w) A (.call (.ref f) args) (CR CX outer P w H s Q E) s
theorem Env0.make {P:156}{w:World}{K:Y00}{mg:XJ}{base:Heap}{A:Around}{outer:List Env}{s:130}{H:Hp}(e:Env0 P w K mg base A outer s H)(C:Addr)(us:XW)(kw:List (Str×Value)) :
  Env0 P w K mg base (A.under (.builtin "type.__call__" ⟨.ref C::us,kw⟩)) outer s H:=⟨by first | exact e.frames | (simpa [Around.under,Code.envs,Code.isFrame,pushEnvs] using e.frames),e.mod,e.bs,e.bsz,e.funs,e.frf,e.hok,e.bare⟩
section
variable {X:Cx}{pins:115}{σ:St}{H:Hp}{s s':130}
theorem Inv.env0 (I:110):Env0 X.prog X.w X.K X.mg X.base X.A X.stack s H :=
 ⟨I.ok.frames,I.ok.mod,I.bs,Y0n I.ok.bsz I.sz,I.stack,I.stkFree,I.hok,I.bare⟩
theorem Inv.after {Q:VK}{u:Value}(I:110)(h:CE X.stack X.prog X.w H s Q u s'):EP X pins σ Q u s':=by
 obtain ⟨v,H',os,bare,un,hok,r,q⟩:=h;obtain ⟨hh,g,d,t,os'⟩:=s';obtain rfl:os'=s.os:=os;exact ⟨v,H',I.call (h':=hh) (g':=g) (d':=d) (t':=t) (ch:=[]) un hok bare (λ b z=>absurd z 111),r,q⟩
end
def Binds (K:Y00)(fd:FuncData)(ps:XQ)(ds:XW):Prop :=
 ∀ (s:130) (us:XW),K.In s.heap->(us++ds).length=ps.length->BindsTo s fd ⟨us,[]⟩ (ps.zip (us++ds))
theorem Binds.all {K:Y00}{fd:FuncData}{ps:XQ}(h:∀ us:List Value,us.length=ps.length->bindArgs fd ⟨us,[]⟩=pure (ps.zip us)):Binds K fd ps []:=λ s us _ hl=>by
 rw [Y13] at hl ⊢;exact .of_eq (h us hl)
section
variable {X:Cx}{CX:CXT}{k:Nat}{f C:Addr}{fd:FuncData}{ps:XQ}{sp:Sp}{dvs:157}{ds:XW}{E:XK}{x m:Str}{p pos apos:Pos}{e o:Expr}{es:List Expr}{ta:TE}{t:TA}
structure Mk (K:Y00)(C f:Addr):Prop where
 makes:PySem.W.makesIn K C=true
 init:PySem.W.findIn K (.ref C) "__init__"=some (some (.ref f))
 fn:PySem.W.isFn K (.ref f)=true
 kp:PySem.W.keepIn K (.ref C)=true
end
section
variable {X:Cx}{CX:CXT}{k:Nat}{f C:Addr}{fd:FuncData}{ps ks:XQ}{sp:Sp}{E:XK}{x m:Str}{p pos apos kpos:Pos}{e o:Expr}{es:List Expr}{kws:List Keyword}{te ta:TE}{t tk:TA}{nm:XY}
structure KBinds (K:Y00)(fd:FuncData)(ps ks:XQ)(g:List Value->List Value->List Value)(gV:List V->List V->List V):Prop where
 to:∀ (s:130) (us ws:XW),K.In s.heap->(g us ws).length=ps.length->BindsTo s fd ⟨us,ks.zip ws⟩ (ps.zip (g us ws))
 rel:∀ {vs:157}{us:XW}{zs:157}{ws:XW},Vals vs us->Vals zs ws->Vals (gV vs zs) (g us ws)
variable {g:List Value->List Value->List Value}{gV:List V->List V->List V}
end
structure FnScope (N P:XQ)(sc:Scope):Prop where
 kind:sc.kind=.function
 co:sc.isCoroutine=false
 gen:sc.isGenerator=false
 nd:N.Nodup
 pre:N.take P.length=P
 par:∀ x∈P,sc.names.lookup x=some .local\/sc.names.lookup x=some .cell
 nofree:∀ y∈sc.names,y.2≠.free
theorem Jk {kindOf:Str->Option NameKind}{x:Str}:∀ {binds:List (Str×Value)}{m:XJ},(∀ v,(x,v)∉binds)->bindL kindOf binds m x=m x
 | [],_,_=>rfl
 | (n,v)::r,m,h=>by
  unfold bindL;rw [Jk λ w hw=>h w (Y03 _ hw)]
  split
  ·have:x≠n:=by rintro rfl;exact h v Y05
   simp [this]
  ·rfl
theorem Jl {kindOf:Str->Option NameKind}{x:Str}:∀ {binds:List (Str×Value)}{m:XJ},(∀ v,(x,v)∉binds)->bindC kindOf binds m x=m x
 | [],_,_=>rfl
 | (n,v)::r,m,h=>by
  unfold bindC;rw [Jl λ w hw=>h w (Y03 _ hw)]
  split
  ·rfl
  ·have:x≠n:=by rintro rfl;exact h v Y05
   simp [this]
theorem Jm {kindOf:Str->Option NameKind}{x:Str}{v:Value}:∀ {P:XQ}{vs:XW}{i:Nat}{m:XJ},P.Nodup->P[i]?=some x->vs[i]?=some v->kindOf x=some .local ->
  bindL kindOf (P.zip vs) m x=some v
 | [],_,_,_,_,h,_,_=>by simp at h
 | _::_,[],_,_,_,_,h,_=>by simp at h
 | p::P,w::vs,0,m,nd,h1,h2,hk=>by
  simp at h1 h2;subst h1;subst h2;show bindL kindOf ((p,w)::P.zip vs) m p=_;unfold bindL;rw [Jk λ v hv=>(Y15.mp nd).1 (List.of_mem_zip hv).1,if_pos hk];simp
 | p::P,w::vs,i+1,m,nd,h1,h2,hk=>by
  show bindL kindOf ((p,w)::P.zip vs) m x=_;unfold bindL;exact Jm (i:=i) (Y15.mp nd).2 (by simpa using h1) (by simpa using h2) hk
theorem Jn {kindOf:Str->Option NameKind}{x:Str}{v:Value}:∀ {P:XQ}{vs:XW}{i:Nat}{m:XJ},P.Nodup->P[i]?=some x->vs[i]?=some v->kindOf x≠some .local ->
  bindC kindOf (P.zip vs) m x=some v
 | [],_,_,_,_,h,_,_=>by simp at h
 | _::_,[],_,_,_,_,h,_=>by simp at h
 | p::P,w::vs,0,m,nd,h1,h2,hk=>by
  simp at h1 h2;subst h1;subst h2;show bindC kindOf ((p,w)::P.zip vs) m p=_;unfold bindC;rw [Jl λ v hv=>(Y15.mp nd).1 (List.of_mem_zip hv).1,if_neg hk];simp
 | p::P,w::vs,i+1,m,nd,h1,h2,hk=>by
  show bindC kindOf ((p,w)::P.zip vs) m x=_;unfold bindC;exact Jn (i:=i) (Y15.mp nd).2 (by simpa using h1) (by simpa using h2) hk
def start (N:XQ)(vs:157):St:=vs.map some++List.replicate (N.length-vs.length) none
def W5 (CX:CXT)(P:156)(w:World)(K:Y00)(mg:XJ)(base:Heap)(N:XQ)(qual:Str)(scope:Scope)(f:Addr)(cd:Value)(A:Around)(outer:List Env)(s:130)(H:Hp)(E:XK):Cx where
 prog:=P
 w:=w
 K:=K
 mg:=mg
 base:=base
 A:=A.deeper (envOfC qual scope s.heap.objs.size f cd)
 N:=N
 s₀:=s
 H₀:=H
 env:=envOfC qual scope s.heap.objs.size f cd
 outer:=outer
 stack:=envOfC qual scope s.heap.objs.size f cd::outer
 ex:=[]
 calm:=true
 fn:=λ _=>true
 pn:=[]
 xe:=λ e s'=>wpAny (model P w) (A.deeper (envOfC qual scope s.heap.objs.size f cd)) (leaving (envOfC qual scope s.heap.objs.size f cd) e) (λ _ s''=>CX outer H s E e s'') (λ e' s''=>CX outer H s E e' s'') s'
theorem Qf {sc:Scope}{n:Nat}{x:Str}(h:sc.names.lookup x=some .cell):∃ c,(cellsFrom n sc.names []).lookup x=some c:=by
 have q:=Y20 sc.names n [] (.inl h);exact Y2f.mp q
theorem Gg {CX:CXT}{P:156}{w:World}{K:Y00}{mg:XJ}{base:Heap}{N ps:XQ}{qual:Str}{scope:Scope}{f:Addr}{cd:Value}{A:Around}{outer:List Env}{s s1:130}{H:Hp}{E:XK}{us:XW}{vs:157}
  (S:FnScope N ps scope) (hd:193) (e0:Env0 P w K mg base A outer s H) (hl:vs.length=ps.length) (r:Vals vs us)
  (x:InCallC s s.heap.objs.size (bindL (envOfC qual scope s.heap.objs.size f cd).kindOf (ps.zip us) λ _=>none) (cellsFrom 151 scope.names []) (bindC (envOfC qual scope s.heap.objs.size f cd).kindOf (ps.zip us) λ _=>none) s1) :
  Inv (W5 CX P w K mg base N qual scope f cd A outer s H E) [] (start N vs) H s1:=by
 have hpl:ps.length<=N.length:=by have:=congrArg List.length S.pre;rw [Y2e] at this;omega
 obtain ⟨h1,tk,rfl,hk⟩:=x.done;have noA:∀ b:Addr,b∉(W5 CX P w K mg base N qual scope f cd A outer s H E).ex:=λ b z=>absurd (show b∈([]:List Addr) from z) 111;refine ⟨⟨e0.mod,S.kind,rfl,rfl,Y0b _,λ y z c h1 h2=>?_,λ y hy=>?_,λ y c _ h=>?_,λ _=>hd,Around.frames_deeper e0.frames,.inr ⟨rfl,rfl⟩,λ b z=>absurd z (noA b),e0.bs,e0.bsz,λ b _ _=>noA b,λ b z=>absurd z (noA b),e0.funs,e0.frf⟩,
  rfl,e0.bare,Un.kept hk,⟨_,x.toInCall.ns,λ i y v h1 h2 h3=>?_⟩,λ y c h=>⟨_,x.cell y c h⟩,e0.hok.fresh 169,λ y c h=>?_,λ p hp=>absurd (show p∈([]:List (Addr×Obj)) from hp) 111,e0.hok.kept hk,?_⟩
 ·exact name_of_addr x.apart (Y0z h1) (Y0z h2)
 ·have hy:scope.names.lookup y=some .cell\/scope.names.lookup y=some .free:=hy;rcases hy with hy | hy
  ·exact Qf hy
  ·exact absurd rfl (S.nofree _ (Y0z hy))
 ·exact Y2g (x.above y c (Y0z h))
 ·have hi:i<vs.length:=by
   unfold start at h2;by_cases hi:i<vs.length
   ·exact hi
   ·rw [Y0m (by simpa using hi)] at h2;rw [List.getElem?_replicate] at h2;split at h2<;>cases h2
  have ha:vs[i]?=some v:=by
   unfold start at h2;rw [Y11 (by simpa using hi),Y0l] at h2;cases e:vs[i]? with
   | none=>rw [e] at h2;cases h2
   | some a=>rw [e] at h2;cases h2;rfl
  obtain ⟨u,hu,rv⟩:=r.get ha;have hp:ps[i]?=some y:=by
   rw [<- S.pre,List.getElem?_take_of_lt 109];exact h1
  have ndP:ps.Nodup:=by rw [<- S.pre];exact S.nd.sublist (List.take_sublist _ _)
  refine ⟨u,rv,?_⟩;rcases S.par y (Y0v hp) with k | k
  ·exact .inl ⟨k,Jm ndP hp hu k⟩
  ·obtain ⟨c,e⟩:=Qf (n:=s.heap.objs.size+1) k;refine .inr ⟨.inl k,c,e,?_⟩;have q:=x.cell y c e;rw [Jn ndP hp hu (by show scope.names.lookup y≠_;rw [k];decide)] at q;exact q
 ·exact e0.hok.fresh (Y2g (x.above y c (Y0z h)))
 ·unfold start;show _=N.length;rw [Y0e,Y04,List.length_replicate];omega
theorem z8b {CX:CXT}{P:156}{w:World}{K:Y00}{mg:XJ}{base:Heap}{k:Nat}{f:Addr}{name qual:Str}{params:Arguments}{body:List Stmt}{scope:Scope}{dV kV doc pm cdv ct oc:Value}{an od:166}
  {osl:171}{N ps:XQ}{sp:Sp} (lk:K.lookup f=some ⟨oc,od,.func (PySem.W.fnOf name qual params body scope dV kV doc pm an cdv ct),osl⟩) (hcd:PySem.W.codeIn K cdv qual=true) (S:FnScope N ps scope)
  (len:∀ vs H Q E,sp vs H Q E->vs.length=ps.length)
  (hbody:∀ (A:Around) (outer:List Env) (s:130) (H:Hp) (vs:157) (Q:VK) (E:XK),Room k (A.deeper (envOfC qual scope s.heap.objs.size f cdv))->sp vs H Q E ->
   ∃ t,PSs (W5 CX P w K mg base N qual scope f cdv A outer s H E) body t/\t { nx:=λ _ H'=>Q .non H',rt:=Q } (start N vs) H) :
  FnOk P w K mg base CX (k+1) f (PySem.W.fnOf name qual params body scope dV kV doc pm an cdv ct) ps sp:=by
 refine ⟨len,λ A outer s H args us vs Q E hr e0 hb r hsp=>?_⟩;have hl:=len _ _ _ _ hsp;have KX:K.In s.heap:=e0.mod.kin.keeps λ b o e=>(e0.bs b o e).1;have lim:s.heap.NoLimit:=e0.mod.nolimit.keeps λ b o e=>(e0.bs b o e).1;have hkind:∀ y∈ps.zip us,scope.names.lookup y.1=some .local\/(scope.names.lookup y.1=some .cell/\((cellsFrom 151 scope.names []).lookup y.1).isSome=true):=λ ⟨n,v⟩ hy=>by
  rcases S.par n (List.of_mem_zip hy).1 with q | q
  ·exact .inl q
  ·exact .inr ⟨q,Y20 _ _ _ (.inl q)⟩
 refine codeAny_call_function hr.depth (KX _ _ lk) rfl S.co S.gen rfl (PySem.W.codeRec_of KX hcd) (hb _ _ _ _ ?_);refine wpAny_newFunctionEnv_cells S.kind hkind λ env he s1 x=>?_;subst he;refine ⟨lim.keeps x.toInCall.keep,codeAny_func ?_⟩;obtain ⟨t,ht,hq⟩:=hbody A outer s H vs Q E (hr.deeper _) hsp;have I:Inv (W5 CX P w K mg base N qual scope f cdv A outer s H E) [] (start N vs) H s1:=Gg S hr.hd e0 hl r x;refine wpAny_mono (ht [] s1 (start N vs) H _ I hq) (λ fl s' hs=>?_) λ e s' hs=>hs;have fin:∀ {σ':St}{H':Hp}{v:V}{u:Value},Inv (W5 CX P w K mg base N qual scope f cdv A outer s H E) [] σ' H' s'->RelV v u->Q v H'->CE outer P w H s Q u s' :=
  λ {σ' H' v u} J rv q=>⟨v,H',J.os,J.bare,J.base,J.hok,rv,q⟩
 cases fl with
 | ret u =>
  obtain ⟨v,σ',H',J,rv,q⟩:=hs;exact fin J rv q
 | next =>
  obtain ⟨σ',H',J,q⟩:=hs;exact fin (v:=V.non) (u:=Value.none) J rfl q
 | brk =>
  obtain ⟨_,_,_,q⟩:=hs;exact False.elim q
 | cont =>
  obtain ⟨_,_,_,q⟩:=hs;exact False.elim q
section
variable {X:Cx}{x:Str}{p pos:Pos}{e:Expr}{es:List Expr}{t:TA}{id T:String}{r:List V->Hp->VK->Prop}
def tCB (r:List V->Hp->VK->Prop)(t:TA):TE:=λ σ H Q=>t σ H λ vs H1=>r vs H1 Q
theorem jP (hc:j1 X (.builtin id) r) (hg:Gl X x) (hm:X.mg x=none) (hv:bootBuiltins x=some (.builtin id)) (ha:PA X (e::es) t) (hn:x≠"__name__":=by decide) (hdb:143=false:=by decide)
  (he:starEach (e::es) X.env=(false,eval e X.env)::starEach es X.env:=by rfl) (hpl:(backTo pos (starEach es X.env)).any (·.1)=false:=by rfl):PE X (.Call (.Name x p) (e::es) [] pos) (tCB r t):=by
 intro pins s σ H Q I h;refine wpAny_Call_Name_kw (y0 I hg hm hv ?_ hn hdb);exact Y3s (thn (ha pos pins s σ H _ I h) λ us s1 ⟨vs,H1,I1,r1,q1⟩=>hc pins s1 σ H1 vs us Q I1 r1 q1) he hpl
theorem jA (hc:j1 X (.type T) r) (hg:Gl X x) (hm:X.mg x=none) (hv:bootBuiltins x=some (.type T)) (ha:PA X (e::es) t) (hn:x≠"__name__":=by decide) (hdb:143=false:=by decide)
  (he:starEach (e::es) X.env=(false,eval e X.env)::starEach es X.env:=by rfl) (hpl:(backTo pos (starEach es X.env)).any (·.1)=false:=by rfl):PE X (.Call (.Name x p) (e::es) [] pos) (tCB r t):=by
 intro pins s σ H Q I h;refine wpAny_Call_Name_kw (y0 I hg hm hv ?_ hn hdb);exact Y2x (thn (ha pos pins s σ H _ I h) λ us s1 ⟨vs,H1,I1,r1,q1⟩=>hc pins s1 σ H1 vs us Q I1 r1 q1) he hpl
end
end L2
namespace HT
open PySem PyProof.Rows
section
variable {prog:156}{w:World}{A:Around}{E:XU}{s:130}
theorem cat_tup {t b:Addr}{vs ws:XW}{Q:XU}(ht:IsTup s.heap t vs.toArray)(hb:IsTup s.heap b ws.toArray)(hv:vs≠[])
  (h1:ws=[]->Q (.ref t) s) (h2:ws≠[]->Q 159 { s with heap:=s.heap.push { cls:=.type "tuple",data:=.seq (vs++ws).toArray } })
  (hsz:vs.length+ws.length<=sizeLine):wpAny 118 A (binaryOp .Add (.ref t) (.ref b)) Q E s:=by
 obtain ⟨⟨cls,dd,data,sl⟩,ho,hc,n,hd⟩:=id ht;obtain ⟨⟨cls2,dd2,data2,sl2⟩,ho2,hc2,n2,hd2⟩:=id hb;simp only at hc hd hc2 hd2;subst hc hd hc2 hd2;have e:vs.toArray++ws.toArray=(vs++ws).toArray:=by simp
 by_cases hw:ws=[]
 ·exact concat_meets ⟨_,ho,rfl⟩ ⟨_,ho2,rfl⟩ noFill_tuple_add seq_tuple_add Y3i Y38 (Y36 _ _)
   (tuple_addW1 t b vs.toArray ws.toArray n n2 dd dd2 sl sl2 (by simpa using hv) (by simp [hw])) ⟨ho,ho2,h1 hw⟩
 ·refine concat_meets ⟨_,ho,rfl⟩ ⟨_,ho2,rfl⟩ noFill_tuple_add seq_tuple_add Y3i Y38 (Y36 _ _)
   (tuple_addW2 t b vs.toArray ws.toArray n n2 dd dd2 sl sl2 (by simpa using hv) (by simpa using hw) (by rw [Y0a,Y0a];exact hsz)) ⟨ho,ho2,?_⟩
  rw [e];exact h2 hw
def sIx (n d:Nat):Option Int->Nat
 | none=>d
 | some v=>if v<0 then (v+(n:Int)).toNat else min v.toNat n
theorem Z0 (n d:Nat):sIx n d none=d:=rfl
theorem z5o (n d:Nat)(hd:d<=n)(o:Option Int):sIx n d o<=n:=by
 cases o with
 | none=>exact hd
 | some v =>
  show (if v<0 then (v+(n:Int)).toNat else min v.toNat n)<=n;by_cases hv:v<0
  ·rw [if_pos hv];omega
  ·rw [if_neg hv];exact Nat.min_le_right _ _
theorem UU (v:Int)(n d:Nat):(if v<0 then max (v+(n:Int)) 0 else min v (n:Int))=((sIx n d (some v):Nat):Int):=by
 show (if v<0 then max (v+(n:Int)) 0 else min v (n:Int))=(((if v<0 then (v+(n:Int)).toNat else min v.toNat n):Nat):Int);by_cases hv:v<0
 ·simp only [if_pos hv];omega
 ·simp only [if_neg hv];omega
theorem YD (lo hi:Option Int)(n:Nat):Builtin.Slice.sliceAdjust lo hi 1 (n:Int)=(((sIx n 0 lo:Nat):Int),((sIx n n hi:Nat):Int)):=by
 have h1:¬ ((1:Int)<0):=by omega
 unfold Builtin.Slice.sliceAdjust;simp only [h1,if_false];refine Prod.ext ?_ ?_
 ·cases lo with
  | none=>rfl
  | some v=>exact UU v n 0
 ·cases hi with
  | none=>rfl
  | some v=>exact UU v n n
theorem YE (i j:Nat):Builtin.Slice.slicePlaces (i:Int) (j:Int) 1=j-i:=by
 unfold Builtin.Slice.slicePlaces;have h1:(1:Int) > 0:=by omega
 simp only [h1,if_true,Int.ediv_one]
 split<;>omega
theorem Z2 {v:Value}{o:Option Int}{Q:Option Int->Shared->Prop}(p:IsPart v o)(h:Q o s):wpAny 118 A (Builtin.Slice.slicePartIndex v) Q E s:=by
 cases p with
 | none=>exact slicePart_none h
 | int i t=>exact slicePart_int h
theorem w6 {sl:Addr}{vl vu:Value}{lo hi:Option Int}{n:Nat}{Q:Int×Int×Nat->Shared->Prop}(hs:s.heap.IsSliceOf sl vl vu .none)(pl:IsPart vl lo)(pu:IsPart vu hi)
  (h:Q (((sIx n 0 lo:Nat):Int),1,sIx n n hi-sIx n 0 lo) s):wpAny 118 A (Builtin.Slice.sliceApplied (.ref sl) (pure (n:Int))) Q E s:=by
 obtain ⟨os,hos,hcs,hds⟩:=id hs;unfold Builtin.Slice.sliceApplied Builtin.Slice.sliceFields;refine wpAny_bind (wpAny_bind (wpAny_field hos hds (x:=vl) rfl (wpAny_bind (wpAny_field hos hds (x:=vu) rfl (wpAny_bind (wpAny_field hos hds (x:=.none) rfl (wpAny_pure ?_)))))));refine wpAny_bind (slicePart_none ?_);show wpAny _ _ (if ((1:Int)==0)=true then _ else _) _ _ s;rw [if_neg 108];refine wpAny_bind (Z2 pl (wpAny_bind (Z2 pu (wpAny_bind (wpAny_pure ?_)))));show wpAny _ _ (match Builtin.Slice.sliceAdjust lo hi 1 (n:Int) with | (lo,hi)=>pure (lo,(1:Int),Builtin.Slice.slicePlaces lo hi 1)) _ _ s
 rw [YD lo hi n];show wpAny _ _ (pure (((sIx n 0 lo:Nat):Int),(1:Int),Builtin.Slice.slicePlaces ((sIx n 0 lo:Nat):Int) ((sIx n n hi:Nat):Int) 1)) _ _ s;rw [YE];exact wpAny_pure h
theorem Ot (xs:Array Value)(i k:Nat):((List.range k).filterMap λ (m:Nat)=>xs[((i:Int)+(m:Int)*1).toNat]?).toArray=((xs.toList.drop i).take k).toArray:=by
 have e:(λ (m:Nat)=>xs[((i:Int)+(m:Int)*1).toNat]?)=λ m=>xs[i+m]?:=by
  funext m
  have:((i:Int)+(m:Int)*1).toNat=i+m:=by omega
  rw [this]
 rw [e]
 have:=pick_run xs i k
 rw [List.filterMap_map] at this;have e2:((λ x=>xs[x]?)∘λ x=>i+x)=λ m=>xs[i+m]?:=rfl;rw [e2] at this;rw [this]
theorem getItem_tuple_cut {t sl:Addr}{items:Array Value}{vl vu:Value}{lo hi:Option Int}{Q:XU}(ht:IsTup s.heap t items)(hs:s.heap.IsSliceOf sl vl vu .none)(pl:IsPart vl lo)(pu:IsPart vu hi)
  (hw:¬ (sIx items.size 0 lo=0/\sIx items.size items.size hi=items.size))
  (h:Q 159 { s with heap:=s.heap.push { cls:=.type "tuple",data:=.seq ((items.toList.drop (sIx items.size 0 lo)).take (sIx items.size items.size hi-sIx items.size 0 lo)).toArray } })
  (hsz:items.size<=sizeLine):wpAny 118 A (getItem (.ref t) (.ref sl)) Q E s:=by
 have htake:sizeOk (.seq ((items.toList.drop (sIx items.size 0 lo)).take (sIx items.size items.size hi-sIx items.size 0 lo)).toArray):=by
  show ((items.toList.drop (sIx items.size 0 lo)).take (sIx items.size items.size hi-sIx items.size 0 lo)).toArray.size<=sizeLine;rw [Y0a,Y2e,Y3x,Y1k];omega
 have hj:sIx items.size items.size hi<=items.size:=z5o _ _ 169 hi;obtain ⟨os,hos,hcs,hds⟩:=id hs;have hTs:s.TypeIs (.ref sl) "slice":=⟨os,hos,hcs⟩;unfold getItem
 try with_reducible refine wpAny_holding ?_
 first | refine wpAny_bind (wpAny_pure ?_) | skip
 refine wpAny_bind (wpAny_sequenceKey ht.typeIs 108 ?_);refine wpAny_bind (wpAny_callSpecial?_slot (name:=Str.ofString "__getitem__") ht.typeIs Y1v
  (wpAny_call_entry Y1v ht.typeIs entry_tuple_getitem ?_ (args_tuple_getitem _ _)))
 show wpAny _ _ (Builtin.Tuple.tupleItemsOf (.ref t) >>= _) _ _ s;refine wpAny_bind (tupleItemsOf_ ht ?_);refine wpAny_bind (wpAny_typeOf hTs ?_);rw [if_pos 108];refine wpAny_bind (w6 hs pl pu ?_);have hno:¬ (137=true):=by
  intro q;rw [Y0h,Y0h] at q;have q1:((sIx items.size 0 lo:Nat):Int)=0:=eq_of_beq q.1.1;have q2:sIx items.size items.size hi-sIx items.size 0 lo=items.size:=eq_of_beq q.2;exact hw ⟨by omega,by omega⟩
 show wpAny _ _ (if 137=true then _ else _) _ _ s;rw [if_neg hno,Ot]
 first
  | exact wpAny_bind (m:=Builtin.Tuple.tupleExact _) (wpAny_newObj_type (wpAny_pure ⟨_,rfl,wpAny_pure h⟩) htake)
  | exact wpAny_bind (m:=Builtin.Tuple.tupleExact _) (wpAny_newObj_type (wpAny_bind (wpAny_pure (wpAny_pure ⟨_,rfl,wpAny_pure h⟩))) htake)
  | exact wpAny_bind (wpAny_bind (m:=Builtin.Tuple.tupleExact _) (wpAny_newObj_type (wpAny_pure (wpAny_pure ⟨_,rfl,wpAny_pure h⟩)) htake))
  | exact wpAny_bind (wpAny_bind (m:=Builtin.Tuple.tupleExact _) (wpAny_newObj_type (wpAny_pure ⟨_,rfl,wpAny_pure h⟩) htake))
end
end HT
namespace L2
open PySem PySem.Spec PyProof.Rows
abbrev TO:=St->Hp->(Option Int->Hp->Prop)->Prop
def PO (X:Cx)(e:Option Expr)(t:TO):Prop :=
 ∀ (pins:115) (s:130) (σ:St) (H:Hp) (Q:Option Int->Hp->Prop),Inv X pins σ H s->t σ H Q ->
  wpAny 116 X.A (evalPart e X.env) (λ u s'=>∃ o H',Inv X pins σ H' s'/\IsPart u o/\Q o H') X.xe s
def z1f:TO:=λ _ H Q=>Q none H
def z8c (t:TE):TO:=λ σ H Q=>t σ H λ x H1=>∃ i,x=.int i/\Q (some i) H1
section
variable {X:Cx}{e:Expr}{te:TE}{lo hi:Option Expr}{tl th:TO}{pos p2:Pos}
theorem z1g:PO X none z1f:=by
 intro pins s σ H Q I h;rw [evalPart_none];exact wpAny_pure ⟨none,H,I,.none,h⟩
theorem z1h (h:PE X e te):PO X (some e) (z8c te):=by
 intro pins s σ H Q I hw;rw [evalPart_some];refine thn (h pins s σ H _ I hw) λ u s1 ⟨x,H1,I1,r1,q1⟩=>?_;obtain ⟨i,rfl,q⟩:=q1;obtain ⟨t,rfl⟩:=r1;exact ⟨some i,H1,I1,.int i t,q⟩
def SlR (X:Cx)(r:V->Option Int->Option Int->Hp->VK->Prop):Prop :=
 ∀ (pins:115) (s:130) (σ:St) (H:Hp) (x:V) (v vl vu:Value) (lo hi:Option Int) (sl:Addr) (Q:VK),Inv X pins σ H s->RelV x v->s.heap.IsSliceOf sl vl vu .none->IsPart vl lo->IsPart vu hi->r x lo hi H Q ->
  ∃ T id,typeLookup (.type T) "__getitem__"=pure (some (.builtin id))/\s.TypeIs v T/\wpAny 116 X.A (getItem v (.ref sl)) (EP X pins σ Q) X.xe s
def tSl (r:V->Option Int->Option Int->Hp->VK->Prop)(te:TE)(tl th:TO):TE:=λ σ H Q=>te σ H λ x H1=>tl σ H1 λ l H2=>th σ H2 λ u H3=>r x l u H3 Q
theorem Ou {r:V->Option Int->Option Int->Hp->VK->Prop}(hr:SlR X r)(he:PE X e te)(hl:PO X lo tl)(hu:PO X hi th):PE X (.Subscript e (.Slice lo hi none p2) pos) (tSl r te tl th):=by
 intro pins s σ H Q I h;refine Subscript_ (thn (he pins s σ H _ I h) λ v s1 ⟨x,H1,I1,r1,q1⟩=>?_);refine wpAny_Slice (thn (hl pins s1 σ H1 _ I1 q1) λ vl s2 ⟨l,H2,I2,pl,q2⟩=>thn (hu pins s2 σ H2 _ I2 q2) λ vu s3 ⟨u,H3,I3,pu,q3⟩=>?_);rw [evalPart_none];refine wpAny_pure ?_;have I4:Inv X pins σ H3 { s3 with heap:=s3.heap.push { cls:=.type "slice",data:=.fields #[vl,vu,.none] } }:=I3.kept (t':=s3.toks) λ b ob q=>Y02 _ q;obtain ⟨T,id,hT,ht,hg⟩:=hr pins { s3 with heap:=s3.heap.push { cls:=.type "slice",data:=.fields #[vl,vu,.none] } } σ H3 x v vl vu l u s3.heap.objs.size Q I4 r1 (Heap.IsSliceOf.new ..) pl pu q3;show wpAny 116 X.A (subscriptTail e (.Slice lo hi none p2) v (.ref s3.heap.objs.size)) (EP X pins σ Q) X.xe { s3 with heap:=s3.heap.push { cls:=.type "slice",data:=.fields #[vl,vu,.none] } };exact tail_any (ops:=[.ref s3.heap.objs.size,v]) ht hT hg (by with_unfolding_all rfl)
def Qj (xs:157)(lo hi:Option Int):List V:=(xs.drop (HT.sIx xs.length 0 lo)).take (HT.sIx xs.length xs.length hi-HT.sIx xs.length 0 lo)
theorem yt (xs:157)(lo hi:Option Int):(Qj xs lo hi).length<=xs.length:=by
 unfold Qj;rw [Y2e,Y3x];omega
def zac (K:Y00):V->Option Int->Option Int->Hp->VK->Prop:=λ x lo hi H Q=>∃ a xs,x=.ref a/\SqT K H a xs /\
 ¬ (HT.sIx xs.length 0 lo=0/\HT.sIx xs.length xs.length hi=xs.length)/\∀ p,H p=none->Q (.ref p) (upd H p (.tup (Qj xs lo hi)))
theorem z5p:SlR X (zac X.K):=by
 intro pins s σ H x v vl vu lo hi sl Q I rx hs pl pu h;obtain ⟨a,xs,rfl,hx,hw,q⟩:=h;cases rx;obtain ⟨its,r,ht,hz⟩:=I.tuple hx;have hlen:its.toArray.size=xs.length:=by rw [Y0a];exact r.length.symm
 refine ⟨"tuple",_,PyProof.Rows.slot_tuple_getitem.lookup,ht.typeIs,?_⟩;refine HT.getItem_tuple_cut ht hs pl pu (by rw [hlen];exact hw) ?_ (by rw [hlen];exact hz);rw [hlen];refine ⟨.ref s.heap.objs.size,_,I.laid (t':=s.toks) (o:=.tup (Qj xs lo hi)) (λ b ob q=>Y02 _ q) 169 ?_,rfl,q _ (I.hok.fresh 169)⟩;exact ⟨Y0n (yt xs lo hi) hz,_,(r.drop (HT.sIx xs.length 0 lo)).take (HT.sIx xs.length xs.length hi-HT.sIx xs.length 0 lo),IsTup.new _ _⟩
def z8d (K:Y00):R2:=λ x y H Q=>∃ a b xs ys,x=.ref a/\y=.ref b/\SqT K H a xs/\SqT K H b ys/\xs≠[]/\xs.length+ys.length<=sizeLine /\
 (ys=[]->Q 155 H)/\(ys≠[]->∀ p,H p=none->Q (.ref p) (upd H p (.tup (xs++ys))))
theorem Vals.nil_iff {xs:157}{us:XW}(r:Vals xs us):us=[] ↔ xs=[]:=by
 cases r with
 | nil=>simp
 | cons _ _=>simp
theorem z1i:OpR X (binaryOp .Add) (z8d X.K):=by
 intro pins s σ H x y v u Q I rx ry h;obtain ⟨a,b,xs,ys,rfl,rfl,ha,hb,hx,hz,q1,q2⟩:=h;cases rx;cases ry;obtain ⟨its,r1,p1,_⟩:=I.tuple ha;obtain ⟨its2,r2,p2,_⟩:=I.tuple hb;refine HT.cat_tup p1 p2 (λ z=>hx (r1.nil_iff.mp z)) (λ z=>⟨.ref a,H,I,rfl,q1 (r2.nil_iff.mp z)⟩) (λ z=>?_) (by rw [<- r1.length,<- r2.length];exact hz);refine ⟨.ref s.heap.objs.size,_,I.laid (t':=s.toks) (o:=.tup (xs++ys)) (λ b ob q=>Y02 _ q) 169 ?_,rfl,q2 (λ w=>z (r2.nil_iff.mpr w)) _ (I.hok.fresh 169)⟩;exact ⟨by rw [Y0e];exact hz,_,r1.append r2,IsTup.new _ _⟩
end
def ixN (n:Nat)(i:Int):Option Nat:=if 0<=i then (if i<n then some i.toNat else none) else if -(n:Int)<=i then some (i+n).toNat else none
def atI {α:Type}(xs:List α)(i:Int):Option α:=(ixN xs.length i).bind λ j=>xs[j]?
theorem UV {n:Nat}{i:Int}{j:Nat}(h:ixN n i=some j):seqIndex? i n=some j/\j<n/\-(n:Int)<=i/\i<n:=by
 unfold ixN at h;by_cases h0:0<=i
 ·rw [if_pos h0] at h;by_cases h1:i<n
  ·rw [if_pos h1] at h;have e:i.toNat=j:=Option.some.inj h;exact ⟨by rw [seqIndex_of h0 h1,e],by omega,by omega,h1⟩
  ·rw [if_neg h1] at h;cases h
 ·rw [if_neg h0] at h;by_cases h1:-(n:Int)<=i
  ·rw [if_pos h1] at h;have e:(i+n).toNat=j:=Option.some.inj h;exact ⟨by rw [seqIndex_neg 109 h1,e],by omega,h1,by omega⟩
  ·rw [if_neg h1] at h;cases h
theorem W6 {α:Type}{xs:List α}{i:Int}{v:α}(h:atI xs i=some v):∃ j,seqIndex? i xs.length=some j/\xs[j]?=some v/\j<xs.length/\-(xs.length:Int)<=i/\i<xs.length:=by
 unfold atI at h;cases e:ixN xs.length i with
 | none=>rw [e] at h;cases h
 | some j =>
  rw [e] at h;obtain ⟨h1,h2,h3,h4⟩:=UV e;exact ⟨j,h1,h,h2,h3,h4⟩
theorem UW {α:Type}{xs:List α}{j:Nat}{v:α}(h:xs[j]?=some v):atI xs (j:Int)=some v:=by
 have hj:j<xs.length:=(Y01.mp h).1;have e:ixN xs.length (j:Int)=some j:=by
  unfold ixN;rw [if_pos 109,if_pos 109];simp
 unfold atI;rw [e];exact h
def UX (b:Expr):Prop:=∀ o i,subscripted b false o i=operate [o,i] (getItem o i)
def IxR (X:Cx)(r:R2):Prop :=
 ∀ (value slice:Expr) (pins:115) (s:130) (σ:St) (H:Hp) (x y:V) (v u:Value) (Q:VK),Inv X pins σ H s->RelV x v->RelV y u->r x y H Q ->
  subscripted slice false v u=operate [v,u] (getItem v u)->wpAny 116 X.A (subscriptTail value slice v u) (EP X pins σ Q) X.xe s
def MtR (X:Cx)(id:String)(r:V->List V->Hp->VK->Prop):Prop :=
 ∀ (pins:115) (s:130) (σ:St) (H:Hp) (x:V) (xs:157) (v:Value) (us:XW) (Q:VK),Inv X pins σ H s->RelV x v->Vals xs us->r x xs H Q ->
  wpAny 116 X.A (call (.builtin id) (v::us)) (EP X pins σ Q) X.xe s
section
variable {X:Cx}{a b:Expr}{ta tb:TE}{pos:Pos}
theorem z41 {r:R2}(hr:IxR X r)(ha:PE X a ta)(hb:PE X b tb)(hs:UX b):PE X (.Subscript a b pos) (tOp r ta tb):=by
 intro pins s σ H Q I h;exact Subscript_ (z5c ha hb I h λ v u s2 x y H2 I2 rx ry q=>hr a b pins s2 σ H2 x y v u Q I2 rx ry q (hs _ _))
def zad (K:Y00):R2:=λ x y H Q=>∃ p xs i v,x=.ref p/\y=.int i/\SqL K H p xs/\atI xs i=some v/\Q v H
def zae (K:Y00):R2:=λ x y H Q=>∃ p xs i v,x=.ref p/\y=.int i/\SqT K H p xs/\atI xs i=some v/\Q v H
def zaf:R2:=λ x y H Q=>∃ z i c,x=.str z/\y=.int i/\z.length<=sizeLine/\atI z.cps.toList i=some c/\Q (.str ⟨#[c]⟩) H
theorem UY:IxR X (zad X.K):=by
 intro value slice pins s σ H x y v u Q I rx ry h hs;obtain ⟨p,xs,i,z,rfl,rfl,hq,he,q⟩:=h;cases rx;obtain ⟨t,rfl⟩:=ry;obtain ⟨its,r,pl,hz⟩:=I.list hq;obtain ⟨j,h1,h2,h3,h4,h5⟩:=W6 he;obtain ⟨w,ew,rw'⟩:=r.get h2;have hl:=r.length;have hn:=yZ;have fin:EP X pins σ Q w s:=⟨z,H,I,rw',q⟩;by_cases h0:0<=i
 ·have hj:i.toNat=j:=by
   rw [seqIndex_of h0 h5] at h1;exact Option.some.inj h1
  exact item_listR pl.isList h0 109 (by rw [hj];simpa using ew) fin hs
 ·have hj:(i+(its.toArray.size:Int)).toNat=j:=by
   rw [seqIndex_neg 109 h4] at h1;rw [Y0a,<- hl];exact Option.some.inj h1
  exact subscriptTail_builtinR (x:=w) pl.isList.typeIs slot_list_getitem.lookup
   (wpAny_getItem_list_neg (Q:=λ r s'=>r=w/\EP X pins σ Q r s') pl.isList 109 (by rw [Y0a]<;>omega) 109 (by rw [hj];simpa using ew) ⟨rfl,fin⟩) hs
theorem z5q:IxR X (zae X.K):=by
 intro value slice pins s σ H x y v u Q I rx ry h hs;obtain ⟨p,xs,i,z,rfl,rfl,hq,he,q⟩:=h;cases rx;obtain ⟨t,rfl⟩:=ry;obtain ⟨its,r,pl,hz⟩:=I.tuple hq;obtain ⟨j,h1,h2,h3,h4,h5⟩:=W6 he;obtain ⟨w,ew,rw'⟩:=r.get h2;have hl:=r.length;have hn:=yZ;have fin:EP X pins σ Q w s:=⟨z,H,I,rw',q⟩;exact subscriptTail_builtinR (x:=w) pl.typeIs slot_tuple_getitem.lookup
  (getItem_tuple (j:=j) (Q:=λ r s'=>r=w/\EP X pins σ Q r s') pl 109 109 (by rw [Y0a,<- hl];exact h1) (by simpa using ew) ⟨rfl,fin⟩) hs
theorem z5r:IxR X zaf:=by
 intro value slice pins s σ H x y v u Q I rx ry h hs;obtain ⟨z,i,c,rfl,rfl,hz,he,q⟩:=h;obtain ⟨t,rfl⟩:=rx;obtain ⟨t',rfl⟩:=ry;obtain ⟨j,h1,h2,h3,h4,h5⟩:=W6 he;have hl:z.cps.toList.length=z.length:=by simp [Str.length]
 rw [hl] at h1 h4 h5;have hn:=yZ;exact tail_any (typeIs_str s z t) slot_str_getitem.lookup (getItem_str (c:=c) (by
  have e1:decide (i < -(2 ^ 63:Int))=false:=decide_eq_false 109;have e2:decide (i >= 2 ^ 63)=false:=decide_eq_false 109;rw [e1,e2,Y3b]) (by rw [h1];simpa using h2) ⟨.str ⟨#[c]⟩,H,I.tok _,125,q⟩) hs
theorem YF (its:XW)(n j:Nat)(u:Value):Obj.mapSeq (·.setIfInBounds j u) { cls:=.type "list",data:=.seq its.toArray n }={ cls:=.type "list",data:=.seq (its.set j u).toArray n }:=by
 simp [Obj.mapSeq]
theorem Inv.lst {pins:115}{σ:St}{H:Hp}{s:130}{p:Addr}{xs:157}(I:110)(h:H p=some 178) :
  ∃ (its:XW) (n:Nat),Vals xs its/\s.heap.get? p=some { cls:=.type "list",data:=.seq its.toArray n }/\xs.length<=sizeLine:=by
 obtain ⟨z,its,n,r,e⟩:=I.hok p _ h;exact ⟨its,n,r,e,z⟩
theorem Inv.lstUpd {pins:115}{σ:St}{H:Hp}{s:130}{p:Addr}{xs ys:157}{its its':XW}{n n':Nat}{f:Obj->Obj}(I:110)(h:H p=some 178)
  (ho:s.heap.get? p=some { cls:=.type "list",data:=.seq its.toArray n }) (hf:f { cls:=.type "list",data:=.seq its.toArray n }={ cls:=.type "list",data:=.seq its'.toArray n' }) (r:Vals ys its') (hz:ys.length<=sizeLine) (t:Nat) :
  Inv X pins σ (upd H p (.lst ys)) { s with heap:=s.heap.update p f,toks:=t }:=by
 have e:(s.heap.update p f).get? p=some { cls:=.type "list",data:=.seq its'.toArray n' }:=by
  rw [Y1f f ho (by rw [hf]<;>rfl),hf]
 refine I.write (x:=p) (e:=p) (by rw [h];trivial) (.inl rfl) (λ b u hb q=>(Y19 _ _ (Ne.symm hb)).trans q) ⟨_,e⟩ ?_;exact ⟨hz,its',n',r,e⟩
def z8e:V->V->V->Hp->(Hp->Prop)->Prop:=λ o i v H Q=>∃ p xs k j,o=.ref p/\i=.int k/\H p=some 178/\ixN xs.length k=some j/\Q (upd H p (.lst (xs.set j v)))
theorem Ov:z56 X z8e:=by
 intro pins s σ H o i v ov iv u Q I ro ri rv h;obtain ⟨p,xs,k,j,rfl,rfl,hp,hj,q⟩:=h;cases ro;obtain ⟨t,rfl⟩:=ri;obtain ⟨its,n,r,ho,hz⟩:=I.lst hp;obtain ⟨h1,h2,h3,h4⟩:=UV hj;have hl:=r.length;have hn:=yZ;have I':Inv X pins σ (upd H p (.lst (xs.set j v))) { s with heap:=s.heap.update p (Obj.mapSeq (·.setIfInBounds j u)) } :=
  I.lstUpd hp ho (YF its n j u) (r.set rv j) (by rw [Y1w];exact hz) s.toks
 by_cases h0:0<=k
 ·have hk:k.toNat=j:=by
   rw [seqIndex_of h0 h4] at h1;exact Option.some.inj h1
  exact PySem.W.ki_setAt ho h0 109 (by rw [Y0a,<- hl];exact h4) (by rw [hk];exact ⟨_,I',q⟩)
 ·have hk:(k+(its.toArray.size:Int)).toNat=j:=by
   rw [seqIndex_neg 109 h3] at h1;rw [Y0a,<- hl];exact Option.some.inj h1
  exact PySem.W.ki_setBack ho 109 (by rw [Y0a,<- hl];exact h3) 109 (by rw [hk];exact ⟨_,I',q⟩)
theorem W7 (lo hi:Option Int)(n:Nat):(sliceBounds lo hi none n).1=((HT.sIx n 0 lo:Nat):Int)/\(sliceBounds lo hi none n).2.1=((HT.sIx n n hi:Nat):Int)/\(sliceBounds lo hi none n).2.2=1:=by
 refine ⟨?_,?_,rfl⟩
 ·cases lo with
  | none=>simp [sliceBounds,HT.sIx]
  | some i =>
   simp only [sliceBounds,HT.sIx,Option.getD_none,show (1:Int) > 0 by decide,if_true];by_cases h:i<0
   ·simp only [h,if_true]<;>omega
   ·simp only [h,if_false]<;>omega
 ·cases hi with
  | none=>simp [sliceBounds,HT.sIx]
  | some i =>
   simp only [sliceBounds,HT.sIx,Option.getD_none,show (1:Int) > 0 by decide,if_true];by_cases h:i<0
   ·simp only [h,if_true]<;>omega
   ·simp only [h,if_false]<;>omega
theorem ZZ (its:XW)(lo hi:Option Int):slicePick its.toArray lo hi none=((its.drop (HT.sIx its.length 0 lo)).take (HT.sIx its.length its.length hi-HT.sIx its.length 0 lo)).toArray:=by
 obtain ⟨h1,h2,h3⟩:=W7 lo hi its.toArray.size;unfold slicePick;rw [h1,h2,h3];simp only [sliceRange_one,pick_run,Y0a]<;>rfl
def zag (K:Y00):V->Option Int->Option Int->Hp->VK->Prop:=λ x lo hi H Q=>∃ a xs,x=.ref a/\SqL K H a xs/\∀ p,H p=none->Q (.ref p) (upd H p (.lst (Qj xs lo hi)))
theorem UZ:SlR X (zag X.K):=by
 intro pins s σ H x v vl vu lo hi sl Q I rx hs pl pu h;obtain ⟨a,xs,rfl,hx,q⟩:=h;cases rx;obtain ⟨its,r,ht,hz⟩:=I.list hx;have hlen:=r.length;refine ⟨"list",_,slot_list_getitem.lookup,ht.isList.typeIs,?_⟩;refine wpAny_getItem_list_slice ht.isList hs pl pu .none 111 ?_ (by rw [Y0a]<;>omega);rw [ZZ,<- hlen];refine ⟨.ref s.heap.objs.size,_,I.laid (t':=s.toks) (o:=.lst (Qj xs lo hi)) (λ b ob q=>Y02 _ q) 169 ?_,rfl,q _ (I.hok.fresh 169)⟩;exact ⟨Y0n (yt xs lo hi) hz,_,0,(r.drop (HT.sIx xs.length 0 lo)).take (HT.sIx xs.length xs.length hi-HT.sIx xs.length 0 lo),Y0d _ rfl⟩
def jI:V->Bool
 | .non=>true
 | .bl _=>true
 | .int _=>true
 | .str _=>true
 | _=>false
def eqV:V->V->Bool
 | .non,.non=>true
 | .bl a,.bl b=>a==b
 | .bl a,.int b=>(if a then 1 else 0)==b
 | .int a,.bl b=>a==(if b then 1 else 0)
 | .int a,.int b=>a==b
 | .str a,.str b=>a==b
 | _,_=>false
theorem Ox {A:Around}{s:130}{y x:V}{u v:Value}(ry:RelV y u)(rx:RelV x v)(fy:jI y=true)(fx:jI x=true):SeqAt.EqAt A s u v (eqV y x):=by
 cases y with
 | non =>
  cases ry;cases x with
  | non=>cases rx;exact SeqAt.EqAt.same _
  | bl b=>cases rx;exact SeqAt.EqAt.none_bool b
  | int b=>obtain ⟨t,rfl⟩:=rx;exact SeqAt.EqAt.none_int b t
  | str b=>obtain ⟨t,rfl⟩:=rx;exact SeqAt.EqAt.none_str b t
  | _=>exact absurd (show false=true from fx) Y0x
 | bl a =>
  cases ry;cases x with
  | non=>cases rx;exact SeqAt.EqAt.bool_none a
  | bl b=>cases rx;exact SeqAt.EqAt.bool_bool a b
  | int b=>obtain ⟨t,rfl⟩:=rx;exact SeqAt.EqAt.bool_int a b t
  | str b=>obtain ⟨t,rfl⟩:=rx;exact SeqAt.EqAt.bool_str a b t
  | _=>exact absurd (show false=true from fx) Y0x
 | int a =>
  obtain ⟨t',rfl⟩:=ry;cases x with
  | non=>cases rx;exact SeqAt.EqAt.int_none a t'
  | bl b=>cases rx;exact SeqAt.EqAt.int_bool a t' b
  | int b=>obtain ⟨t,rfl⟩:=rx;exact SeqAt.EqAt.int_int a t' b t
  | str b=>obtain ⟨t,rfl⟩:=rx;exact SeqAt.EqAt.int_str a t' b t
  | _=>exact absurd (show false=true from fx) Y0x
 | str a =>
  obtain ⟨t',rfl⟩:=ry;cases x with
  | non=>cases rx;exact SeqAt.EqAt.str_none a t'
  | bl b=>cases rx;exact SeqAt.EqAt.str_bool a t' b
  | int b=>obtain ⟨t,rfl⟩:=rx;exact SeqAt.EqAt.str_int a t' b t
  | str b=>obtain ⟨t,rfl⟩:=rx;exact SeqAt.EqAt.str_str a t' b t
  | _=>exact absurd (show false=true from fx) Y0x
 | _=>exact absurd (show false=true from fy) Y0x
def eqU (x:V)(u:Value):Bool:=match u with
 | .none=>eqV .non x
 | .bool b=>eqV (.bl b) x
 | .int i _=>eqV 187 x
 | .str z _=>eqV (.str z) x
 | _=>false
theorem W8 {x y:V}{u:Value}(r:RelV y u)(f:jI y=true):eqU x u=eqV y x:=by
 cases y with
 | non=>cases r;rfl
 | bl b=>cases r;rfl
 | int i=>obtain ⟨t,rfl⟩:=r;rfl
 | str z=>obtain ⟨t,rfl⟩:=r;rfl
 | _=>exact absurd (show false=true from f) Y0x
theorem qE {x:V}:∀ {xs:157}{us:XW},Vals xs us->xs.all jI=true->us.any (eqU x)=xs.any λ y=>eqV y x
 | _,_,.nil,_=>rfl
 | y::xs,u::us,.cons r t,f=>by
  rw [Y3a,Y0h] at f;rw [Y0u,Y0u,W8 r f.1,qE t f.2]
theorem wL {A:Around}{s:130}{x:V}{v:Value}(rx:RelV x v)(fx:jI x=true):∀ {xs:157}{us:XW},Vals xs us->xs.all jI=true->∀ u∈us,SeqAt.EqAt A s u v (eqU x u)
 | _,_,.nil,_=>λ u hu=>by cases hu
 | y::xs,u::us,.cons r t,f=>λ u' hu=>by
  rw [Y3a,Y0h] at f;rcases Y06.mp hu with rfl | hu
  ·rw [W8 r f.1];exact Ox r rx f.1 fx
  ·exact wL rx fx t f.2 u' hu
def inV (x:V)(xs:157):Bool:=xs.any λ y=>eqV y x
def rIn (K:Y00)(neg:Bool):R2:=λ x y H Q=>∃ p xs,y=.ref p/\(SqL K H p xs\/SqT K H p xs)/\jI x=true/\xs.all jI=true/\Q (.bl (if neg then !inV x xs else inV x xs)) H
theorem Gh:OpR X (compareOp .In) (rIn X.K false):=by
 intro pins s σ H x y v u Q I rx ry h;obtain ⟨p,xs,rfl,hq,fx,fs,q⟩:=h;cases ry;rcases hq with hq | hq
 ·obtain ⟨its,r,pl,hz⟩:=I.list hq;refine SeqAt.in_listAt (eqU x) pl.isList (λ w hw=>wL rx fx r fs w (by simpa using hw)) ⟨.bl _,H,I,rfl,?_⟩;rw [show its.toArray.any (eqU x)=its.any (eqU x) by simp,qE r fs];exact q
 ·obtain ⟨its,r,pl,hz⟩:=I.tuple hq;refine SeqAt.in_tupleAt (eqU x) pl (λ w hw=>wL rx fx r fs w (by simpa using hw)) ⟨.bl _,H,I,rfl,?_⟩;rw [show its.toArray.any (eqU x)=its.any (eqU x) by simp,qE r fs];exact q
theorem W9:OpR X (compareOp .NotIn) (rIn X.K true):=by
 intro pins s σ H x y v u Q I rx ry h;obtain ⟨p,xs,rfl,hq,fx,fs,q⟩:=h;cases ry;rcases hq with hq | hq
 ·obtain ⟨its,r,pl,hz⟩:=I.list hq;refine SeqAt.notIn_listAt (eqU x) pl.isList (λ w hw=>wL rx fx r fs w (by simpa using hw)) ⟨.bl _,H,I,rfl,?_⟩;rw [show its.toArray.any (eqU x)=its.any (eqU x) by simp,qE r fs];exact q
 ·obtain ⟨its,r,pl,hz⟩:=I.tuple hq;refine SeqAt.notIn_tupleAt (eqU x) pl (λ w hw=>wL rx fx r fs w (by simpa using hw)) ⟨.bl _,H,I,rfl,?_⟩;rw [show its.toArray.any (eqU x)=its.any (eqU x) by simp,qE r fs];exact q
theorem Wa:OpR X (compareOp .NotIn) (λ x y H Q=>∃ i j,x=.str i/\y=.str j/\Q (.bl (!(!(Builtin.Str.occurrences j i 0 j.length 1).isEmpty))) H):=by
 intro pins s σ H x y v u Q I rx ry h;obtain ⟨i,j,rfl,rfl,q⟩:=h;obtain ⟨t,rfl⟩:=rx;obtain ⟨t',rfl⟩:=ry;exact notIn_str ⟨.bl _,H,I,rfl,q⟩
theorem Wb:j1 X (.type "list") (λ xs H Q=>∃ p ys,xs=[.ref p]/\(SqL X.K H p ys\/SqT X.K H p ys)/\∀ l,H l=none->Q (.ref l) (upd H l (.lst ys))):=by
 intro pins s σ H xs us Q I r h;obtain ⟨p,ys,rfl,hq,q⟩:=h;obtain ⟨u,rfl,rx⟩:=jV r;cases rx;have fin:∀ (its:XW),Vals ys its->ys.length<=sizeLine->∀ (h':Heap) (c':Nat),(∀ b o',s.heap.get? b=some o'->h'.get? b=some o') ->
   h'.get? s.heap.objs.size=some { cls:=.type "list",dict:=none,data:=.seq its.toArray c',slots:=#[] }->EP X pins σ Q 159 { s with heap:=h' }:=λ its r' hz h' c' kp e =>
  ⟨.ref s.heap.objs.size,_,I.laid (t':=s.toks) kp 169 (show ObjOk X.prog X.w _ h' _ (.lst ys) from ⟨hz,its,c',r',e⟩),rfl,q _ (I.hok.fresh 169)⟩
 rcases hq with hq | hq
 ·obtain ⟨its,r',pl,hz⟩:=I.list hq;have hlen:=r'.length;obtain ⟨o,ho,hc,n,hd⟩:=pl.isList;exact call_list_seq p (.inl rfl) ho hc hd (λ h' c' kp e=>fin its r' hz h' c' kp e) (by simp only [Y0a]<;>omega)
 ·obtain ⟨its,r',pl,hz⟩:=I.tuple hq;have hlen:=r'.length;obtain ⟨o,ho,hc,n,hd⟩:=pl;exact call_list_seq p (.inr rfl) ho hc hd (λ h' c' kp e=>fin its r' hz h' c' kp e) (by simp only [Y0a]<;>omega)
theorem qk:j1 X (.type "tuple") (λ xs H Q=>∃ p ys,xs=[.ref p]/\((SqL X.K H p ys/\∀ l,H l=none->Q (.ref l) (upd H l (.tup ys)))\/(SqT X.K H p ys/\Q (.ref p) H))):=by
 intro pins s σ H xs us Q I r h;obtain ⟨p,ys,rfl,h⟩:=h;obtain ⟨u,rfl,rx⟩:=jV r;cases rx;rcases h with ⟨hq,q⟩ | ⟨hq,q⟩
 ·obtain ⟨its,r',pl,hz⟩:=I.list hq;have hlen:=r'.length;refine call_tuple_list pl.isList (λ h' kp=>?_) (by simp only [Y0a]<;>omega);have I1:Inv X pins σ H { s with heap:=h' }:=I.kept (t':=s.toks) kp;have I2:Inv X pins σ (upd H h'.objs.size (.tup ys)) { s with heap:=h'.push { cls:=.type "tuple",data:=.seq its.toArray } } :=
   I1.laid (t':=s.toks) (λ b o e=>Y02 _ e) 169 (show ObjOk X.prog X.w _ _ _ (.tup ys) from ⟨hz,its,r',IsTup.new _ _⟩)
  exact ⟨.ref h'.objs.size,_,I2,rfl,q _ (I1.hok.fresh 169)⟩
 ·obtain ⟨its,r',pl,hz⟩:=I.tuple hq;exact call_tuple_same pl ⟨.ref p,H,I,rfl,q⟩
def tyV (K:Y00)(T:String)(x:V)(H:Hp):Prop:=match x with
 | .str _=>T="str"
 | .int _=>T="int"
 | .ref p=>(T="list"/\∃ xs,SqL K H p xs)\/(T="tuple"/\∃ o,K.lookup p=some o/\o.cls=.type "tuple"/\o.dict=none) \/
   (T="dict"/\((∃ kvs,H p=some 192)\/∃ kvs,H p=some (.dT kvs)))\/(T="set"/\∃ S n,H p=some (.set S n))
 | _=>False
theorem Oy {pins:115}{σ:St}{H:Hp}{s:130}{T:String}{x:V}{v:Value}(I:110)(r:RelV x v)(ty:tyV X.K T x H) :
  s.TypeIs v T/\∀ a,v=.ref a->∃ ob,s.heap.get? a=some ob/\ob.dict=none:=by
 cases x with
 | str z =>
  obtain ⟨t,rfl⟩:=r;cases (show T="str" from ty);exact ⟨typeIs_str s z t,λ _ e=>nomatch e⟩
 | int i =>
  obtain ⟨t,rfl⟩:=r;cases (show T="int" from ty);exact ⟨typeIs_int s i t,λ _ e=>nomatch e⟩
 | ref p =>
  cases r;rcases ty with ⟨rfl,xs,hq⟩ | ⟨rfl,o,hk,hc,hd⟩ | ⟨rfl,hk⟩ | ⟨rfl,S,n,hk⟩
  ·obtain ⟨its,_,pl,_⟩:=I.list hq;refine ⟨pl.isList.typeIs,λ a e=>?_⟩;cases e;obtain ⟨o,n,e,c,hd,_⟩:=pl;exact ⟨o,e,hd⟩
  ·refine ⟨⟨o,I.kIn p o hk,hc⟩,λ a e=>?_⟩;cases e;exact ⟨o,I.kIn _ o hk,hd⟩
  ·have z:∃ o,s.heap.get? p=some o/\o.ExactDict:=by
    rcases hk with ⟨kvs,hk⟩ | ⟨kvs,hk⟩
    ·obtain ⟨_,_,_,_,o,_,_,e,ex,_⟩:=I.hok p _ hk;exact ⟨o,e,ex⟩
    ·obtain ⟨_,_,_,_,o,_,_,e,ex,_⟩:=I.hok p _ hk;exact ⟨o,e,ex⟩
   obtain ⟨o,e,ex⟩:=z;refine ⟨⟨o,e,ex.1⟩,λ a e2=>?_⟩;cases e2;exact ⟨o,e,ex.2.1⟩
  ·obtain ⟨o,_,_,_,e,ex,_⟩:=I.hok p _ hk;refine ⟨⟨o,e,ex.1⟩,λ a e2=>?_⟩;cases e2;exact ⟨o,e,ex.2.1⟩
 | _=>exact False.elim ty
def zah (K:Y00)(T:String)(r:V->List V->Hp->VK->Prop)(to:TE):TE:=λ σ H Q=>to σ H λ x H1=>tyV K T x H1/\r x [] H1 Q
def tBM (K:Y00)(T:String)(r:V->List V->Hp->VK->Prop)(to:TE)(t:TA):TE:=λ σ H Q=>to σ H λ x H1=>tyV K T x H1/\t σ H1 λ xs H2=>r x xs H2 Q
variable {o e:Expr}{es:List Expr}{to:TE}{t:TA}{name:Str}{apos cpos:Pos}{T id:String}{r:V->List V->Hp->VK->Prop}
theorem Oz (pa:PlainAttrs T) (slot:Slot T name id) (hty:typeOf (.builtin id)=pure (.type "method_descriptor")) (hm:MtR X id r) (ho:PE X o to)
  (hbase:attributeBase o name X.env (eval o X.env)=eval o X.env:=by rfl) (hline:(apos.endLine==cpos.line)=true:=by rfl):PE X (.Call (.Attribute o name apos) [] [] cpos) (zah X.K T r to):=by
 intro pins s σ H Q I h;refine wpAny_Call_method0_late hbase hline (thn (ho pins s σ H _ I h) λ v s1 ⟨x,H1,I1,r1,ty,q1⟩=>?_);obtain ⟨h1,h2⟩:=Oy I1 r1 ty;exact ⟨T,id,pa,slot,hty,h1,h2,Calls.callWith_builtin rfl (PySem.evalArgs_none (hm pins s1 σ H1 x [] v [] Q I1 r1 .nil q1))⟩
theorem z42 (pa:PlainAttrs T) (slot:Slot T name id) (hty:typeOf (.builtin id)=pure (.type "method_descriptor")) (hm:MtR X id r) (ho:PE X o to) (ha:PA X (e::es) t)
  (hbase:attributeBase o name X.env (eval o X.env)=eval o X.env:=by rfl)
  (hfew:((backTo cpos (starEach (e::es) X.env)).all (λ x=>!x.1)&&(backToKw cpos (keywordEach [] X.env)).all (λ x=>x.1.isSome)
   && decide ((e::es).length+([]:List Keyword).length+(if ([]:List Keyword).isEmpty then 0 else 1)<30))=true:=by rfl)
  (hline:(apos.endLine==cpos.line)=true:=by rfl) (hs:starEach (e::es) X.env=(false,eval e X.env)::starEach es X.env:=by rfl) (hplain:(backTo cpos (starEach es X.env)).any (·.1)=false:=by rfl) :
  PE X (.Call (.Attribute o name apos) (e::es) [] cpos) (tBM X.K T r to t):=by
 intro pins s σ H Q I h;refine wpAny_Call_method_late hbase hfew hline rfl (thn (ho pins s σ H _ I h) λ v s1 ⟨x,H1,I1,r1,ty,q1⟩=>?_);obtain ⟨h1,h2⟩:=Oy I1 r1 ty;refine ⟨T,id,pa,slot,hty,h1,h2,?_⟩;have hA:=ha cpos pins s1 σ H1 _ I1 q1;rw [hs] at hA ⊢;refine Calls.callWith_builtin (by show (false||(backTo cpos (starEach es X.env)).any (·.1))=false;rw [hplain]<;>rfl) (Calls.evalArgs_plain ?_);exact thn hA λ us s2 ⟨vs,H2,I2,r2,q2⟩=>hm pins s2 σ H2 x vs v us Q I2 r1 r2 q2
end
def MtM (X:Cx)(id:String)(r:V->List V->Hp->VK->Prop):Prop :=
 ∀ (pins:115) (s:130) (σ:St) (H:Hp) (x:V) (xs:157) (v:Value) (us:XW) (Q:VK),Inv X pins σ H s->RelV x v->Vals xs us->r x xs H Q ->
  wpAny 116 X.A (call (.builtin id) (v::us)) (EP X pins σ Q) X.xe s
theorem Vals.one:∀ {x:V}{us:XW},Vals [x] us->∃ u,us=[u]/\RelV x u
 | _,_,.cons r .nil=>⟨_,rfl,r⟩
theorem Vals.zero:∀ {us:XW},Vals [] us->us=[]
 | _,.nil=>rfl
theorem Vals.dropLast {xs:157}{us:XW}(h:Vals xs us):Vals xs.dropLast us.dropLast:=by
 induction h with
 | nil=>exact .nil
 | cons r t ih =>
  cases t with
  | nil=>exact .nil
  | cons q t'=>exact .cons r ih
theorem Vals.reverse {xs:157}{us:XW}(h:Vals xs us):Vals xs.reverse us.reverse:=by
 induction h with
 | nil=>exact .nil
 | cons r t ih=>rw [Y37,Y37];exact Vals.append ih (.cons r .nil)
theorem Vals.rep {xs:157}{us:XW}(h:Vals xs us):∀ k:Nat,Vals (List.replicate k xs).flatten (List.replicate k us).flatten
 | 0=>.nil
 | k+1=>by
  rw [Y14,Y14,Y29,Y29];exact Vals.append h (Vals.rep h k)
theorem YG {α:Type}(l:List α):l.eraseIdx (l.length-1)=l.dropLast:=by
 induction l with
 | nil=>rfl
 | cons a r ih =>
  cases r with
  | nil=>rfl
  | cons b r =>
   have e:(a::b::r).length-1=((b::r).length-1)+1:=by
    have h1:(a::b::r).length=r.length+2:=rfl;have h2:(b::r).length=r.length+1:=rfl;omega
   rw [e,List.eraseIdx_cons_succ,ih]
   all_goals rfl
theorem Jo (its:XW):∀ (k:Nat) (acc:XW),
  List.foldl (λ x1 x2=>x1++x2) acc.toArray (List.replicate k its.toArray)=(acc++(List.replicate k its).flatten).toArray
 | 0,acc=>by simp
 | k+1,acc=>by
  have e:acc.toArray++its.toArray=(acc++its).toArray:=by simp
  have e2:(acc++its)++(List.replicate k its).flatten=acc++(List.replicate (k+1) its).flatten:=by
   rw [Y14,Y29,Y0k]
  rw [<- e2,<- Jo its k (acc++its),<- e,Y14,Y1i]
section
variable {X:Cx}{pins:115}{σ:St}{H:Hp}{s:130}{l b:Addr}{xs ys zs:157}
theorem Inv.lset {its its':XW}{n:Nat}{f:Array Value->Array Value}{t':Nat}(I:110)(hH:H l=some 178)
  (e:s.heap.get? l=some { cls:=.type "list",data:=.seq its.toArray n }) (hf:f its.toArray=its'.toArray) (hv:Vals ys its') (hz:ys.length<=sizeLine) :
  Inv X pins σ (upd H l (.lst ys)) { s with heap:=s.heap.update l (Obj.mapSeq f),toks:=t' }:=by
 have q:=PySem.IsL.update e f;rw [hf] at q;refine I.write (x:=l) (e:=l) (by rw [hH];exact trivial) (.inl rfl) (λ b' u hb hu=>(Y19 s.heap (Obj.mapSeq f) (Ne.symm hb)).trans hu) ⟨_,q⟩ ?_;exact ⟨hz,its',_,hv,q⟩
theorem Inv.lnew {its:XW}{t':Nat}(I:110)(hv:Vals ys its)(hz:ys.length<=sizeLine) :
  Inv X pins σ (upd H s.heap.objs.size (.lst ys)) { s with heap:=s.heap.push { cls:=.type "list",data:=.seq its.toArray },toks:=t' } :=
 I.laid (λ _ _ q=>Y02 _ q) 169 ⟨hz,its,0,hv,Y0d _ rfl⟩
theorem Inv.fresh (I:110):H s.heap.objs.size=none:=I.hok.fresh 169
theorem Inv.lstM (I:110)(hH:H l=some 178):xs.length<=sizeLine/\∃ (its:XW) (n:Nat),Vals xs its/\xs.length=its.length/\s.heap.get? l=some { cls:=.type "list",data:=.seq its.toArray n }:=by
 obtain ⟨z,its,n,r,e⟩:=I.hok l _ hH;exact ⟨z,its,n,r,r.length,e⟩
theorem Z3 {n:Nat}(h:n<=sizeLine):Builtin.List.listTooLong n=false:=by
 unfold Builtin.List.listTooLong;exact decide_eq_false 109
end
section
variable {X:Cx}
def z1j:V->List V->Hp->VK->Prop:=λ x vs H Q=>∃ l xs y,x=.ref l/\vs=[y]/\H l=some 178/\xs.length<sizeLine/\Q .non (upd H l (.lst (xs++[y])))
theorem Gi:MtM X "list.append" z1j:=by
 intro pins s σ H x vs v us Q I rx rv h;obtain ⟨l,xs,y,rfl,rfl,hH,hz,q⟩:=h;cases rx;obtain ⟨u,rfl,ru⟩:=rv.one;obtain ⟨z,its,n,r,hl,e⟩:=I.lstM hH;refine call_meets F.slot_list_append ⟨_,e,rfl⟩ F.entry_list_append (F.args_list_append_2 _ _) (PySem.list_append l its.toArray n u (by rw [Y0a];omega)) ⟨e,?_⟩;refine ⟨.non,_,I.lset (its':=its++[u]) hH e 111 (r.append (.cons ru .nil)) ?_,rfl,q⟩;rw [Y0e,Y26];omega
def z1k:V->List V->Hp->VK->Prop:=λ x vs H Q=>∃ l b xs zs,x=.ref l/\vs=[.ref b]/\H l=some 178/\H b=some (.lst zs)/\xs.length+zs.length<=sizeLine/\Q .non (upd H l (.lst (xs++zs)))
theorem Gj:MtM X "list.extend" z1k:=by
 intro pins s σ H x vs v us Q I rx rv h;obtain ⟨l,b,xs,zs,rfl,rfl,hH,hB,hz,q⟩:=h;cases rx;obtain ⟨u,rfl,ru⟩:=rv.one;cases ru;obtain ⟨z,its,n,r,hl,e⟩:=I.lstM hH;obtain ⟨z2,its2,n2,r2,hl2,e2⟩:=I.lstM hB;have hsz:its.toArray.size+its2.toArray.size<=sizeLine:=by rw [Y0a,Y0a];omega
 have hlong:¬ (!its.toArray.isEmpty&&Builtin.List.listTooLong (its.toArray.size+its2.toArray.size))=true:=by
  rw [Z3 hsz,Y3m];exact Y0x
 refine call_meets F.slot_list_extend ⟨_,e,rfl⟩ F.entry_list_extend (F.args_list_extend_2 _ _)
  (AutoSeq1.list_extend_list_list_0 l its.toArray n b its2.toArray n2 hlong (by rw [Y0a];omega) 109) ⟨e,e2,?_⟩
 refine ⟨.non,_,I.lset (its':=its++its2) hH e 111 (r.append r2) ?_,rfl,q⟩;rw [Y0e];omega
def zai:V->List V->Hp->VK->Prop:=λ x vs H Q=>∃ l xs y,x=.ref l/\vs=[]/\H l=some 178/\xs[xs.length-1]?=some y/\Q y (upd H l (.lst xs.dropLast))
theorem z5s:MtM X "list.pop" zai:=by
 intro pins s σ H x vs v us Q I rx rv h;obtain ⟨l,xs,y,rfl,rfl,hH,hy,q⟩:=h;cases rx;have hus:=rv.zero;subst hus;obtain ⟨z,its,n,r,hl,e⟩:=I.lstM hH;obtain ⟨u,hu,ru⟩:=r.get hy;have hy':its.toArray[its.toArray.size-1]?=some u:=by
  show its.toArray[its.length-1]?=some u;rw [<- Y1t,<- hl];exact hu
 refine call_meets F.slot_list_pop ⟨_,e,rfl⟩ F.entry_list_pop (F.args_list_pop_1 _) (MeetsSeq.list_pop_last l its.toArray n u hy' (by rw [Y0a];omega)) ⟨e,?_⟩;refine ⟨y,_,I.lset (its':=its.dropLast) hH e ?_ r.dropLast ?_,ru,q⟩
 ·show its.toArray.eraseIdxIfInBounds (its.toArray.size-1)=its.dropLast.toArray;rw [Y0a,List.eraseIdxIfInBounds_toArray,YG]
 ·rw [List.length_dropLast];omega
def OA:V->List V->Hp->VK->Prop:=λ x vs H Q=>∃ l xs,x=.ref l/\vs=[]/\H l=some 178/\Q .non (upd H l (.lst xs.reverse))
theorem YH:MtM X "list.reverse" OA:=by
 intro pins s σ H x vs v us Q I rx rv h;obtain ⟨l,xs,rfl,rfl,hH,q⟩:=h;cases rx;have hus:=rv.zero;subst hus;obtain ⟨z,its,n,r,hl,e⟩:=I.lstM hH;refine call_meets F.slot_list_reverse ⟨_,e,rfl⟩ F.entry_list_reverse (F.args_list_reverse_1 _) (AutoSeq1.list_reverse_list_0 l its.toArray n (by rw [Y0a];omega)) ⟨e,?_⟩;refine ⟨.non,_,I.lset (its':=its.reverse) hH e 111 r.reverse ?_,rfl,q⟩;rw [Y3n];omega
def zaj:R2:=λ x y H Q=>∃ l b xs zs,x=.ref l/\y=.ref b/\H l=some 178/\H b=some (.lst zs)/\xs.length+zs.length<=sizeLine/\∀ p,H p=none->Q (.ref p) (upd H p (.lst (xs++zs)))
theorem z5t:OpR X (binaryOp .Add) zaj:=by
 intro pins s σ H x y v u Q I rx ry h;obtain ⟨l,b,xs,zs,rfl,rfl,hH,hB,hz,q⟩:=h;cases rx;cases ry;obtain ⟨z,its,n,r,hl,e⟩:=I.lstM hH;obtain ⟨z2,its2,n2,r2,hl2,e2⟩:=I.lstM hB;refine PySem.P.add_list e e2 ?_ (by rw [Y0a,Y0a];omega);have ea:its.toArray++its2.toArray=(its++its2).toArray:=by simp
 rw [ea];exact ⟨.ref _,_,I.lnew (t':=s.toks) (r.append r2) (by rw [Y0e];omega),rfl,q _ I.fresh⟩
def zak:R2:=λ x y H Q=>∃ l k xs,x=.ref l/\y=.int k/\H l=some 178/\-(2 ^ 63)<=k/\k<2 ^ 63/\xs.length*k.toNat<=sizeLine /\
 ∀ p,H p=none->Q (.ref p) (upd H p (.lst (List.replicate k.toNat xs).flatten))
theorem z1l {α:Type}(xs:List α)(k:Nat):(List.replicate k xs).flatten.length=k*xs.length:=by
 induction k with
 | zero=>simp
 | succ k ih=>rw [Y14,Y29,Y0e,ih,Nat.succ_mul,Nat.add_comm]
theorem z5u:OpR X (binaryOp .Mult) zak:=by
 intro pins s σ H x y v u Q I rx ry h;obtain ⟨l,k,xs,rfl,rfl,hH,h1,h2,hz,q⟩:=h;cases rx;obtain ⟨t,rfl⟩:=ry;obtain ⟨z,its,n,r,hl,e⟩:=I.lstM hH;have hlen:its.toArray.size*k.toNat<=sizeLine:=by rw [Y0a,<- hl];exact hz
 have hcap:¬ its.toArray.size*k.toNat > (2 ^ 63-1)/8:=by
  have:(sizeLine:Nat)<=(2 ^ 63-1)/8:=by decide
  omega
 have hfit:¬ (!Builtin.List.listFitsIndex k)=true:=by
  rw [fitsIndex_both h1 h2];exact Y0x
 have hlong:¬ Builtin.List.listTooLong (its.toArray.size*k.toNat)=true:=by
  rw [Z3 hlen];exact Y0x
 have hnew:List.foldl (λ x1 x2=>x1++x2) #[] (List.replicate (if its.toArray.isEmpty=true then 0 else k.toNat) its.toArray)=(List.replicate k.toNat its).flatten.toArray:=by
  have f0:∀ m:Nat,List.foldl (λ x1 x2=>x1++x2) #[] (List.replicate m its.toArray)=(List.replicate m its).flatten.toArray:=λ m=>by
   have:=Jo its m []
   rw [Y0s] at this;exact this
  rw [f0];cases its with
  | nil=>simp
  | cons a r'=>rw [if_neg 111]
 refine wpAny_binaryOp_repeat_ref (T:="list") (U:="int") 108 ⟨_,e,rfl⟩ (λ s'=>typeIs_int s' k t) noFill_list_mul F.fills_int_mul F.slot_int_rmul repeat_list F.slot_int_index.lookup
  (call_meets F.slot_int_rmul (typeIs_int s k t) F.entry_int_rmul (F.args_int_rmul_2 _ _) (int___rmul___int_list k t l its.toArray n)
   ⟨e,rfl,⟨_,e,rfl⟩,call_meets F.slot_list_mul ⟨_,e,rfl⟩ F.entry_list_mul (F.args_list_mul_2 _ _) (AutoListH.list___mul___list_int_3 l its.toArray n k t hfit hcap hlong) ⟨e,?_⟩⟩)
 rw [hnew];exact ⟨.ref _,_,I.lnew (t':=s.toks) (r.rep k.toNat) (by rw [z1l,Nat.mul_comm];exact hz),rfl,q _ I.fresh⟩
end
end L2
namespace Att
open PySem PySem.W PySem.Calls PyProof.Rows
theorem yB {P:Params}{h:Heap}:∀ (ns:195) (vs:XW),WellAll P h vs (ns.map WData.int)->IntsAre vs ns:=by
 intro ns
 induction ns with
 | nil =>
  intro vs w;rw [Y12] at w;cases w;exact .nil
 | cons n ns ih =>
  intro vs w;rw [Y09] at w;cases w with
  | cons a b =>
   cases a;exact .cons _ _ (ih _ b)
theorem script_of {l:OpenLaw}{n:Nat}(hn:l.most=some n){P:Params}{h:Heap}{args:List WData}{vals:XW}
  (hpre:l.row.toRowW.claim.pre args=true) (hwl:WellAll P h vals args) :
  ∃ a vs ns,vals=[Value.ref a]/\args=[WData.list (ns.map WData.int)]/\h.get? a=some { cls:=.type "list",data:=.seq vs.toArray }/\IntsAre vs ns/\ns.length<=n:=by
 have hsh:WShape.hasAll [] args [.list .int]=true:=(pre_splitW hpre).1;have hc:l.pre.holds [] { args:=args }=true:=(pre_splitW hpre).2;obtain ⟨d,r,rfl,h1,h2⟩:=hasAllW_cons hsh;obtain rfl:=hasAllW_nil h2;obtain ⟨xs,rfl,h3⟩:=hasW_list h1;obtain ⟨ns,rfl⟩:=items_int h3;have hlen:ns.length<=n:=by
  unfold OpenLaw.pre at hc;have h4:(WTm.not (.lt (.lit (.int (n:Int))) (.len (.arg 0)))).holds [] { args:=[.list (ns.map .int)] }=true:=by
   have h4:=(holds_andW hc).1;rw [hn] at h4;exact h4
  have h5:=condW_of h4 (w_not (w_lt w_lit (w_len_list (w_arg rfl))));rw [Y04] at h5;refine Nat.le_of_not_lt λ q=>?_;have q':(n:Int)<((ns.length:Nat):Int):=by omega
  first
   | (rw [decide_eq_true q'] at h5;exact absurd h5 108)
   | (simp at h5;omega)
 cases hwl with
 | cons w1 w2 =>
  cases w2;cases w1 with
  | list ho hall=>exact ⟨_,_,ns,rfl,rfl,ho,yB ns _ hall,hlen⟩
theorem post_true (l:OpenLaw)(args:List WData):l.row.toRowW.claim.post args (.bool true) args=true :=
 postW_of (r:=l.row.toRowW) (X:=(true==true))
  (show WShape.has [] (.bool true) .bool=true by first | rfl | decide | simp [WShape.has,WShape.arms,WShape.armsAll])
  (show (WTm.eq .res (.lit (.bool true))).value [] { args:=args,res:=some (.bool true),after:=args }=some (.bool (true==true)) from w_eq_bool (w_res rfl) w_lit) rfl
section
variable {prog:156}{w:World}{A:Around}{E:XU}{s:130}{K:Frag}
def zal (h:Heap)(L d:Addr):List (Addr×Obj):=(List.range h.objs.size).filterMap λ a=>if a=L\/a=d then none else (h.get? a).map λ o=>(a,o)
end
end Att
namespace L2
open PySem PySem.Spec PyProof.Rows
theorem Jp:∀ {vs:XW}{ns:195},IntsAre vs ns->Vals (ns.map V.int) vs
 | _,_,.nil=>.nil
 | _,_,.cons n t h=>.cons ⟨t,rfl⟩ (Jp h)
def z5v (H:Hp):Prop:=∀ b,H b=none\/∃ o xs,H b=some (.frz o 178)
theorem OB {P:156}{w:World}{K:Y00}{mg mb:XJ}{CX:CXT}{k:Nat}{fa a:Addr}{fd:FuncData}{x:Str}{sp:Sp}{s₁:130}{vs:XW}{ns:195}
  (KX:K.In s₁.heap) (hns:s₁.heap.Ns mainGlobals mg) (hb:s₁.heap.Ns builtinsNs mb) (hbb:∀ x:Str,x≠"__name__"->mb x=bootBuiltins x) (hlim:s₁.heap.NoLimit) (hg:s₁.gens=#[])
  (ha:s₁.heap.get? a=some { cls:=.type "list",data:=.seq vs.toArray }) (hi:IntsAre vs ns) (hl:ns.length<=sizeLine) (hr:Room k callerA)
  (F:∀ base:Heap,K.In base->base.Ns mainGlobals mg->FnOk P w K mg base CX k fa fd [x] sp) (hbind:∀ (s:130) (u:Value),BindsTo s fd ⟨[u],[]⟩ [(x,u)])
  (hsp:∀ H:Hp,z5v H->SqL K H a (ns.map V.int)->sp [.ref a] H (λ v _=>v=.bl true) λ _ _ _=>False)
  (hCX:∀ H e s',CX [] H s₁ (λ _ _ _=>False) e s'->False) :
  codeAny (model P w) callerA (.call (.ref fa) ⟨[.ref a],[]⟩) (λ r s'=>r=.ok (.ret (.bool true))/\OldK s₁.heap s'.heap/\s'.os=s₁.os/\AllBare s'.gens) s₁:=by
 have rv:=Jp hi;have lenV:=hi.length;have core:∀ H:Hp,z5v H->SqL K H a (ns.map V.int)->HOk P w H s₁.heap->(∀ b,H b≠none->b=a)->(H a≠none->K.lookup a=none) ->
   codeAny (model P w) callerA (.call (.ref fa) ⟨[.ref a],[]⟩) (λ r s'=>r=.ok (.ret (.bool true))/\OldK s₁.heap s'.heap/\s'.os=s₁.os/\AllBare s'.gens) s₁:=by
  intro H hO hS hok hA hK;have base_of:∀ {b:Addr}{o:Obj},s₁.heap.get? b=some o->H b=none->(JZ s₁.heap H).get? b=some o:=λ e n=>O9 e n;have noA:∀ {b:Addr}{o:Obj}{es:Array DictEntry}{ep:Nat},s₁.heap.get? b=some o->o.data=.dict es ep->H b=none:=λ {b o es ep} e d=>by
   cases q:H b with
   | none=>rfl
   | some u =>
    have e':b=a:=hA b (by rw [q];simp);subst e';rw [ha] at e;cases e;have d':Data.seq vs.toArray _=Data.dict es ep:=d;cases d'
  have nsK:∀ {b:Addr}{m:XJ},s₁.heap.Ns b m->(JZ s₁.heap H).Ns b m:=λ {b m} ⟨o,es,ep,e,d,r⟩=>⟨o,es,ep,base_of e (noA e d),d,r⟩;have hKb:K.In (JZ s₁.heap H):=λ b o e=>base_of (KX b o e) (by
   cases q:H b with
   | none=>rfl
   | some u =>
    have e':b=a:=hA b (by rw [q];simp);subst e';rw [hK (by rw [q];simp)] at e;cases e)
  have hM:Mod K mg (JZ s₁.heap H):=⟨hKb,nsK hns,⟨mb,nsK hb,hbb⟩,let ⟨mc,h1,h2⟩:=hlim;⟨mc,nsK h1,h2⟩⟩;have e0:Env0 P w K mg (JZ s₁.heap H) callerA [] s₁ H:=⟨rfl,hM,λ b o e=>z10 e,Y3u (Gb _ _),trivial,λ b hb=>absurd (show b∈([]:List Addr) from hb) 111,hok,.of_eq hg⟩;refine codeAny_mono ((F _ hKb (nsK hns)).run callerA [] s₁ H ⟨[.ref a],[]⟩ [.ref a] [.ref a] _ _ hr e0 (hbind s₁ 155) (.cons rfl .nil) (hsp H hO hS)) λ r s' h=>?_;cases r with
  | error e=>exact (hCX H e s' h).elim
  | ok fl =>
   cases fl with
   | next=>exact False.elim h
   | brk=>exact False.elim h
   | cont=>exact False.elim h
   | ret u =>
    obtain ⟨v,H',os,bare,un,hok',r',q⟩:=h;have q':v=.bl true:=q;subst q';obtain rfl:u=Value.bool true:=r';refine ⟨rfl,OldK.of_keep λ b o e=>?_,os,bare⟩;cases q:H b with
    | none=>exact un.keep b o e q (by intro z;exact absurd (show b∈([]:List Addr) from z) 111) 111
    | some u =>
     rcases hO b with z | ⟨ob,xs,z⟩
     ·rw [q] at z;cases z
     ·have z2:=un.frzs b ob _ z;obtain ⟨e1,_⟩:=hok b _ z;obtain ⟨e2,_⟩:=hok' b _ z2;rw [e] at e1;cases e1;exact e2
 cases hk:K.lookup a with
 | some o =>
  have e:=KX a o hk;rw [ha] at e;cases e;refine core (λ _=>none) (λ _=>.inl rfl) (.inr ⟨_,vs.toArray,_,hk,rfl,rfl,rfl,by rw [Y0a,lenV];exact hl,by simpa using rv⟩) (λ b u z=>by have z':(none:Option HO)=some u:=z;cases z') (λ b z=>absurd rfl z) λ z=>absurd rfl z
 | none =>
  refine core (λ b=>if b=a then some (.frz { cls:=.type "list",data:=.seq vs.toArray } (.lst (ns.map V.int))) else none) (λ b=>?_) (.inl (.inr ⟨{ cls:=.type "list",data:=.seq vs.toArray },if_pos rfl⟩)) (λ b u z=>?_) (λ b z=>?_) λ _=>hk
  ·by_cases hb:b=a
   ·exact .inr ⟨_,_,if_pos hb⟩
   ·exact .inl (if_neg hb)
  ·by_cases hb:b=a
   ·have z':=(if_pos hb).symm.trans z;cases z';subst hb;exact ⟨ha,by rw [Y04];exact hl,vs,_,rv,ha⟩
   ·have z':=(if_neg hb).symm.trans z;cases z'
  ·by_cases hb:b=a
   ·exact hb
   ·exact absurd (if_neg hb) z
abbrev KOf {K:Y00}{h:Heap}(_:K.In h):Y00:=K
def zK (s:Stmt):Arguments:=match s with
 | .FunctionDef _ a _ _ _ _ _ _ _ _=>a
 | _=>{ posonlyargs:=[],args:=[],vararg:=none,kwonlyargs:=[],kw_defaults:=[],kwarg:=none,defaults:=[] }
def zE (s:Stmt):List Stmt:=match s with
 | .FunctionDef _ _ b _ _ _ _ _ _ _=>b
 | _=>[]
def zk (s:Stmt):Scope:=match s with
 | .FunctionDef _ _ _ _ _ _ sc _ _ _=>sc
 | _=>{ kind:=.function,names:=[],isGenerator:=false,isCoroutine:=false }
abbrev CX0:CXT:=λ _ _ _ _ _ _=>False
structure Fun (K:Y00)(x qual:Str)(st:Stmt)(f:Addr)(fd:FuncData):Prop where
 ex:∃ (oc:Value) (od:166) (kV doc pm:Value) (an:166) (cdv ct:Value) (osl:171),
  fd=PySem.W.fnOf x qual (zK st) (zE st) (zk st) .none kV doc pm an cdv ct/\K.lookup f=some ⟨oc,od,.func fd,osl⟩/\PySem.W.codeIn K cdv qual=true
 kp:PySem.W.keepIn K (.ref f)=true
section
variable {P:156}{w:World}{K:Y00}{mg:XJ}{base:Heap}
theorem Fun.binds {x qual:Str}{st:Stmt}{f:Addr}{fd:FuncData}{ps:XQ}(F:Fun K x qual st f fd)
  (h:∀ (kV doc pm:Value) (an:166) (cdv ct:Value) (us:XW),us.length=ps.length->bindArgs (PySem.W.fnOf x qual (zK st) (zE st) (zk st) .none kV doc pm an cdv ct) ⟨us,[]⟩=pure (ps.zip us)):Binds K fd ps []:=by
 obtain ⟨oc,od,kV,doc,pm,an,cdv,ct,osl,rfl,lk,hcd⟩:=F.ex;exact .all (h kV doc pm an cdv ct)
theorem Z4 {x qual:Str}{st:Stmt}{f:Addr}{oc:Value}{od an:166}{osl:171}{kV doc pm cdv ct:Value}(l:K.lookup f=some ⟨oc,od,.func (PySem.W.fnOf x qual (zK st) (zE st) (zk st) .none kV doc pm an cdv ct),osl⟩)
  (c:PySem.W.codeIn K cdv qual=true) (k:PySem.W.keepIn K (.ref f)=true):Fun K x qual st f (PySem.W.fnOf x qual (zK st) (zE st) (zk st) .none kV doc pm an cdv ct):=⟨⟨oc,od,kV,doc,pm,an,cdv,ct,osl,rfl,l,c⟩,k⟩
end
theorem z43 {A:Around}{k:Nat}(hr:Room k A):A.units+1<cLine:=Y23 (Nat.add_le_add_left (by decide:1<=64) _) hr.units
theorem Jq {n:Nat}(h:n<=1000):n<sizeLine:=Y23 h 108
section
variable {X:Cx}
theorem pv (i:Nat) {x:Str}{pos:Pos} (hN:X.N[i]?=some x:=by rfl) (hv:Vis X.env.scope x:=by first | exact Or.inl rfl | exact Or.inr (Or.inl rfl) | exact Or.inr (Or.inr rfl)) (hd:143=false:=by decide)
  (hcd:(x==("__classdict__":Str))=false:=by decide):PE X (.Name x pos) (z7u i):=Oa hN hv hd hcd
end
theorem yC {A B:Prop}(h:B):if false=true then A else B:=by
 rw [if_neg Y0x];exact h
theorem yD {A B:Prop}(h:A):if true=true then A else B:=by
 rw [if_pos rfl];exact h
def zb9 (H H':Hp):Prop:=∀ b o,H b=some o->H' b=some o
section
variable {κ:Type}[DecidableEq κ]
def jT (kvs:199)(k:κ):Option V:=(kvs.find? λ kv=>decide (kv.1=k)).map (·.2)
def wq (kvs:199)(k:κ)(v:V):List (κ×V) :=
 if (kvs.any λ kv=>decide (kv.1=k))=true then kvs.map (λ kv=>if kv.1=k then (kv.1,v) else kv) else kvs++[(k,v)]
def zb4 (kvs:199)(k:κ):List (κ×V):=kvs.filter λ kv=>decide (kv.1≠k)
theorem wM {p:κ×V}{r:199}{k:κ}(e:p.1=k):jT (p::r) k=some p.2:=by simp [jT,Y2l,e]
theorem wN {p:κ×V}{r:199}{k:κ}(e:¬ p.1=k):jT (p::r) k=jT r k:=by simp [jT,Y2l,e]
theorem Qk (k:κ):∀ kvs:List (κ×V),(kvs.any λ kv=>decide (kv.1=k))=(jT kvs k).isSome
 | []=>rfl
 | p::r=>by
  rw [Y0u];by_cases e:p.1=k
  ·simp only [wM e,decide_eq_true e,Bool.true_or,Option.isSome_some]
  ·rw [wN e,decide_eq_false e,Y3q];exact Qk k r
theorem wO (kvs:199)(k:κ)(v:V):(wq kvs k v).length<=kvs.length+1:=by
 unfold wq
 split
 ·rw [Y04];omega
 ·rw [Y0e,Y08,Y2y];omega
theorem RelO.isSome_eq {o:Option V}{u:Option Value}(r:RelO o u):o.isSome=u.isSome:=by
 cases o with
 | none=>cases u with
  | none=>rfl
  | some _=>exact (show False from r).elim
 | some _=>cases u with
  | none=>exact (show False from r).elim
  | some _=>rfl
theorem KV.val {kvs:199}{vs:List (κ×Value)}(r:KV kvs vs)(k:κ):RelO (jT kvs k) (valueAt vs k):=by
 unfold KV at r
 induction r with
 | nil=>exact True.intro
 | @cons p q ps qs h t ih =>
  obtain ⟨h1,h2⟩:=h;by_cases e:p.1=k
  ·have e':q.1=k:=h1.symm.trans e;have b:valueAt (q::qs) k=some q.2:=by simp [valueAt,Y2l,e']
   rw [wM e,b];exact h2
  ·have e':¬ q.1=k:=λ z=>e (h1.trans z);have b:valueAt (q::qs) k=valueAt qs k:=by simp [valueAt,Y2l,e']
   rw [wN e,b];exact ih
theorem KV.any {kvs:199}{vs:List (κ×Value)}(r:KV kvs vs)(k:κ):(kvs.any λ kv=>decide (kv.1=k))=vs.any λ kv=>decide (kv.1=k):=by
 unfold KV at r
 induction r with
 | nil=>rfl
 | cons h t ih=>rw [Y0u,Y0u,ih,h.1]
theorem KV.repl {kvs:199}{vs:List (κ×Value)}(r:KV kvs vs)(k:κ){y:V}{u:Value}(ry:RelV y u) :
  KV (kvs.map λ kv=>if kv.1=k then (kv.1,y) else kv) (vs.map λ kv=>if kv.1=k then (kv.1,u) else kv):=by
 unfold KV at r ⊢
 induction r with
 | nil=>exact .nil
 | @cons p q ps qs h t ih =>
  rw [Y09,Y09];refine .cons ?_ ih;obtain ⟨h1,h2⟩:=h;by_cases e:p.1=k
  ·rw [if_pos e,if_pos (h1.symm.trans e)];exact ⟨h1,ry⟩
  ·rw [if_neg e,if_neg (λ z=>e (h1.trans z))];exact ⟨h1,h2⟩
theorem KV.put {kvs:199}{vs:List (κ×Value)}(r:KV kvs vs)(k:κ){y:V}{u:Value}(ry:RelV y u):KV (wq kvs k y) (stored vs k u):=by
 unfold wq stored;rw [r.any k];by_cases e:(vs.any λ kv=>decide (kv.1=k))=true
 ·rw [if_pos e,if_pos e];exact r.repl k ry
 ·rw [if_neg e,if_neg e];exact Paired.snoc r ⟨rfl,ry⟩
theorem KV.length {kvs:199}{vs:List (κ×Value)}(r:KV kvs vs):kvs.length=vs.length:=Paired.length r
end
theorem yu {P:156}{w:World}{k:Key}{u:Value}(r:RelV (kV k) u):(zt P w).is k u=true:=by
 cases k with
 | inl i=>obtain ⟨t,e⟩:=(show ∃ t,u=Value.int i t from r);subst e;exact Q9 P w i t
 | inr x=>obtain ⟨t,e⟩:=(show ∃ t,u=Value.str x t from r);subst e;exact Qa P w x t
theorem yb {P:156}{w:World}:∀ {ks:List Key}{us:XW},Vals (ks.map kV) us->ItemsAre (zt P w) ks us
 | [],_,r=>by rw [Y12] at r;cases r;exact .nil
 | k::ks,_,r=>by
  rw [Y09] at r;cases r with
  | cons h t=>exact .cons (yu h) (yb t)
abbrev KT (H:Hp):List (List Key×V)->List (List Key×Addr×Value)->Prop:=Paired λ p q=>p.1=q.1/\H q.2.1=some (.tup (p.1.map kV))/\RelV p.2 q.2.2
theorem KT.val {H:Hp}{kvs:List (List Key×V)}{xs:List (List Key×Addr×Value)}(r:KT H kvs xs)(k:List Key):RelO (jT kvs k) ((atKey xs k).map (·.2)):=by
 induction r with
 | nil=>exact True.intro
 | @cons p q ps qs h t ih =>
  obtain ⟨h1,_,h2⟩:=h;by_cases e:p.1=k
  ·have e':q.1=k:=h1.symm.trans e;have b:atKey (q::qs) k=some q.2:=by simp [atKey,Y2l,e']
   rw [wM e,b];exact h2
  ·have e':¬ q.1=k:=λ z=>e (h1.trans z);have b:atKey (q::qs) k=atKey qs k:=by simp [atKey,Y2l,e']
   rw [wN e,b];exact ih
theorem KT.repl {H:Hp}{kvs:List (List Key×V)}{xs:List (List Key×Addr×Value)}(r:KT H kvs xs)(k:List Key){y:V}{u:Value}(ry:RelV y u) :
  KT H (kvs.map λ kv=>if kv.1=k then (kv.1,y) else kv) (xs.map (putAt k u)):=by
 induction r with
 | nil=>exact .nil
 | @cons p q ps qs h t ih =>
  rw [Y09,Y09];refine .cons ?_ ih;obtain ⟨h1,h2,h3⟩:=h;unfold putAt;by_cases e:p.1=k
  ·rw [if_pos e,if_pos (h1.symm.trans e)];exact ⟨h1,h2,ry⟩
  ·rw [if_neg e,if_neg (λ z=>e (h1.trans z))];exact ⟨h1,h2,h3⟩
theorem KT.put {H:Hp}{kvs:List (List Key×V)}{xs:List (List Key×Addr×Value)}(r:KT H kvs xs)(k:List Key){b:Addr}{y:V}{u:Value}(hb:H b=some (.tup (k.map kV)))(ry:RelV y u) :
  KT H (wq kvs k y) (storedH xs k b u):=by
 have e:(kvs.any λ kv=>decide (kv.1=k))=(atKey xs k).isSome:=by
  rw [Qk,(r.val k).isSome_eq,Y2n]
 unfold wq storedH;rw [e];by_cases q:(atKey xs k).isSome=true
 ·rw [if_pos q,if_pos q];exact r.repl k ry
 ·rw [if_neg q,if_neg q];exact Paired.snoc r ⟨rfl,hb,ry⟩
theorem KT.keeps {H H':Hp}{kvs:List (List Key×V)}{xs:List (List Key×Addr×Value)}(r:KT H kvs xs)(ht:∀ b ys,H b=some (.tup ys)->H' b=some (.tup ys)):KT H' kvs xs :=
 Paired.mapP r λ _ _ z=>⟨z.1,ht _ _ z.2.1,z.2.2⟩
section
variable {P:156}{w:World}{H:Hp}{h:Heap}{a:Addr}
theorem V0 {u:HO}(ok:HOk P w H h)(e:Rd H a u):ObjOk P w H h a u:=e.ok ok
theorem Qm {kvs:152}(ok:HOk P w H h)(e:Rd H a 192):kvs.length<=sizeLine/\(a==sysModules)=false/\∃ vs,KV kvs vs/\h.DictOf (zt P w) a vs :=
 show ObjOk P w H h a 192 from V0 ok e
theorem Qn {kvs:152}(ok:HOk P w H h)(e:H a=some 192):kvs.length<=sizeLine/\(a==sysModules)=false/\∃ vs,KV kvs vs/\h.DictOf (zt P w) a vs:=Qm ok (.inl e)
theorem Z5 {ks:List Key}(ok:HOk P w H h)(e:H a=some (.tup (ks.map kV))):(tupleKind (zt P w)).is h ks a:=by
 obtain ⟨_,its,r,o,h1,h2,n,h3⟩:=(show ObjOk P w H h a (.tup (ks.map kV)) from ok a _ e);exact ⟨o,its.toArray,n,h1,h2,h3,by simpa using yb r⟩
theorem V1 {kvs:List (List Key×V)}(ok:HOk P w H h)(e:Rd H a (.dT kvs)):kvs.length<=sizeLine/\(a==sysModules)=false /\
  ∃ xs,KT H kvs xs/\h.DictOfH (tupleKind (zt P w)) a xs:=by
 obtain ⟨z,y,xs,r,o,es,ep,h1,h2,h3,h4,h5⟩:=(show ObjOk P w H h a (.dT kvs) from V0 ok e);refine ⟨z,y,xs,r,o,es,ep,h1,h2,h3,h4,λ x hx=>?_,h5⟩;have all:∀ {l:List (List Key×V)}{m:List (List Key×Addr×Value)},KT H l m->∀ x∈m,(tupleKind (zt P w)).is h x.1 x.2.1:=by
  intro l m q
  induction q with
  | nil=>intro x hx;exact nomatch hx
  | @cons p q ps qs hq t ih =>
   intro x hx;rcases Y06.mp hx with e | hx
   ·subst e;exact Z5 ok (by rw [<- hq.1];exact hq.2.1)
   ·exact ih x hx
 exact all r x hx
theorem z44 {kvs:List (List Key×V)}(ok:HOk P w H h)(e:H a=some (.dT kvs)):kvs.length<=sizeLine/\(a==sysModules)=false /\
  ∃ xs,KT H kvs xs/\h.DictOfH (tupleKind (zt P w)) a xs:=V1 ok (.inl e)
end
def DGet (H:Hp)(a:Addr)(y:V)(r:Option V):Prop :=
 (∃ kvs k,Rd H a 192/\y=kV k/\r=jT kvs k)\/∃ kvs k b,Rd H a (.dT kvs)/\y=.ref b/\H b=some (.tup (k.map kV))/\r=jT kvs k
def DPut (H:Hp)(a:Addr)(y v:V)(H':Hp):Prop :=
 (∃ kvs k,H a=some 192/\y=kV k/\kvs.length<sizeLine/\H'=upd H a (.dK (wq kvs k v))) \/
 ∃ kvs k b,H a=some (.dT kvs)/\y=.ref b/\H b=some (.tup (k.map kV))/\kvs.length<sizeLine/\H'=upd H a (.dT (wq kvs k v))
theorem DGet.k {H:Hp}{a:Addr}{kvs:152}{k:Key}(e:H a=some 192):DGet H a (kV k) (jT kvs k):=.inl ⟨kvs,k,.inl e,rfl,rfl⟩
theorem DPut.k {H:Hp}{a:Addr}{kvs:152}{k:Key}{v:V}(e:H a=some 192)(hl:kvs.length<sizeLine):DPut H a (kV k) v (upd H a (.dK (wq kvs k v))):=.inl ⟨kvs,k,e,rfl,hl,rfl⟩
section
variable {X:Cx}{pins:115}{σ:St}{H:Hp}{s:130}{a:Addr}{y v:V}{u r:Value}{o:Option V}{A:Around}{E:XU}
theorem Inv.big (I:110):sysModules<s.heap.objs.size:=by
 have h:mainGlobals<s.heap.objs.size:=(I.mod.glob.keeps I.bk).lt;exact Y3t 108 h
theorem Gk {Q:XU}(hu:A.units+1<cLine)(I:110)(g:DGet H a y (some v))(ry:RelV y u)(h:∀ w' s',Inv X pins σ H s'->RelV v w'->Q w' s') :
  wpAny 116 A (getItem 155 u) Q E s:=by
 rcases g with ⟨kvs,k,e,ey,l⟩ | ⟨kvs,k,b,e,ey,eb,l⟩
 ·subst ey;obtain ⟨z,hd,vs,rel,dd⟩:=Qm I.hok e;obtain ⟨w',hw,rw'⟩:=RelO.some_of (v:=v) (o:=valueAt vs k) (by rw [l];exact rel.val k);exact wpAny_getItem_of (yu ry) dd.mapOf hw (h w' _ (I.tok _) rw')
 ·subst ey;cases (show u=Value.ref b from ry);obtain ⟨z,hd,xs,rel,dd⟩:=V1 I.hok e;obtain ⟨w',hw,rw'⟩:=RelO.some_of (v:=v) (o:=(atKey xs k).map (·.2)) (by rw [l];exact rel.val k);obtain ⟨p,hp,hp2⟩:=Y21.mp hw;refine wpAny_getItem_heap (tupleKind_room_in1 hu) (Z5 I.hok eb) dd hp ?_;rw [hp2];exact h w' _ (I.tok _) rw'
theorem z8f {Q:XU}(hu:A.units+1<cLine)(I:110)(g:DGet H a y o)(ry:RelV y u)(h:∀ s',Inv X pins σ H s'->Q (.bool o.isSome) s') :
  wpAny 116 A (compareOp .In u 155) Q E s:=by
 rcases g with ⟨kvs,k,e,ey,l⟩ | ⟨kvs,k,b,e,ey,eb,l⟩
 ·subst ey;obtain ⟨z,hd,vs,rel,dd⟩:=Qm I.hok e;refine wpAny_in_of (yu ry) hd dd.mapOf ?_;rw [<- (rel.val k).isSome_eq,<- l];exact h _ (I.tok _)
 ·subst ey;cases (show u=Value.ref b from ry);obtain ⟨z,hd,xs,rel,dd⟩:=V1 I.hok e;refine wpAny_in_heap (tupleKind_room_in1 hu) (Z5 I.hok eb) hd dd ?_;have q:=(rel.val k).isSome_eq;rw [Y2n] at q;rw [<- q,<- l];exact h _ (I.tok _)
theorem V2 {Q:XU}(hu:A.units+1<cLine)(I:110)(g:DGet H a y o)(ry:RelV y u)(h:∀ s',Inv X pins σ H s'->Q (.bool (!o.isSome)) s') :
  wpAny 116 A (compareOp .NotIn u 155) Q E s:=by
 rcases g with ⟨kvs,k,e,ey,l⟩ | ⟨kvs,k,b,e,ey,eb,l⟩
 ·subst ey;obtain ⟨z,hd,vs,rel,dd⟩:=Qm I.hok e;refine wpAny_notIn_of (yu ry) hd dd.mapOf ?_;rw [<- (rel.val k).isSome_eq,<- l];exact h _ (I.tok _)
 ·subst ey;cases (show u=Value.ref b from ry);obtain ⟨z,hd,xs,rel,dd⟩:=V1 I.hok e;refine wpAny_notIn_heap (tupleKind_room_in1 hu) (Z5 I.hok eb) hd dd ?_;have q:=(rel.val k).isSome_eq;rw [Y2n] at q;rw [<- q,<- l];exact h _ (I.tok _)
theorem V3 {h':Heap}{t':Nat}{ob:HO}(I:110)(mu:Mut (H a))(hs:Heap.SameBut a s.heap h')(he:∃ q,h'.get? a=some q)(new:ObjOk X.prog X.w (upd H a ob) h' a ob) :
  Inv X pins σ (upd H a ob) { s with heap:=h',toks:=t' } :=
 I.write (x:=a) (e:=a) mu (.inl rfl) (λ b q hb z=>(hs.2 b hb).trans z) he new
theorem OC {P:156}{w:World}{H':Hp}{h':Heap}{kvs:152}{vs:List (Key×Value)}(z:kvs.length<=sizeLine)(hd:(a==sysModules)=false)(rel:KV kvs vs)(dd:h'.DictOf (zt P w) a vs) :
  ObjOk P w H' h' a 192:=⟨z,hd,vs,rel,dd⟩
theorem Gm {H':Hp}{Q:Unit->Shared->Prop}(hu:A.units+1<cLine)(I:110)(g:DPut H a y v H')(ry:RelV y u)(rv:RelV v r)(h:∀ s',Inv X pins σ H' s'->Q () s') :
  wpAny 116 A (setItem 155 u r) Q E s:=by
 rcases g with ⟨kvs,k,e,ey,l,eH⟩ | ⟨kvs,k,b,e,ey,eb,l,eH⟩
 ·subst ey eH;obtain ⟨z,hd,vs,rel,dd⟩:=Qn I.hok e;have hz:vs.length<=sizeLine:=by rw [<- rel.length];exact z
  have hl:(wq kvs k v).length<=sizeLine:=by have:=wO kvs k v;omega
  refine wpAny_setItem_pairs (hsz:=hz) (yu ry) dd λ h' dd' hs=>h _ ?_;have he:∃ q,h'.get? a=some q:=let ⟨q,_,_,hq,_⟩:=dd';⟨q,hq⟩;exact V3 I (by rw [e];exact True.intro) hs he (OC hl hd (rel.put k rv) dd')
 ·subst ey eH;cases (show u=Value.ref b from ry);obtain ⟨z,hd,xs,rel,dd⟩:=z44 I.hok e;have hz:xs.length<=sizeLine:=by rw [<- Paired.length rel];exact z
  have hl:(wq kvs k v).length<=sizeLine:=by have:=wO kvs k v;omega
  refine wpAny_setItem_heap (hsz:=hz) (tupleKind_room_in1 hu) (Z5 I.hok eb) dd λ h' dd' hs=>h _ ?_;obtain ⟨q,es,ep,hq,h2,h3,h4,_,h5⟩:=dd';refine V3 I (by rw [e];exact True.intro) hs ⟨q,hq⟩ ⟨hl,hd,_,(rel.put k eb rv).keeps λ c ys ec=>?_,q,es,ep,hq,h2,h3,h4,h5⟩;rw [zl (z7t ec e (λ z=>nomatch z))];exact ec
end
theorem OD {P:156}{w:World}{H:Hp}(h:Heap)(hb:sysModules<h.objs.size):ObjOk P w H (h.push { cls:=.type "dict",data:=.dict #[] }) h.objs.size (.dK []) :=
 ⟨Y1h _,beq_eq_false_iff_ne.mpr (Ne.symm (Y0i hb)),[],.nil,Heap.DictOf.new h⟩
def z5w:TE:=λ _ H Q=>∀ p,H p=none->Q (.ref p) (upd H p (.dK []))
section
variable {X:Cx}{pos:Pos}
theorem OE:PE X (.Dict [] [] pos) z5w:=λ pins s σ H Q I h =>
 wpAny_Dict_empty ⟨.ref s.heap.objs.size,_,I.laid (a:=s.heap.objs.size) (o:=.dK []) (t':=s.toks) (λ _ _ q=>Y02 _ q) 169 (OD s.heap I.big),rfl,h _ (I.hok.fresh 169)⟩
end
def YI:List (TE×TE)->St->Hp->(List (V×V)->Hp->Prop)->Prop
 | [],_,H,Q=>Q [] H
 | (tk,tv)::r,σ,H,Q=>tk σ H λ x H1=>tv σ H1 λ y H2=>YI r σ H2 λ ps H3=>Q ((x,y)::ps) H3
abbrev VV:List (V×V)->List (Value×Value)->Prop:=Paired λ p q=>RelV p.1 q.1/\RelV p.2 q.2
def PPs (X:Cx)(pos:Pos)(keys:List (Option Expr))(values:List Expr)(trs:List (TE×TE)):Prop :=
 ∀ (pins:115) (s:130) (σ:St) (H:Hp) (Q:List (V×V)->Hp->Prop),Inv X pins σ H s->YI trs σ H Q ->
  wpAny 116 X.A (evalPairs (pairTrees keys values X.env pos)) (λ vs s'=>∃ ps H',Inv X pins σ H' s'/\VV ps vs/\Q ps H') X.xe s
theorem z1m {X:Cx}{pos:Pos}:PPs X pos [] [] []:=λ pins s σ H Q I h=>pairTrees_nil_walk ⟨[],H,I,.nil,h⟩
theorem OF {X:Cx}{pos:Pos}{k v:Expr}{ks:List (Option Expr)}{vs:List Expr}{tk tv:TE}{trs:List (TE×TE)}(hk:PE X k tk)(hv:PE X v tv)(hr:PPs X pos ks vs trs) :
  PPs X pos (some k::ks) (v::vs) ((tk,tv)::trs):=λ pins s σ H Q I h =>
 pairTrees_cons_walk (thn (hk pins s σ H _ I h) λ u s1 ⟨x,H1,I1,rx,q1⟩=>thn (hv pins s1 σ H1 _ I1 q1) λ w2 s2 ⟨y,H2,I2,ry,q2⟩ =>
  thn (hr pins s2 σ H2 _ I2 q2) λ ws s3 ⟨ps,H3,I3,rel,q3⟩=>⟨(x,y)::ps,H3,I3,.cons ⟨rx,ry⟩ rel,q3⟩)
def yc (kvs more:152):List (Key×V):=more.foldl (λ acc kv=>wq acc kv.1 kv.2) kvs
theorem KV.merge:∀ {more:152}{rs:List (Key×Value)}{kvs:152}{vs:List (Key×Value)},KV more rs->KV kvs vs->KV (yc kvs more) (merged vs rs):=by
 intro more rs kvs vs r;unfold KV at r
 induction r generalizing kvs vs with
 | nil=>intro q;exact q
 | @cons p q ps qs h t ih =>
  intro r0;have e:KV (wq kvs p.1 p.2) (stored vs q.1 q.2):=by
   have:=r0.put p.1 h.2
   rw [<- h.1];exact this
  exact ih e
theorem qm:∀ (more kvs:152),(yc kvs more).length<=kvs.length+more.length
 | [],kvs=>by show kvs.length<=kvs.length+0;omega
 | p::r,kvs=>by
  have h1:=qm r (wq kvs p.1 p.2);have h2:=wO kvs p.1 p.2;show (yc (wq kvs p.1 p.2) r).length<=_;rw [Y08];omega
structure M1 (X:Cx)(o:Expr)(m:Str)(apos:Pos)(e:Expr)(cpos:Pos):Prop where
 base:attributeBase o m X.env (eval o X.env)=eval o X.env
 few:((backTo cpos (starEach [e] X.env)).all (λ x=>!x.1)&&(backToKw cpos (keywordEach [] X.env)).all (λ x=>x.1.isSome)
  && decide (([e]:List Expr).length+([]:List Keyword).length+(if ([]:List Keyword).isEmpty then 0 else 1)<30))=true
 line:(apos.endLine==cpos.line)=true
 trees:backTo cpos (starEach [e] X.env)=[(false,eval e X.env)]
structure M2 (X:Cx)(o:Expr)(m:Str)(apos:Pos)(e f:Expr)(cpos:Pos):Prop where
 base:attributeBase o m X.env (eval o X.env)=eval o X.env
 few:((backTo cpos (starEach [e,f] X.env)).all (λ x=>!x.1)&&(backToKw cpos (keywordEach [] X.env)).all (λ x=>x.1.isSome)
  && decide (([e,f]:List Expr).length+([]:List Keyword).length+(if ([]:List Keyword).isEmpty then 0 else 1)<30))=true
 line:(apos.endLine==cpos.line)=true
 trees:backTo cpos (starEach [e,f] X.env)=[(false,eval e X.env),(false,eval f X.env)]
end L2
namespace L2
open PySem PyProof.Rows
open Sem (wp)
end L2
namespace L2
open PySem PySem.Spec PyProof.Rows
def Fl (h:Heap)(a:Addr)(C:Value)(T:166):Prop :=
 ∃ oe vs a0,h.get? a=some oe/\oe.cls=C/\oe.data=.fields vs/\vs[0]?=some a0/\1<vs.size /\
  (match T with
  | none=>vs[1]?=some Value.none
  | some t=>vs[1]?=some (Value.ref t)/\t≠a/\∃ oT ts,h.get? t=some oT/\oT.data=.fields ts/\3<ts.size)
theorem J0 {e1 e2:Env}(h:e1.frame=e2.frame):PySem.frameOf e1=PySem.frameOf e2:=by
 unfold PySem.frameOf;rw [h]
theorem yE {e:Value}{e1 e2:Env}(h:e1.frame=e2.frame):noteFrame e e1=noteFrame e e2:=by
 unfold noteFrame;rw [h,J0 h]
structure Wr (l fs:XV)(h h':Heap):Prop where
 keep:∀ b o,b∉l->b∉fs->h.get? b=some o->h'.get? b=some o
 slot:∀ b o,b∉l->b∈fs->h.get? b=some o->∃ sl,h'.get? b=some { o with slots:=sl }
theorem Wr.any {l fs:XV}{h h':Heap}(W:Wr l fs h h'){b:Addr}{o:Obj}(hb:b∉l)(e:h.get? b=some o):∃ sl,h'.get? b=some { o with slots:=sl }:=by
 by_cases hf:b∈fs
 ·exact W.slot b o hb hf e
 ·exact ⟨o.slots,W.keep b o hb hf e⟩
theorem ObjOk.there {P:156}{w:World}{H:Hp}{h:Heap}{a:Addr}{o:HO}(x:ObjOk P w H h a o):∃ ob,h.get? a=some ob:=by
 cases o with
 | lst xs=>obtain ⟨_,_,_,_,e⟩:=x;exact ⟨_,e⟩
 | tup xs=>obtain ⟨_,_,_,ob,e,_⟩:=x;exact ⟨_,e⟩
 | dK kvs=>obtain ⟨_,_,_,_,o,_,_,e,_⟩:=x;exact ⟨_,e⟩
 | dT kvs=>obtain ⟨_,_,_,_,o,_,_,e,_⟩:=x;exact ⟨_,e⟩
 | set S n=>obtain ⟨o,_,_,_,e,_⟩:=x;exact ⟨_,e⟩
 | ins C dx fs=>obtain ⟨_,_,_,e,_⟩:=x;exact ⟨_,e⟩
 | own y=>obtain ⟨_,e⟩:=x;exact ⟨_,e⟩
 | xd fs=>obtain ⟨_,⟨_,_,_,e,_⟩,_⟩:=x;exact ⟨_,e⟩
 | rng lo hi=>obtain ⟨_,_,_,e⟩:=x;exact ⟨_,e⟩
 | frz ob u=>obtain ⟨e,_⟩:=x;exact ⟨_,e⟩
 | tbl ps=>exact ⟨_,(show h.get? a=some _ from x)⟩
 | met f y=>exact ⟨_,(show h.get? a=some _ from x)⟩
 | ext φ=>obtain ⟨_,⟨_,e⟩,_⟩:=x;exact ⟨_,e⟩
section
variable {M:Model}{A:Around}{E:XU}{s:130}{base:Heap}{env top:Env}{outer:List Env}{L a:Addr}{C:Value}{T:166}
theorem OG {Q:Unit->Shared->Prop}(hfr:A.frames=some (top::outer))(ht:top.frame=some L)(hf:env.frame=some L)(hl:s.heap.FunFrames base (top::outer))(fl:Fl s.heap a C T)
    (h:∀ h' T',Wr (a::T.toList) (frs (top::outer)) s.heap h'->Fl h' a C (some T')->(T=some T'\/s.heap.get? T'=none)->Q () { s with heap:=h' }) :
    wpAny M A (noteFrame 155 env) Q E s:=by
  rw [yE (e1:=env) (e2:=top) (hf.trans ht.symm)];have fl0:=fl;obtain ⟨oe,vs,a0,he,hc,hd,h0,hsz,hT⟩:=fl;subst hc;generalize hB:PySem.W.hideAll s.heap (a::(T.toList++frs (top::outer)))=B;have hkb:B.StaysIn s.heap:=λ b o e=>by rw [<- hB] at e;exact PySem.W.of_hideAll _ e
  have hen:B.get? a=none:=by rw [<- hB];exact Y3k _ (Y05 ..)
  have hl':s.heap.FunFrames B (top::outer):=by
    rw [<- hB];refine PySem.W.funFrames_hide hl λ env' he' b hb=>?_;exact Y03 _ (Y0o _ (Y1m.mpr ⟨env',he',hb⟩))
  have nf:∀ b,b∈frs (top::outer)->∀ o,s.heap.get? b=some o->∀ vs,o.data≠.fields vs:=λ b hb o e=>by
    obtain ⟨_,o',ho',hnf⟩:=hl.mem hb;rw [e] at ho';cases ho';exact hnf
  have unhid:∀ b o,b∉a::T.toList->b∉frs (top::outer)->s.heap.get? b=some o->B.get? b=some o:=λ b o hb hfb e=>by
    rw [<- hB];refine PySem.W.hideAll_get _ e λ z=>?_;rcases Y06.mp z with z | z
    · exact hb (z▸Y05 ..)
    · rcases Y0r.mp z with z | z
      · exact hb (Y03 _ z)
      · exact hfb z
  have fin:∀ h',Heap.NotedW B (top::outer) a oe.cls a0 (rawInt L) s.heap h'->Q () { s with heap:=h' }:=λ h' hN=>by
    obtain ⟨n1,n2,⟨oe',vs',T',oT',ts',g1,⟨g2,g3⟩,g4,g5,g6,g7,g8,g9,g10⟩,n4⟩:=hN;have slot:∀ b o,b∈frs (top::outer)->s.heap.get? b=some o->∃ sl,h'.get? b=some { o with slots:=sl }:=λ b o hb e=>n4 b o e (nf b hb o e);refine h h' T' ⟨λ b o hb hfb e=>n1 b o (unhid b o hb hfb e),λ b o _ hb e=>slot b o hb e⟩ ⟨oe',vs',a0,g1,g2,g4,g3,(Array.getElem?_eq_some_iff.mp g5).1,g5,g7,oT',ts',g8,g9,(Array.getElem?_eq_some_iff.mp g10).1⟩ ?_;by_cases q1:T'∈a::T.toList
    · rcases Y06.mp q1 with z | z
      · exact absurd z g7
      · left;cases T with
        | none=>simp at z
        | some t => have z' : T' = t := by simpa using z
                    rw [z']
    · right;cases e:s.heap.get? T' with
      | none=>rfl
      | some o =>
        exfalso
        by_cases q2:T'∈frs (top::outer)
        · obtain ⟨sl,q⟩:=slot T' o q2 e;rw [g8] at q;have q':oT'={ o with slots:=sl }:=Option.some.inj q;rw [q'] at g9;exact nf T' q2 o e _ g9
        · have:=unhid T' o q1 q2 e
          rw [g6] at this;cases this
  cases T with
  | none =>
    unfold noteFrame;simp only [ht];refine wpAny_bind (wpAny_field he hd hT ?_);rw [if_neg 108];exact wpAny_entryW hfr hl' ht he hkb hen hd hsz h0 fin
  | some t =>
    obtain ⟨h1,hta,oT,ts,hoT,hdT,hs3⟩:=hT;obtain ⟨fl3,h3⟩:∃ v,ts[3]?=some v:=⟨ts[3],by simp [hs3]⟩;have hnT:B.get? t=none:=by rw [<- hB];exact Y3k _ 111
    unfold noteFrame;simp only [ht];refine wpAny_bind (wpAny_field he hd h1 ?_);rw [if_pos (show (Value.ref t != Value.none)=true from by simp)];refine wpAny_bind (wpAny_field hoT hdT h3 ?_);by_cases hfl:(fl3==rawInt L)=true
    · rw [if_pos hfl];exact wpAny_pure (h s.heap t ⟨λ b o _ _ e=>e,λ b o _ _ e=>⟨o.slots,e⟩⟩ fl0 (.inl rfl))
    · rw [if_neg hfl];refine wpAny_bind (wpAny_setField hoT hdT hs3 ?_);have other:∀ b,b≠t->(s.heap.update t (Obj.mapFields (·.setIfInBounds 3 Value.none))).get? b=s.heap.get? b:=λ b hb=>Y19 _ _ (Ne.symm hb);have noRecord:∀ b o,s.heap.get? b=some o->(∀ vs,o.data≠.fields vs)->b≠t:=λ b o hb hnf q=>by
        rw [q,hoT] at hb;injection hb with hb;subst hb;exact hnf ts hdT
      refine wpAny_entryW hfr (hl'.of_keeps λ b o hb hnf=>⟨o,(other b (noRecord b o hb hnf)).trans hb,rfl⟩) ht ((other a (Ne.symm hta)).trans he)
        (λ b o hbo=>(other b λ q=>by rw [q,hnT] at hbo;cases hbo).trans (hkb b o hbo)) hen hd hsz h0 ?_
      rintro h' ⟨x1,x2,x3,x4⟩
      exact fin h' ⟨x1,x2,x3,λ b o hb hnf=>x4 b o ((other b (noRecord b o hb hnf)).trans hb) hnf⟩
theorem YJ {t:Addr}{f:166}{Q:Unit->Shared->Prop}(fl:Fl s.heap a C (some t))
  (h:∀ h',Heap.SameBut t s.heap h'->Fl h' a C (some t)->Q () { s with heap:=h' }):wpAny M A (setFlight 155 f) Q E s:=by
 obtain ⟨oe,vs,a0,he,hc,hd,h0,hsz,h1,hta,oT,ts,hoT,hdT,hs3⟩:=fl;unfold setFlight;refine wpAny_bind (wpAny_field he hd h1 ?_);rw [if_pos (show (Value.ref t != Value.none)=true from by simp)];refine wpAny_setField hoT hdT hs3 (h _ (Heap.SameBut.update ..) ?_);have hdT':=Obj.data_mapFields hdT (·.setIfInBounds 3 (f.elim Value.none λ f=>rawInt f));refine ⟨oe,vs,a0,(Y19 _ _ hta).trans he,hc,hd,h0,hsz,h1,hta,_,_,Y1f _ hoT (Obj.isFreed_of_fields hdT'),hdT',?_⟩;simpa using hs3
theorem Z6 {t:Addr}{Q:XU}(fl:Fl s.heap a C (some t))(h:Q (.ref t) s):wpAny M A (field 155 1) Q E s:=by
 obtain ⟨oe,vs,a0,he,hc,hd,h0,hsz,h1,_⟩:=fl;exact wpAny_field he hd h1 h
end
theorem Fl.at {h h':Heap}{a:Addr}{C:Value}{T:166}(fl:Fl h a C T)(k:∀ b∈a::T.toList,∀ o,h.get? b=some o->h'.get? b=some o):Fl h' a C T:=by
 obtain ⟨oe,vs,a0,he,hc,hd,h0,hsz,hT⟩:=fl;refine ⟨oe,vs,a0,k a 111 _ he,hc,hd,h0,hsz,?_⟩;cases T with
 | none=>exact hT
 | some t =>
  obtain ⟨h1,hta,oT,ts,hoT,r⟩:=hT;exact ⟨h1,hta,oT,ts,k t 111 _ hoT,r⟩
theorem Fl.rec {h:Heap}{a:Addr}{C:Value}{T:166}(fl:Fl h a C T):∀ b∈a::T.toList,∃ o vs,h.get? b=some o/\o.data=.fields vs:=by
 obtain ⟨oe,vs,a0,he,hc,hd,h0,hsz,hT⟩:=fl;intro b hb;rcases Y06.mp hb with rfl | hb
 ·exact ⟨oe,vs,he,hd⟩
 ·cases T with
  | none=>simp at hb
  | some t =>
   have e:b=t:=by simpa using hb
   subst e;obtain ⟨h1,hta,oT,ts,hoT,hdT,_⟩:=hT;exact ⟨oT,ts,hoT,hdT⟩
def Ow (X:Cx)(pins:115)(H:Hp)(b:Addr):Prop:=H b=none/\X.s₀.heap.get? b=none/\b∉X.ex/\∀ p∈X.pn++pins,p.1≠b
structure XOk (X:Cx):Prop where
 top:∃ top outer L,X.stack=top::outer/\top.frame=some L/\X.env.frame=some L
 ex:∀ b∈X.ex,∃ o,(b,o)∈X.pn
structure Fly (X:Cx)(pins:115)(H:Hp)(h:Heap)(a:Addr)(C:Value)(T:166):Prop where
 fl:Fl h a C T
 ow:∀ b∈a::T.toList,Ow X pins H b
section
variable {X:Cx}{pins:115}{σ:List (Option V)}{H H':Hp}{s:130}{h':Heap}
theorem Inv.ow (ok:XOk X)(I:110)(hH:H'=H\/True){b:Addr}(n:s.heap.get? b=none)(hn:H' b=none):Ow X pins H' b:=by
 have nx:b∉X.ex:=λ z=>by
  obtain ⟨o,ho⟩:=ok.ex b z
  have:=(I.pin (b,o) (Y0w _ ho)).1
  rw [n] at this;cases this
 refine ⟨hn,?_,nx,λ p hp e=>?_⟩
 ·cases q:X.s₀.heap.get? b with
  | none=>rfl
  | some o =>
   obtain ⟨o',e⟩:=I.base.there b o q nx;rw [n] at e;cases e
 ·have:=(I.pin p hp).1
  rw [e,n] at this;cases this
theorem Inv.untracked (I:110){b:Addr}(n:s.heap.get? b=none):H b=none:=by
 cases q:H b with
 | none=>rfl
 | some o =>
  obtain ⟨ob,e⟩:=(I.hok b o q).there;rw [n] at e;cases e
theorem Inv.wrote {l:XV}(I:110)(W:Wr l (frs X.stack) s.heap h')(ow:∀ b∈l,Ow X pins H b)(rec:∀ b∈l,∃ o vs,s.heap.get? b=some o/\o.data=.fields vs) :
  Inv X pins σ H { s with heap:=h' }:=by
 have lL:X.env.locals∉l:=λ z=>by
  obtain ⟨o,vs,e,d⟩:=rec _ z;obtain ⟨m,⟨o',es,ep,ho',hd',_⟩,_⟩:=I.loc;rw [e] at ho';cases ho';rw [d] at hd';cases hd'
 have cL:∀ x c,X.env.cells.lookup x=some c->c∉l:=λ x c e z=>by
  obtain ⟨o,vs,e1,d⟩:=rec _ z;obtain ⟨v,o',ho',hd'⟩:=I.cell x c e;rw [e1] at ho';cases ho';rw [d] at hd';cases hd'
 have sL:∀ b o,X.s₀.heap.get? b=some o->b∉l:=λ b o e z=>by rw [(ow b z).2.1] at e;cases e
 have tL:∀ b o,H b=some o->b∉l:=λ b o e z=>by rw [(ow b z).1] at e;cases e
 have nL:∀ m,s.heap.Ns X.env.locals m->h'.Ns X.env.locals m:=λ m hm=>by
  obtain ⟨o,es,ep,ho,hd,r⟩:=hm;obtain ⟨sl,q⟩:=W.any lL ho;exact ⟨_,es,ep,q,hd,r⟩
 have cell:∀ x c,X.env.cells.lookup x=some c->∀ v,s.heap.IsCell c v->h'.IsCell c v:=λ x c e v ⟨o,ho,hd⟩=>by
  obtain ⟨sl,q⟩:=W.any (cL x c e) ho;exact ⟨_,q,hd⟩
 have fs0:∀ b,b≠X.env.locals->b∉X.fs->b∉frs X.stack:=λ b h1 h2 z=>(Y06.mp (I.stkSub b z)).elim h1 h2;have old:∀ b o,X.s₀.heap.get? b=some o->b≠X.env.locals:=λ b o e=>Y0i (Y0t (Y0f e) I.ok.above);refine ⟨I.ok,I.os,I.bare,⟨λ b o e n hb hx=>?_,λ b o e n hb hx=>?_,I.base.free,λ b o e hx=>?_,I.base.tups,I.base.frzs,I.base.tbls⟩,?_,λ x c e=>?_,I.free,I.freeC,λ p hp=>?_,λ b u e=>?_,I.len⟩
 ·exact W.keep b o (sL b o e) (fs0 b (old b o e) hb) (I.base.keep b o e n hb hx)
 ·obtain ⟨sl,e1⟩:=I.base.slot b o e n hb hx;obtain ⟨sl',e2⟩:=W.any (sL b o e) e1;exact ⟨sl',e2⟩
 ·obtain ⟨o',e1⟩:=I.base.there b o e hx;obtain ⟨sl,e2⟩:=W.any (sL b o e) e1;exact ⟨_,e2⟩
 ·obtain ⟨m,hn,hl⟩:=I.loc;refine ⟨m,nL m hn,λ i x v e1 e2 e3=>?_⟩;obtain ⟨u,r,q⟩:=hl i x v e1 e2 e3;refine ⟨u,r,?_⟩;rcases q with q | ⟨k,c,e,z⟩
  ·exact .inl q
  ·exact .inr ⟨k,c,e,cell x c e _ z⟩
 ·obtain ⟨v,z⟩:=I.cell x c e;exact ⟨v,cell x c e v z⟩
 ·obtain ⟨e,n,ne,nf,d⟩:=I.pin p hp;exact ⟨W.keep p.1 p.2 (λ z=>(ow p.1 z).2.2.2 p hp rfl) (fs0 p.1 ne nf) e,n,ne,nf,d⟩
 ·refine (I.hok b u e).stay (λ c v hc q=>?_) (λ _ q=>q) λ _ _ q=>q;have hc':∃ u,H c=some u:=hc.elim (λ z=>⟨u,z▸e⟩) λ z=>⟨_,z⟩;obtain ⟨u',e'⟩:=hc';exact W.keep c v (tL c u' e') (λ z=>by rw [I.stkFree c z] at e';cases e') q
variable {M:Model}{A:Around}{E:XU}{a:Addr}{C:Value}{T:166}{env:Env}
theorem Inv.note {Q:Unit->Shared->Prop}(ok:XOk X)(I:110)(F:Fly X pins H s.heap a C T)(hfr:A.frames=some X.stack)(hen:env.frame=X.env.frame)
  (h:∀ h' T',Inv X pins σ H { s with heap:=h' }->Fly X pins H h' a C (some T')->Q () { s with heap:=h' }):wpAny M A (noteFrame 155 env) Q E s:=by
 obtain ⟨top,outer,L,e1,e2,e3⟩:=ok.top;have hst:=I.stack;rw [e1] at hfr hst;refine OG hfr e2 (hen.trans e3) hst F.fl λ h' T' W fl' new=>?_;rw [<- e1] at W;refine h h' T' (I.wrote W F.ow F.fl.rec) ⟨fl',λ b hb=>?_⟩;rcases Y06.mp hb with rfl | hb
 ·exact F.ow _ (Y05 ..)
 ·have e:b=T':=by simpa using hb
  subst e;rcases new with q | q
  ·exact F.ow _ (by rw [q];simp)
  ·exact I.ow ok (.inr trivial) q (I.untracked q)
theorem Inv.flight {t:Addr}{f:166}{Q:Unit->Shared->Prop}(I:110)(F:Fly X pins H s.heap a C (some t))
  (h:∀ h',Inv X pins σ H { s with heap:=h' }->Fly X pins H h' a C (some t)->Q () { s with heap:=h' }):wpAny M A (setFlight 155 f) Q E s:=by
 refine YJ F.fl λ h' sb fl'=>h h' (I.wrote (l:=[a,t]) ⟨λ b o hb _ e=>(sb.2 b λ z=>hb (by simp [z])).trans e,λ b o hb _ e=>⟨o.slots,(sb.2 b λ z=>hb (by simp [z])).trans e⟩⟩ (λ b hb=>F.ow b (by simpa using hb)) λ b hb=>F.fl.rec b (by simpa using hb)) ⟨fl',F.ow⟩
theorem Inv.passOn {α:Type}{t:Addr}{what:String}{Q:α->Shared->Prop}(I:110)(F:Fly X pins H s.heap a C (some t))
  (h:∀ h',Inv X pins σ H { s with heap:=h' }->Fly X pins H h' a C (some t)->E 155 { s with heap:=h' }):wpAny M A (passOn what 155 env:Sem α) Q E s:=by
 unfold PySem.passOn;refine wpAny_bind (Z6 F.fl ?_);rw [if_neg (show ¬ ((Value.ref t==Value.none)=true) from by simp)];exact wpAny_bind (I.flight F λ h' I' F'=>wpAny_throw (h h' I' F'))
theorem Inv.cameBack {t:Addr}(I:110)(F:Fly X pins H s.heap a C (some t))
  (h:∀ h',Inv X pins σ H { s with heap:=h' }->Fly X pins H h' a C (some t)->E 155 { s with heap:=h' }):cameBackBy M A env E 155 s:=by
 unfold cameBackBy;refine wpAny_bind (Z6 F.fl ?_);rw [if_neg (show ¬ ((Value.ref t==Value.none)=true) from by simp)];exact I.flight F λ h' I' F'=>h h' I' F'
end
abbrev ZK:=St->Value->Hp->Prop
def XE (X:Cx)(Z:ZK)(e:Value)(s':130):Prop:=∃ a C T σ' H',e=.ref a/\Inv X [] σ' H' s'/\Fly X [] H' s'.heap a C T/\Z σ' C H'
structure Thr (X:Cx)(Z:ZK):Prop extends XOk X where
 thr:∀ e s',XE X Z e s'->X.xe e s'
def CXs (P:156)(w:World):CXT:=λ outer H s E e s'=>∃ a C t H',e=.ref a/\s'.os=s.os/\AllBare s'.gens/\Un (frs outer) [] H H' s.heap s'.heap/\HOk P w H' s'.heap /\
 Fl s'.heap a C (some t)/\(∀ b∈[a,t],H' b=none/\s.heap.get? b=none)/\E C none H'
theorem z1n {P:156}{w:World}{K:Y00}{mg:XJ}{base:Heap}{N:XQ}{qual:Str}{scope:Scope}{f:Addr}{cd:Value}{A:Around}{outer:List Env}{s:130}{H:Hp}{E:XK} :
  Thr (W5 (CXs P w) P w K mg base N qual scope f cd A outer s H E) (λ _ C H'=>E C none H') where
 top:=⟨_,_,_,rfl,rfl,rfl⟩
 ex:=λ b hb=>absurd (show b∈([]:List Addr) from hb) 111
 thr:=by
  rintro e s' ⟨a,C,T,σ',H',rfl,I,F,z⟩
  have ok:XOk (W5 (CXs P w) P w K mg base N qual scope f cd A outer s H E):=⟨⟨_,_,_,rfl,rfl,rfl⟩,λ b hb=>absurd (show b∈([]:List Addr) from hb) 111⟩;show wpAny (model P w) (A.deeper (envOfC qual scope s.heap.objs.size f cd)) (leaving (envOfC qual scope s.heap.objs.size f cd) 155) _ _ s';unfold leaving;refine wpAny_bind (I.note ok F I.ok.frames rfl λ h1 t I1 F1=>?_);refine I1.flight F1 λ h2 I2 F2=>?_;exact ⟨a,C,t,H',rfl,I2.os,I2.bare,I2.base,I2.hok,F2.fl,λ b hb=>⟨(F2.ow b (by simpa using hb)).1,(F2.ow b (by simpa using hb)).2.1⟩,z⟩
section
variable {X:Cx}{pins:115}{σ:St}{H:Hp}{s s':130}
theorem Inv.thrown {E:XK}{e:Value}(ok:XOk X)(I:110)(h:CXs X.prog X.w X.stack H s E e s'):∃ a C t H',e=.ref a/\Inv X pins σ H' s'/\Fly X pins H' s'.heap a C (some t)/\E C none H':=by
 obtain ⟨a,C,t,H',rfl,ho,hg,u,hok,fl,ow,q⟩:=h;have I':Inv X pins σ H' s':=I.call' (ch:=[]) ho u hok hg λ b hb=>absurd hb 111;refine ⟨a,C,t,H',rfl,I',⟨fl,λ b hb=>?_⟩,q⟩;obtain ⟨o1,o2⟩:=ow b (by simpa using hb);exact I.ow ok (.inr trivial) o2 o1
theorem Inv.nopins (I:110):Inv X [] σ H s:=I.pins_of λ p hp=>absurd hp 111
theorem Fly.nopins {h:Heap}{a:Addr}{C:Value}{T:166}(F:Fly X pins H h a C T):Fly X [] H h a C T :=
 ⟨F.fl,λ b hb=>⟨(F.ow b hb).1,(F.ow b hb).2.1,(F.ow b hb).2.2.1,λ p hp=>(F.ow b hb).2.2.2 p (by simp at hp;exact Y0w _ hp)⟩⟩
theorem Thr.go {Z:ZK}(th:Thr X Z){a:Addr}{C:Value}{T:166}(I:110)(F:Fly X pins H s.heap a C T)(z:Z σ C H):X.xe 155 s :=
 th.thr _ _ ⟨a,C,T,σ,H,rfl,I.nopins,F.nopins,z⟩
end
def YK (sp:Sp)(dvs:157)(Z:ZK)(t:TA):TE:=λ σ H Q=>t σ H λ vs H1=>sp (vs++dvs) H1 Q (λ C _ H'=>Z σ C H')
section
variable {X:Cx}{k:Nat}{f C:Addr}{fd:FuncData}{ps:XQ}{sp:Sp}{dvs:157}{ds:XW}{Z:ZK}{x m:Str}{p pos apos:Pos}{e o:Expr}{es:List Expr}{ta:TE}{t:TA}
theorem z1o {pins:115}{σ:St}{H:Hp}{s:130}{Q:VK}{us:XW}{vs:157}(F:202)(hr:Room k X.A)(hb:Binds X.K fd ps ds)(hd:Vals dvs ds)(th:Thr X Z)
  (I:110) (r:Vals vs us) (h:sp (vs++dvs) H Q (λ C _ H'=>Z σ C H')):wpAny 116 X.A (call (.ref f) us) (EP X pins σ Q) X.xe s:=by
 have r2:Vals (vs++dvs) (us++ds):=r.append hd;have hl:(us++ds).length=ps.length:=by rw [<- r2.length];exact F.len _ _ _ _ h
 refine wpAny_call (codeAny_mono (F.run X.A X.stack s H ⟨us,[]⟩ (us++ds) (vs++dvs) Q _ hr I.env0 (hb s us I.kIn hl) r2 h) λ r s' hq=>?_);cases r with
 | error e =>
  have hq':CXs X.prog X.w X.stack H s (λ C _ H'=>Z σ C H') e s':=hq;obtain ⟨a,C,t,H',rfl,I',F',z⟩:=I.thrown th.toXOk hq';exact th.go I' F' z
 | ok fl =>
  cases fl with
  | ret u=>exact I.after hq
  | next=>exact False.elim hq
  | brk=>exact False.elim hq
  | cont=>exact False.elim hq
theorem Qp (F:202)(hr:Room k X.A)(hg:Gl X x)(hm:X.mg x=some (.ref f))(hk:PySem.W.keepIn X.K (.ref f)=true)(hb:Binds X.K fd ps ds)(hd:Vals dvs ds)(th:Thr X Z)
  (ha:PA X (e::es) t) (hdb:143=false:=by decide) (he:starEach (e::es) X.env=(false,eval e X.env)::starEach es X.env:=by rfl) (hpl:(backTo pos (starEach es X.env)).any (·.1)=false:=by rfl) :
  PE X (.Call (.Name x p) (e::es) [] pos) (YK sp dvs Z t):=by
 intro pins s σ H Q I h;refine wpAny_Call_Name_kw (W0 I hg hm ?_ hdb);refine PySem.W.callWith_K (h₀:=X.base) I.ok.mod.kin hk (thn (ha pos pins s σ H _ I h) λ us s1 ⟨vs,H1,I1,r,q⟩=>⟨I1.kIn,?_⟩) he hpl;exact z1o F hr hb hd th I1 r q
end
def J2 (env:Env):List (Str×NameKind)->List (Str×Addr)->List (Str×Addr)
 | [],cs=>cs
 | (n,k)::r,cs=>J2 env r (if k==.free then (n,(env.cells.lookup n).getD 0)::cs else cs)
def Qq (scope:Scope)(env:Env):List (Str×Addr):=J2 env scope.names []
theorem Z7 {scope:Scope}{env:Env}(h:∀ y∈scope.names,y.2=.free->∃ c,env.cells.lookup y.1=some c):closureFor scope env=pure (Qq scope env):=by
 unfold closureFor Qq;have go:∀ (l:List (Str×NameKind)) (cs:List (Str×Addr)),(∀ y∈l,y.2=.free->∃ c,env.cells.lookup y.1=some c) ->
   (forIn l cs λ (x:Str×NameKind) (r:List (Str×Addr))=>(match x with
    | (name,kind)=>if (kind==NameKind.free)=true then (do let a <- cellOf env name;pure (ForInStep.yield ((name,a)::r))) else (pure (ForInStep.yield r)):Sem (ForInStep (List (Str×Addr)))))=(pure (J2 env l cs):Sem (List (Str×Addr))):=by
  intro l
  induction l with
  | nil=>intro cs _;rfl
  | cons y r ih =>
   intro cs hl;obtain ⟨n,k⟩:=y;rw [List.forIn_cons];by_cases hk:(k==NameKind.free)=true
   ·obtain ⟨c,hc⟩:=hl (n,k) (Y05 ..) (by simpa using hk);have e:cellOf env n=pure c:=by unfold cellOf;rw [hc]
    simp only [hk,if_true,e,pure_bind,J2,hc,Y3c];exact ih _ λ y hy=>hl y (Y03 _ hy)
   ·simp only [hk,if_false,pure_bind,J2,Y31];exact ih _ λ y hy=>hl y (Y03 _ hy)
 have:=go scope.names [] h
 first
  | (rw [this];rfl)
  | (simp only [bind_pure_comp] at this ⊢;rw [this];rfl)
  | (simp only [bind_pure_comp] at this ⊢;rw [this];simp)
theorem Qr {env:Env}:∀ {l:List (Str×NameKind)}{cs:List (Str×Addr)}{x:Str}{c:Addr},(∀ y∈l,y.2=.free->∃ c,env.cells.lookup y.1=some c)->(x,c)∈J2 env l cs->(x,c)∈cs\/env.cells.lookup x=some c
 | [],_,_,_,_,h=>.inl h
 | (n,k)::r,cs,x,c,hl,h=>by
  rcases Qr (l:=r) (λ y hy=>hl y (Y03 _ hy)) h with h | h
  ·by_cases hk:(k==NameKind.free)=true
   ·rw [if_pos hk] at h;rcases Y06.mp h with e | h
    ·obtain ⟨c',hc⟩:=hl (n,k) (Y05 ..) (by simpa using hk);rw [hc] at e;cases e;exact .inr hc
    ·exact .inl h
   ·rw [if_neg hk] at h;exact .inl h
  ·exact .inr h
theorem Jr {env:Env}:∀ {l:List (Str×NameKind)}{cs:List (Str×Addr)}{p:Str×Addr},p∈cs->p∈J2 env l cs
 | [],_,_,h=>h
 | (n,k)::r,cs,p,h=>by
  unfold J2;refine Jr ?_
  split
  ·exact Y03 _ h
  ·exact h
theorem Z8 {env:Env}:∀ {l:List (Str×NameKind)}{cs:List (Str×Addr)}{x:Str},(x,NameKind.free)∈l->∃ c,(x,c)∈J2 env l cs
 | (n,k)::r,cs,x,h=>by
  unfold J2;rcases Y06.mp h with e | h
  ·cases e;exact ⟨(env.cells.lookup n).getD 0,Jr (by rw [if_pos 108];exact Y05 ..)⟩
  ·exact Z8 h
theorem ji {α β:Type}[BEq α][LawfulBEq α]:∀ {l:List (α×β)}{x:α}{c:β},(x,c)∈l->∃ c',l.lookup x=some c'
 | (n,k)::r,x,c,h=>by
  rw [Y2d];cases e:x==n with
  | true=>exact ⟨k,rfl⟩
  | false =>
   rcases Y06.mp h with q | q
   ·cases q;simp at e
   ·exact ji q
def js (scope:Scope)(C:Addr)(env:Env):List (Str×Addr):=cellsFrom (C+1) scope.names (Qq scope env)
theorem zZ:∀ (l:List (Str×NameKind)) (n:Nat) (acc:List (Str×Addr)),cellsFrom n l acc=cellsFrom n l []++acc
 | [],_,_=>rfl
 | (x,k)::r,n,acc=>by
  unfold cellsFrom;by_cases hk:(k==NameKind.cell)=true
  ·rw [if_pos hk,if_pos hk,zZ r (n+1) ((x,n)::acc),zZ r (n+1) [(x,n)],Y0k];rfl
  ·rw [if_neg hk,if_neg hk];exact zZ r n acc
theorem jY:∀ {l:List (Str×NameKind)}{n:Nat}{x:Str}{c:Addr},(x,c)∈cellsFrom n l []->(x,NameKind.cell)∈l
 | (y,k)::r,n,x,c,h=>by
  unfold cellsFrom at h;by_cases hk:(k==NameKind.cell)=true
  ·rw [if_pos hk,zZ] at h;rcases Y0r.mp h with h | h
   ·exact Y03 _ (jY h)
   ·have e:x=y:=by simpa using (Y0g.mp h▸rfl:(x,c).1=(y,n).1)
    have e2:k=.cell:=by simpa using hk
    rw [e,e2];exact Y05 ..
  ·rw [if_neg hk] at h;exact Y03 _ (jY h)
theorem OH {scope:Scope}{C:Addr}{env:Env}{x:Str}{c:Addr}(h:(js scope C env).lookup x=some c):(cellsFrom (C+1) scope.names []).lookup x=some c\/((cellsFrom (C+1) scope.names []).lookup x=none/\(Qq scope env).lookup x=some c):=by
 unfold js at h;rw [zZ,Y3o] at h;cases e:(cellsFrom (C+1) scope.names []).lookup x with
 | none=>rw [e] at h;exact .inr ⟨rfl,h⟩
 | some c'=>rw [e] at h;exact .inl h
theorem z5x {scope:Scope}{C:Addr}{env:Env}{x:Str}{c:Addr}(h:(cellsFrom (C+1) scope.names []).lookup x=some c):(js scope C env).lookup x=some c:=by
 unfold js;rw [zZ,Y3o,h];rfl
theorem z5y {scope:Scope}{C:Addr}{env:Env}{x:Str}{c:Addr}(h:(Qq scope env).lookup x=some c)(h0:(cellsFrom (C+1) scope.names []).lookup x=none):(js scope C env).lookup x=some c:=by
 unfold js;rw [zZ,Y3o,h0];exact h
theorem Z9 {M:Model}{A:Around}{E:XU}{s:130}{scope:Scope}{globals:Addr}{closure:List (Str×Addr)}{qual:Str}{func:166}{code:Value}{e:Env}{builtins:Addr}{Q:Env->Shared->Prop}
  (hQ:Q (newEnv scope s.heap.objs.size globals (cellsFrom 151 scope.names closure) qual func code (some e) builtins) { s with heap:=pushCells (s.heap.push { cls:=.type "dict",data:=.dict #[] }) scope.names }) :
  wpAny M A (newFunctionEnv scope globals closure [] qual func code (some e) builtins) Q E s:=by
 simp only [newFunctionEnv,Option.isSome_some,if_true];refine wpAny_bind (wpAny_alloc ?_);refine wpAny_bind (wpAny_layCells _ (λ name kind cells=>by cases hkc:kind==NameKind.cell<;>simp [hkc]) _ _ _ _ ?_);rw [show ({ s with heap:=s.heap.push { cls:=.type "dict",data:=.dict #[] } }:Shared).heap.objs.size=s.heap.objs.size+1 from Y1g ..];refine wpAny_bind ?_;rw [List.forIn_nil];exact wpAny_pure (wpAny_pure hQ)
abbrev zv (X:Cx)(NC:XQ)(scope:Scope)(C:Addr)(s:130)(H:Hp)(ex:XV)(pn:115)(xe:XU):Cx :=
  { X with N:=NC,s₀:=s,H₀:=H,env:=compEnvC scope (js scope C X.env) C X.env,outer:=X.stack,stack:=X.stack,ex:=ex,fn:=λ x=>scope.names.lookup x==some .cell,calm:=true,pn:=pn,xe:=xe }
def jj (osc scope:Scope)(N NC:XQ)(cap:147):Bool :=
 scope.kind==.function&&scope.names.all (λ y=>y.2 != .cell||scope.names.lookup y.1==some .cell) &&
 scope.names.all (λ y=>y.2 != .local||scope.names.lookup y.1==some .local) &&
 scope.names.all (λ y=>y.2 != .free||osc.names.lookup y.1==some .cell)&&cap.length==NC.length &&
 (List.range NC.length).all λ j=>match cap[j]?,NC[j]? with
  | some (some i),some x=>N[i]?==some x&&scope.names.lookup x==some .free
  | some none,some x=>scope.names.lookup x==some .local||scope.names.lookup x==some .cell
  | _,_=>false
def wP (cap:147)(σ:St):St:=cap.map λ o=>o.bind λ i=>(σ[i]?).bind id
theorem wt {scope:Scope}{env:Env}{x:Str}(hk:env.scope.kind=.function):∀ {names:List (Str×NameKind)},(∀ y∈names,y.2=.free->env.kindOf y.1=some .cell) ->
  (names.map λ (n,k)=>if (k==NameKind.free&&env.scope.kind==.function&&env.kindOf n==some .cell) then (n,NameKind.cell) else (n,k)).lookup x=(names.lookup x).map λ k=>if k=.free then .cell else k
 | [],_=>rfl
 | (n,k)::r,h=>by
  have ih:=wt (scope:=scope) (x:=x) hk (names:=r) λ y hy=>h y (Y03 _ hy);show List.lookup x ((if (k==NameKind.free&&env.scope.kind==.function&&env.kindOf n==some .cell)=true then (n,NameKind.cell) else (n,k))::_)=_;by_cases hkf:k=.free
  ·subst hkf;rw [if_pos (by rw [hk,h (n,.free) (Y05 ..) rfl];decide)];rw [Y2d,Y2d];cases e:x==n with
   | true=>rfl
   | false=>exact ih
  ·rw [if_neg (by intro z;simp only [Y0h,beq_iff_eq] at z;exact hkf z.1.1)];rw [Y2d,Y2d];cases e:x==n with
   | true=>simp [hkf]
   | false=>exact ih
section
variable {X:Cx}{pins:115}{σ:St}{H H':Hp}{s s':130}
theorem Inv.repn {pn pins':115}{xe:XU}(I:110)(h:∀ p∈pn++pins',p∈X.pn++pins):Inv { X with pn:=pn,xe:=xe } pins' σ H s :=
 ⟨⟨I.ok.mod,I.ok.kind,I.ok.glob,I.ok.blt,I.ok.above,I.ok.inj,I.ok.has,I.ok.cab,I.ok.hd,I.ok.frames,I.ok.stk,I.ok.exf,I.ok.bs,I.ok.bsz,I.ok.noex,I.ok.exfs,I.ok.funs,I.ok.frf⟩,
  I.os,I.bare,I.base,I.loc,I.cell,I.free,I.freeC,λ p hp=>I.pin p (h p hp),I.hok,I.len⟩
theorem Inv.track {D:Addr}{o:HO}(I:110)(hD:H D=none)(h0:X.s₀.heap.get? D=none)(hL:D≠X.env.locals)(hC:∀ x c,X.env.cells.lookup x=some c->c≠D)(hp:∀ p∈X.pn++pins,p.1≠D)
  (new:ObjOk X.prog X.w (upd H D o) s.heap D o):Inv X pins σ (upd H D o) s:=by
 have up:∀ b u,H b=some u->upd H D o b=some u:=λ b u e=>by rw [zl (jz e hD)];exact e
 refine ⟨I.ok,I.os,I.bare,⟨I.base.keep,I.base.slot,λ b u e n hx=>?_,I.base.there,λ b xs e=>up _ _ (I.base.tups b xs e),λ b u xs e=>up _ _ (I.base.frzs b u xs e),λ b ps e=>?_⟩,I.loc,I.cell,?_,λ x c e=>?_,λ p hq=>?_,λ b u e=>?_,I.len⟩
 ·rw [zl (λ z=>by rw [z,h0] at e;cases e)];exact I.base.free b u e n hx
 ·obtain ⟨more,q⟩:=I.base.tbls b ps e;exact ⟨more,up _ _ q⟩
 ·rw [zl (Ne.symm hL)];exact I.free
 ·rw [zl (hC x c e)];exact I.freeC x c e
 ·obtain ⟨e,n,r⟩:=I.pin p hq;exact ⟨e,by rw [zl (hp p hq)];exact n,r⟩
 ·by_cases hb:b=D
  ·subst hb;rw [zw] at e;cases e;exact new
  ·rw [zl hb] at e;exact (I.hok b u e).stay (λ _ _ _ q=>q) (λ c q=>up _ _ q) λ c xs q=>up _ _ q
end
def PF (X:Cx)(ifs:List Expr)(t:TT):Prop :=
 ∀ (pins:115) (s:130) (σ:St) (H:Hp) (Q:Bool->Hp->Prop),Inv X pins σ H s->t σ H Q ->
  wpAny 116 X.A (forIn ifs true λ c r=>if r=true then do let ok <- isTrue c X.env (eval c X.env);pure (ForInStep.yield ok) else pure (ForInStep.yield r)) (TP X pins σ Q) X.xe s
def z1p:TT:=λ _ H Q=>Q true H
theorem z5z {X:Cx}:PF X [] z1p:=λ pins s σ H Q I h=>wpAny_tests_nil ⟨H,I,h⟩
theorem OI {X:Cx}{c:Expr}{t:TT}(h:PT X c t):PF X [c] t:=λ pins s σ H Q I q=>wpAny_tests_one (h pins s σ H Q I q)
theorem jd {osc scope:Scope}{N NC:XQ}{cap:147}(h:jj osc scope N NC cap=true) :
  scope.kind=.function/\(∀ y∈scope.names,y.2=.cell->scope.names.lookup y.1=some .cell)/\(∀ y∈scope.names,y.2=.local->scope.names.lookup y.1=some .local)/\(∀ y∈scope.names,y.2=.free->osc.names.lookup y.1=some .cell)/\cap.length=NC.length /\
  (∀ (j i:Nat),cap[j]?=some (some i)->∃ x,NC[j]?=some x/\N[i]?=some x/\scope.names.lookup x=some .free)/\∀ (j:Nat) (x:Str),cap[j]?=some none->NC[j]?=some x->scope.names.lookup x=some .local\/scope.names.lookup x=some .cell:=by
 unfold jj at h;simp only [Y0h,Y1e,bne_iff_ne,ne_eq,Y16,beq_iff_eq,Y1l] at h;obtain ⟨⟨⟨⟨⟨h1,h2⟩,h3⟩,h4⟩,h5⟩,h6⟩:=h;refine ⟨h1,λ y hy e=>(h2 y hy).resolve_left λ z=>z e,λ y hy e=>(h3 y hy).resolve_left λ z=>z e,λ y hy e=>(h4 y hy).resolve_left λ z=>z e,h5,λ j i e=>?_,λ j x e ex=>?_⟩
 ·have hj:j<NC.length:=by rw [<- h5];exact (Y01.mp e).1
  have q:=h6 j hj;rw [e] at q;cases ex:NC[j]? with
  | none=>rw [ex] at q;simp at q
  | some x =>
   rw [ex] at q;simp only [Y0h,beq_iff_eq] at q;exact ⟨x,rfl,q.1,q.2⟩
 ·have hj:j<NC.length:=(Y01.mp ex).1;have q:=h6 j hj;rw [e,ex] at q;simpa using q
section
variable {X:Cx}{pins:115}{σ:St}{H₂:Hp}{s₂:130}{scope:Scope}{NC:XQ}{cap:147}{fp:XV}
theorem YL {C D:Addr}{h₁:Heap}{tk:Nat}{o:Obj}{xe:XU}(I:Inv X pins σ H₂ s₂)(hc:X.calm=true)(cok:163)(f2:∀ b∈fp,yA X pins H₂ b)(hfp:∀ b∈fp,∃ o,s₂.heap.get? b=some o)
  (hD:D=s₂.heap.objs.size) (hC:C=s₂.heap.objs.size+1) (old:∀ b o,s₂.heap.get? b=some o->h₁.get? b=some o) (hacc:h₁.get? D=some o) (ho:∀ v,o.data≠.cell v) {m:XJ} (ns:h₁.Ns C m) (own:CellsOk h₁ (C+1) (cellsFrom (C+1) scope.names [])) :
  Inv (zv X NC scope C s₂ H₂ fp [] xe) [(D,o)] (wP cap σ) H₂ { s₂ with heap:=h₁,toks:=tk }:=by
 obtain ⟨c1,c2,c3,c4,c5,c6,c7⟩:=jd cok;have hfree:∀ y∈scope.names,y.2=.free->∃ c,X.env.cells.lookup y.1=some c:=λ y hy e=>I.ok.has y.1 (.inl (c4 y hy e));have clx:∀ x c,(Qq scope X.env).lookup x=some c->X.env.cells.lookup x=some c:=λ x c e=>by
  rcases Qr hfree (Y0z e) with z | z
  ·simp at z
  ·exact z
 have ccx:∀ x c,(js scope C X.env).lookup x=some c->(cellsFrom (C+1) scope.names []).lookup x=some c\/X.env.cells.lookup x=some c:=λ x c e=>(OH e).imp id λ z=>clx x c z.2;have hrel:∀ x,(compEnvC scope (js scope C X.env) C X.env).kindOf x=(scope.names.lookup x).map λ k=>if k=.free then .cell else k:=λ x=>wt (scope:=scope) I.ok.kind λ y hy e=>c4 y hy e;have fresh:∀ b,s₂.heap.objs.size<=b->s₂.heap.get? b=none:=λ b hb=>Y2b hb;have sz:s₂.heap.objs.size<=C:=by rw [hC];exact Y1y _
 have szD:s₂.heap.objs.size<=D:=by rw [hD];exact Y0b _
 have ownF:∀ x c,(cellsFrom (C+1) scope.names []).lookup x=some c->s₂.heap.get? c=none/\s₂.heap.objs.size<=c:=λ x c e=>by
  have q:=(own.empty x c (Y0z e)).2;have q2:s₂.heap.objs.size<=c:=by rw [hC] at q;omega
  exact ⟨fresh c q2,q2⟩
 have cloF:∀ x c,X.env.cells.lookup x=some c->c<s₂.heap.objs.size:=λ x c e=>by
  obtain ⟨v,q⟩:=I.cell x c e;exact q.lt
 have inj:∀ x y c,(js scope C X.env).lookup x=some c->(js scope C X.env).lookup y=some c->x=y:=λ x y c e1 e2=>by
  rcases ccx x c e1 with z1 | z1<;>rcases ccx y c e2 with z2 | z2
  ·exact name_of_addr own.apart (Y0z z1) (Y0z z2)
  ·exact absurd (cloF y c z2) (Nat.not_lt.mpr (ownF x c z1).2)
  ·exact absurd (cloF x c z1) (Nat.not_lt.mpr (ownF y c z2).2)
  ·exact I.ok.inj x y c z1 z2
 have exC:∀ b∈fp,b≠C:=λ b hb z=>by
  obtain ⟨o,e⟩:=hfp b hb;rw [z,fresh C sz] at e;cases e
 have exD:∀ b∈fp,b≠D:=λ b hb z=>by
  obtain ⟨o,e⟩:=hfp b hb;rw [z,fresh D szD] at e;cases e
 refine ⟨⟨I.ok.mod,c1,I.ok.glob,I.ok.blt,sz,inj,λ x hx=>?_,λ x c z e=>?_,λ _=>I.ok.hd hc,I.ok.frames,.inl rfl,λ b hb=>⟨exC b hb,λ x c e=>?_⟩,
  I.bs,Y0n I.ok.bsz I.sz,λ b o e z=>?_,λ b hb z=>?_,I.stack,I.stkFree⟩,rfl,I.bare,Un.kept old,⟨m,ns,λ j x v e1 e2 e3=>?_⟩,λ x c e=>?_,I.hok.fresh sz,λ x c e=>?_,λ p hp=>?_,I.hok.kept old,?_⟩
 ·rw [hrel] at hx;have hxf:scope.names.lookup x=some .free\/scope.names.lookup x=some .cell:=by
   cases e:scope.names.lookup x with
   | none=>rw [e] at hx;simp at hx
   | some k =>
    rw [e] at hx;by_cases hk:k=.free
    ·rw [hk];exact .inl rfl
    ·simp only [Y3j,if_neg hk,Option.some.injEq] at hx;rcases hx with z | z
     ·rw [z];exact .inr rfl
     ·exact absurd z hk
  rcases hxf with hxf | hxf
  ·obtain ⟨c,hm⟩:=Z8 (env:=X.env) (cs:=[]) (Y0z hxf);obtain ⟨c',hl⟩:=ji hm;exact Y2f.mp (Y20 _ _ _ (.inr (by rw [show (Qq scope X.env).lookup x=some c' from hl];rfl)))
  ·exact Y2f.mp (Y20 _ _ _ (.inl hxf))
 ·have hx:scope.names.lookup x=some .cell:=by simpa using z
  obtain ⟨c',hl⟩:=Y2f.mp (Y20 (x:=x) scope.names (C+1) [] (.inl hx));have e':(js scope C X.env).lookup x=some c:=e;rw [z5x hl] at e';cases e';exact (ownF x _ hl).2
 ·rcases ccx x c e with z | z
  ·intro q;obtain ⟨o,eb⟩:=hfp b hb;rw [<- q,(ownF x c z).1] at eb;cases eb
  ·exact (f2 b hb).2.2.2.2.1 x c z
 ·obtain ⟨e1,e2⟩:=I.bs b o e
  have:=(f2 b z).2.2.2.1
  rcases this with q | q
  ·exact I.ok.noex b o e q
  ·exact absurd (Y0t (Y0f (I.ok.bs b o e).1) q) (Y1d _)
 ·rcases Y06.mp (I.stkSub b z) with q | q
  ·exact (f2 b hb).2.1 q
  ·exact (f2 b hb).2.2.1 q
 ·have ej:cap[j]?=some ((some ((cap[j]?.bind id).getD 0):Option Nat)):=by
   unfold wP at e2;rw [Y0l] at e2;cases q:cap[j]? with
   | none=>rw [q] at e2;simp at e2
   | some oo =>
    rw [q] at e2;cases oo with
    | none=>simp at e2
    | some i=>simp
  generalize ((cap[j]?.bind id).getD 0)=i at ej;obtain ⟨y,y1,y2,y3⟩:=c6 j i ej
  have:y=x:=Option.some.inj (y1.symm.trans e1)
  subst this;have ev:σ[i]?=some (some v):=by
   unfold wP at e2;rw [Y0l,ej] at e2;simp only [Y3j,Y2u,Option.some.injEq] at e2;cases q:σ[i]? with
   | none=>rw [q] at e2;simp at e2
   | some w=>rw [q] at e2;simp at e2;rw [e2]
  have kc:X.env.scope.names.lookup y=some .cell:=c4 (y,.free) (Y0z y3) rfl;obtain ⟨m',hn',hl'⟩:=I.loc;obtain ⟨u,r,q⟩:=hl' i y v y2 ev (.inr (.inl kc));refine ⟨u,r,.inr ⟨.inl (by rw [hrel,y3];rfl),?_⟩⟩;rcases q with ⟨k,_⟩ | ⟨k,c,e,z⟩
  ·rw [show X.env.kindOf y=some .cell from kc] at k;cases k
  ·obtain ⟨c',hm⟩:=Z8 (env:=X.env) (cs:=[]) (Y0z y3);obtain ⟨c'',hl⟩:=ji hm
   have:=clx y c'' hl
   rw [e] at this;cases this;obtain ⟨oc,h1,h2⟩:=z;refine ⟨c,z5y hl ?_,oc,old c oc h1,h2⟩;cases eo:(cellsFrom (C+1) scope.names []).lookup y with
   | none=>rfl
   | some c2' =>
    have q1:=c2 (y,.cell) (jY (Y0z eo)) rfl;rw [y3] at q1;cases q1
 ·rcases ccx x c e with z | z
  ·exact ⟨none,(own.empty x c (Y0z z)).1⟩
  ·obtain ⟨v,oc,h1,h2⟩:=I.cell x c z;exact ⟨v,oc,old c oc h1,h2⟩
 ·rcases ccx x c e with z | z
  ·exact I.hok.fresh (ownF x c z).2
  ·exact I.freeC x c z
 ·have e:p=(D,o):=by simpa using hp
  subst e;refine ⟨hacc,I.hok.fresh szD,λ z=>by rw [hC,hD] at z;exact absurd z (Y0i (Y1n _)),λ z=>?_,ho⟩;obtain ⟨_,ob,e,_⟩:=I.stack.mem z;rw [fresh D szD] at e;cases e
 ·unfold wP;rw [Y04];exact c5
theorem Za {C:Addr}{pn pc:115}{σ':St}{H':Hp}{s':130}{h':Heap}{xe:XU}(I:Inv X pins σ H₂ s₂)(f2:∀ b∈fp,yA X pins H₂ b)(hC:C=s₂.heap.objs.size+1)
  (J:Inv (zv X NC scope C s₂ H₂ fp pn xe) pc σ' H' s') (sb:Heap.SameBut C s'.heap h'):Inv X pins σ H' { s' with heap:=h' }:=by
 have fC:s₂.heap.get? C=none:=Y2b (by rw [hC];exact Y1y _);have nC:∀ b o,s₂.heap.get? b=some o->b≠C:=λ b o e z=>by rw [z,fC] at e;cases e
 have u:Un (frs X.stack) fp H₂ H' s₂.heap h':=by
  have v:Un (frs X.stack) fp H₂ H' s₂.heap s'.heap:=J.base;refine ⟨λ b o e n hb hx=>(sb.2 b (nC b o e)).trans (v.keep b o e n hb hx),λ b o e n hb hx=>?_,v.free,λ b o e hx=>?_,v.tups,v.frzs,v.tbls⟩
  ·obtain ⟨sl,q⟩:=v.slot b o e n hb hx;exact ⟨sl,(sb.2 b (nC b o e)).trans q⟩
  ·obtain ⟨o',q⟩:=v.there b o e hx;exact ⟨o',(sb.2 b (nC b o e)).trans q⟩
 have hok:HOk X.prog X.w H' h':=λ b o e=>by
  refine (J.hok b o e).stay (λ c w hc q=>(sb.2 c λ z=>?_).trans q) (λ _ q=>q) λ _ _ q=>q;have fr:H' C=none:=J.free;subst z;rcases hc with rfl | hc
  ·rw [fr] at e;cases e
  ·rw [fr] at hc;cases hc
 exact I.call' (s':={ s' with heap:=h' }) (ch:=fp) J.os u hok J.bare λ b hb=>⟨(f2 b hb).2.2.2.1,(f2 b hb).2.1,(f2 b hb).2.2.2.2.1,(f2 b hb).2.2.2.2.2⟩
end
def z8g (σ σ':St):Prop:=σ'.length=σ.length/\∀ (i:Nat) v,σ[i]?=some (some v)->σ'[i]?=some (some v)
section
variable {prog:156}{w:World}{A:Around}{R:Result->Shared->Prop}{s:130}
theorem Wc {elt target iter:Expr}{ifs:List Expr}{scope:Scope}{pos:Pos}{it acc:Value}{env:Env}(I:Nat->Shared->Prop)
  (turn:∀ n s,I n s->wpAny 118 A (pyNext it) (λ r s₁=>match r with
   | none=>R (.ok .next) s₁
   | some v=>wpAny 118 A (letOwnedTupleGo target it v) (λ _ s₁'=>wpAny 118 A (assign target env v) (λ _ s₂ =>
     wpAny 118 A (forIn ifs true λ c r=>if r=true then do let ok <- isTrue c env (eval c env);pure (ForInStep.yield ok) else pure (ForInStep.yield r)) (λ ok s₃ =>
      if ok=true then wpAny 118 A (eval elt env) (λ x s₄ =>
       wpAny 118 A (call (.builtin "list.append") [acc,x]) (λ _ s₅=>∃ m,m<n/\I m s₅) 183 s₄) 183 s₃
      else ∃ m,m<n/\I m s₃) 183 s₂) 183 s₁') 183 s₁) 183 s)
  (n:Nat) (h:I n s):codeAny 118 A (.compLoop (.ListComp elt [⟨target,iter,ifs,0⟩] scope pos) 0 it acc env) R s:=by
 refine codeAny_loop rfl I (λ n s hI=>?_) n h;show wpAny _ A ((compTurn (.ListComp elt [⟨target,iter,ifs,0⟩] scope pos) 0 it acc env).onRaise (λ x=>do noteFrame x env;theTreesLotGoes x)) _ _ s;refine wpAny_noted ?_;rw [compTurn_list];refine wpAny_bind (wpAny_standAt (wpAny_bind (wpAny_mono (turn n s hI) (λ r s₁ h₁=>?_) λ _ _ h'=>h')));cases r with
 | none=>exact wpAny_pure h₁
 | some v =>
  refine wpAny_bind (wpAny_mono h₁ (λ _ s₁' h₁'=>?_) λ _ _ h'=>h');refine wpAny_bind (wpAny_mono h₁' (λ _ s₂ h₂=>wpAny_bind (wpAny_mono h₂ (λ ok s₃ h₃=>?_) λ _ _ h'=>h')) λ _ _ h'=>h');cases ok with
  | false=>exact wpAny_pure ⟨rfl,h₃⟩
  | true =>
   exact wpAny_bind (wpAny_bind (wpAny_mono h₃ (λ x s₄ h₄=>wpAny_bind (wpAny_mono h₄ (λ _ s₅ h₅=>wpAny_pure (wpAny_pure ⟨rfl,h₅⟩)) λ _ _ h'=>h')) λ _ _ h'=>h'))
end
section
variable {X:Cx}{σ:St}{H:Hp}{s:130}
theorem Inv.repin {D:Addr}{o o':Obj}{h':Heap}(I:Inv X [(D,o)] σ H s)(hpn:∀ p∈X.pn,p.1≠D)(h0:X.s₀.heap.objs.size<=D)(ho':∀ v,o'.data≠.cell v)(sb:Heap.SameBut D s.heap h')(e':h'.get? D=some o') :
  Inv X [(D,o')] σ H { s with heap:=h' }:=by
 obtain ⟨e,n,ne,nf,d⟩:=I.pin (D,o) (Y0o _ 111);have I0:Inv X [] σ H s:=I.pins_of λ p hp=>absurd hp 111;have I1:Inv X [] σ H { s with heap:=h' }:=I0.turned (t':=s.toks) (it:=D) (λ b u hb q=>(sb.2 b hb).trans q) n ne (.inr h0) (λ x c ec z=>by
  obtain ⟨v,oc,h1,h2⟩:=I.cell x c ec;subst z;rw [e] at h1;cases h1;exact d v h2) λ p hp=>hpn p (by simpa using hp)
 refine I1.pins_of λ p hp=>?_;have q:p=(D,o'):=by simpa using hp
 subst q;exact ⟨e',n,ne,nf,ho'⟩
end
section
variable {X:Cx}{pins:115}{σ:St}{H₂:Hp}{s₂:130}{scope:Scope}{NC:XQ}{cap:147}{fp:XV}{elt tg iter:Expr}{ifs:List Expr}{pos:Pos}{Z:ZK}{J:It}{it:Addr}{tn:Nat->Heap->Prop}
 {g:TG}{tf:TT}{te:TE}{use:Option (Value->Sem Unit)}{Qv:XU}
theorem Js (hc:X.calm=true)(th:Thr X Z)(I:Inv X pins σ H₂ s₂)(T:Turn X.prog X.w X.K tg J fp it tn)(st2:tn 0 s₂.heap)(f2:∀ b∈fp,yA X pins H₂ b)(cok:163)
  (hg:∀ C pn xe,PG (zv X NC scope C s₂ H₂ fp pn xe) tg g)
  (hf:∀ C pn xe,Thr (zv X NC scope C s₂ H₂ fp pn xe) (λ _ C' H'=>Z σ C' H')->PF (zv X NC scope C s₂ H₂ fp pn xe) ifs tf)
  (hb:∀ C pn xe,Thr (zv X NC scope C s₂ H₂ fp pn xe) (λ _ C' H'=>Z σ C' H')->PE (zv X NC scope C s₂ H₂ fp pn xe) elt te)
  (W:Nat->Nat->List V->Hp->Prop) (m0:Nat) (w0:W 0 m0 [] H₂) {Fn:List V->Hp->Prop}
  (turn:∀ i m ys H2,W i m ys H2->(J.stop i H2/\Fn ys H2)\/(J.go i H2/\ys.length<sizeLine/\∀ x H3,J.yld i H2 x H3->g x (wP cap σ) H3 λ σ4 H4=>z8g (wP cap σ) σ4/\tf σ4 H4 λ b H5 =>
   if b=true then te σ4 H5 λ y H6=>∃ m',m'<m/\W (i+1) m' (ys++[y]) H6 else ∃ m',m'<m/\W (i+1) m' ys H5))
  (fin:∀ (C D:Addr) (s':130) (H':Hp) (ys:157) (us:XW) (n:Nat),Fn ys H'->Vals ys us->s'.heap.get? D=some { cls:=.type "list",data:=.seq us.toArray n }->H' D=none->H' C=none->D=s₂.heap.objs.size->C=s₂.heap.objs.size+1 ->
   (∃ m,s'.heap.Ns C m)->(∀ h',Heap.SameBut C s'.heap h'->Inv X pins σ H' { s' with heap:=h' })->compPost 116 X.A X.xe use Qv (.ref D) C (.ok .next) s') :
  wpAny 116 X.A (newList []) (λ acc s₃=>wpAny 116 X.A (newFunctionEnv scope X.env.globals (Qq scope X.env) [] X.env.qual none .none (some X.env)) (λ cenv s₄ =>
   codeAny 116 X.A (.compStart 170 0 (.ref it) acc { cenv with scope:=relabel scope X.env }) (compPost 116 X.A X.xe use Qv acc cenv.locals) s₄) X.xe s₃) X.xe s₂:=by
 obtain ⟨c1,c2,c3,c4,c5,c6,c7⟩:=jd cok;refine wpAny_newObj_type (Z9 ?_);dsimp only;generalize hH2:s₂.heap.push { cls:=.type "list",dict:=none,data:=.seq ([]:List Value).toArray }=H2;generalize hh1:pushCells (H2.push { cls:=.type "dict",data:=.dict #[] }) scope.names=h₁;have hns₁:h₁.Ns H2.objs.size (λ _=>none):=hh1▸(Heap.Ns.new H2 (.type "dict")).keeps (pushCells_keeps _ _);have own₁:CellsOk h₁ (H2.objs.size+1) (cellsFrom (H2.objs.size+1) scope.names []):=by
  have ok:=cellsFrom_ok scope.names (H2.push { cls:=.type "dict",data:=.dict #[] }) (H2.objs.size+1) [] ⟨λ _ _ hm=>(nomatch hm),List.Pairwise.nil⟩ (by rw [Y1g];exact Y0b _);rw [Y1g,hh1] at ok;exact ok
 have hC:H2.objs.size=s₂.heap.objs.size+1:=by rw [<- hH2,Y1g]
 have hDC:s₂.heap.objs.size≠H2.objs.size:=by rw [hC];exact Y0i (Y1n _)
 have below:∀ b,b<s₂.heap.objs.size->b≠H2.objs.size:=λ b hb=>by rw [hC];exact Y0i (Y2p hb)
 have old:∀ b o,s₂.heap.get? b=some o->h₁.get? b=some o:=λ b o e=>hh1▸pushCells_keeps _ _ _ _ (Y02 _ (hH2▸Y02 _ e));have hacc:h₁.get? s₂.heap.objs.size=some { cls:=.type "list",data:=.seq ([]:List Value).toArray 0 }:=hh1▸pushCells_keeps _ _ _ _ (Y02 _ (hH2▸Y0d _ rfl));have hfp:∀ b∈fp,∃ o,s₂.heap.get? b=some o:=λ b hb=>let ⟨o,e,_⟩:=T.obj _ _ st2 b hb;⟨o,e⟩;have nodata:∀ (us:XW) (n:Nat) v,({ cls:=.type "list",data:=.seq us.toArray n }:Obj).data≠.cell v:=λ us n v z=>by cases z
 have fpD:∀ b∈fp,b≠s₂.heap.objs.size:=λ b hb z=>by
  obtain ⟨o,e⟩:=hfp b hb;exact absurd (Y0f e) (by rw [z];exact Y1d _)
 generalize hEn:(notedBy 116 X.A (compEnvC scope (js scope H2.objs.size X.env) H2.objs.size X.env) λ e s'=>compPost 116 X.A X.xe use Qv (.ref s₂.heap.objs.size) H2.objs.size (.error e) s')=En;have loop:∀ s₃:Shared,s₃={ s₂ with heap:=h₁,toks:=s₂.toks } ->
   codeAny 116 X.A (.compLoop 170 0 (.ref it) (.ref s₂.heap.objs.size) (compEnvC scope (js scope H2.objs.size X.env) H2.objs.size X.env))
    (compPost 116 X.A X.xe use Qv (.ref s₂.heap.objs.size) H2.objs.size) s₃:=by
  rintro s₃ rfl
  refine Wc (λ k s'=>∃ i ys us n H',Vals ys us/\W i k ys H'/\tn i s'.heap/\(∀ b∈fp,H' b=none) /\
   Inv 201 [(s₂.heap.objs.size,{ cls:=.type "list",data:=.seq us.toArray n })] (wP cap σ) H' s') ?_ m0
   ⟨0,[],[],0,H₂,.nil,w0,T.keep _ _ _ st2 λ b _ o e=>old b o e,λ b hb=>(f2 b hb).1,YL I hc cok f2 hfp rfl hC old hacc (nodata _ _) hns₁ own₁⟩
  rw [hEn]
  rintro k s' ⟨i,ys,us,n,H',rv,w,st,fr,Ic⟩
  have Fp:∀ {H':Hp}{us:XW}{n:Nat},(∀ b∈fp,H' b=none)->∀ b∈fp,yA 201 [(s₂.heap.objs.size,({ cls:=.type "list",data:=.seq us.toArray n }:Obj))] H' b:=λ {H' us n} hn b hb=>by
   have q:=Ic.ok.exf b hb;refine ⟨hn b hb,q.1,λ z=>Ic.ok.exfs b hb z,.inl hb,q.2,λ p hp=>?_⟩;have e:p=(s₂.heap.objs.size,({ cls:=.type "list",data:=.seq us.toArray n }:Obj)):=by simpa using hp
   subst e;exact (fpD b hb).symm
  rcases turn i k ys H' w with ⟨stop,q⟩ | ⟨go,hlen,step⟩
  ·refine wpAny_mono (T.done 201 rfl rfl rfl rfl i _ s' _ H' En Ic (Fp fr) st stop) (λ r s4 h4=>?_) λ _ _ x=>x;obtain ⟨hr,I4⟩:=h4;subst hr;obtain ⟨m,ns,_⟩:=id I4.loc;obtain ⟨p1,p2,_⟩:=I4.pin _ (Y0o _ (Y0g.mpr rfl));exact fin _ _ s4 H' ys us n q rv p1 p2 I4.free rfl hC ⟨m,ns⟩ λ h' sb=>Za I f2 hC I4 sb
  ·refine wpAny_mono (T.item 201 rfl rfl rfl rfl i _ s' _ H' En Ic (Fp fr) st go) (λ r s4 h4=>?_) λ _ _ x=>x;obtain ⟨u,hr,h4⟩:=h4;subst hr;refine wpAny_mono h4 (λ _ s5 h5=>?_) λ _ _ x=>x;obtain ⟨x,H5,I5,r5,y5,st5,fr5⟩:=h5;have I5':Inv 203 [(s₂.heap.objs.size,{ cls:=.type "list",data:=.seq us.toArray n })] (wP cap σ) H5 s5 :=
    (I5.pinned (Fp fr5) (T.obj _ _ st5)).repn λ p hp=>by
     rcases Y0r.mp hp with z | z
     ·exact Y0o _ (Y0o _ z)
     ·exact Y0o _ (Y0w _ z)
   have okx:XOk 203:=by
    obtain ⟨top,outer,L,e1,e2,e3⟩:=th.top;exact ⟨⟨top,outer,L,e1,e2,e3⟩,λ b hb=>let ⟨o,e,_⟩:=T.obj _ _ st5 b hb;⟨o,jO hb e⟩⟩
   have thx:Thr 203 (λ _ C' H'=>Z σ C' H'):=by
    refine ⟨okx,?_⟩
    rintro e s6 ⟨a,C',T',σ6,H6,rfl,I6,F6,z6⟩
    show En 155 s6;rw [<- hEn];unfold notedBy;refine I6.note okx F6 I6.ok.frames rfl λ h7 t7 I7 F7=>?_;obtain ⟨m,ns,_⟩:=id I7.loc;have fin7:∃ m,h7.Ns H2.objs.size m/\∀ h',Heap.SameBut H2.objs.size h7 h'->∀ cenv:Env,cenv.locals=H2.objs.size->wpAny 116 X.A (passOn "comprehension.variables-let-go" 155 cenv:Sem Value) (λ _ _=>False) X.xe { s6 with heap:=h' }:=by
     refine ⟨m,ns,λ h' sb cenv _=>?_⟩;have I8:Inv X pins σ H6 { s6 with heap:=h' }:=Za (s':={ s6 with heap:=h7 }) I f2 hC I7 sb;have F8:Fly X pins H6 h' a C' (some t7):=by
      refine ⟨F7.fl.at λ b hb o e=>(sb.2 b λ z=>?_).trans e,λ b hb=>?_⟩
      ·obtain ⟨o',vs,e1,e2⟩:=F7.fl.rec b hb;obtain ⟨oC,es,ep,e3,e4,_⟩:=ns;subst z;have q:o'=oC:=Option.some.inj (e1.symm.trans e3);rw [q] at e2;have q2:=e2.symm.trans e4;cases q2
      ·obtain ⟨o1,o2,_⟩:=F7.ow b hb;exact I.ow th.toXOk (.inr trivial) o2 o1
     exact I8.passOn F8 λ h9 I9 F9=>th.go I9 F9 z6
    show compPost _ _ _ _ _ _ _ (.error 155) _;cases use<;>exact fin7
   refine wpAny_mono (hg _ _ En _ s5 _ H5 x u _ I5' r5 (step x H5 y5)) (λ _ s6 h6=>?_) λ _ _ x=>x;obtain ⟨σ6,H6,I6,wk,q6⟩:=h6;refine wpAny_mono (hf _ _ En thx _ s6 σ6 H6 _ I6 q6) (λ b s7 h7=>?_) λ _ _ x=>x;obtain ⟨H7,I7,q7⟩:=h7;have back:∀ {s8:130}{H8:Hp}{ys':157}{us':XW}{n' m':Nat},Inv 203 [(s₂.heap.objs.size,{ cls:=.type "list",data:=.seq us'.toArray n' })] σ6 H8 s8->Vals ys' us'->m'<k->W (i+1) m' ys' H8 ->
     ∃ m,m<k/\∃ i ys us n H',Vals ys us/\W i m ys H'/\tn i s8.heap/\(∀ b∈fp,H' b=none)/\Inv 201 [(s₂.heap.objs.size,{ cls:=.type "list",data:=.seq us.toArray n })] (wP cap σ) H' s8:=by
    intro s8 H8 ys' us' n' m' I8 rv8 hm w8;refine ⟨m',hm,i+1,ys',us',n',H8,rv8,w8,T.keep _ _ _ st5 λ b hb o e=>(I8.pin (b,o) (Y0w _ (jO hb e))).1,λ b hb=>?_,?_⟩
    ·obtain ⟨o,e,d⟩:=T.obj _ _ st5 b hb;exact (I8.pin (b,o) (Y0w _ (jO hb e))).2.1
    ·have I9:=I8.weak (σ':=wP cap σ) wk.1.symm wk.2;exact I9.repn λ p hp=>Y0o _ (by simpa using hp)
   cases b with
   | false =>
    obtain ⟨m',hm,w8⟩:=q7;exact back I7 rv hm w8
   | true =>
    refine wpAny_mono (hb _ _ En thx _ s7 σ6 H7 _ I7 q7) (λ y s8 h8=>?_) λ _ _ x=>x;obtain ⟨v,H8,I8,rv8,m',hm,w8⟩:=h8;obtain ⟨p1,p2,_⟩:=I8.pin _ (Y0o _ (Y0g.mpr rfl));have hlu:us.length=ys.length:=rv.length.symm;refine append_at p1 (hsz:=by show us.toArray.size<=sizeLine;rw [Y0a,hlu];exact Y2g hlen) λ h9 sb9 e9=>?_;rw [List.push_toArray] at e9;have I9:=I8.repin (λ p hp=>by
     have q:=(Ji hp).1;exact fpD _ q) 169 (nodata _ _) sb9 e9
    exact back I9 (rv.append (.cons rv8 .nil)) hm w8
 exact codeAny_compStart_list (loop _ rfl) (T.self _ 0 _ _ _ (T.keep _ _ _ st2 λ b _ o e=>old b o e) (loop _ rfl))
end
def z8h (J:It)(H1:Hp)(cap:147)(σ:St)(g:TG)(tf:TT)(te:TE)(Q:VK):Prop:=∃ W:Nat->Nat->List V->Hp->Prop,(∃ m,W 0 m [] H1)/\∀ i m ys H2,W i m ys H2 ->
 (J.stop i H2/\ys.length<=sizeLine/\∀ p,H2 p=none->Q (.ref p) (upd H2 p (.lst ys))) \/
 (J.go i H2/\ys.length<sizeLine/\∀ x H3,J.yld i H2 x H3->g x (wP cap σ) H3 λ σ4 H4=>z8g (wP cap σ) σ4/\tf σ4 H4 λ b H5 =>
  if b=true then te σ4 H5 λ y H6=>∃ m',m'<m/\W (i+1) m' (ys++[y]) H6 else ∃ m',m'<m/\W (i+1) m' ys H5)
def OJ (Z:ZK)(cap:147)(wi:TI)(g:TG)(tf:ZK->TT)(te:ZK->TE):TE:=λ σ H Q=>wi σ H λ J H1=>z8h J H1 cap σ g (tf (λ _ C H'=>Z σ C H')) (te (λ _ C H'=>Z σ C H')) Q
section
variable {X:Cx}{scope:Scope}{NC:XQ}{cap:147}{elt tg iter:Expr}{ifs:List Expr}{pos:Pos}{Z:ZK}{wi:TI}{g:TG}{tf:ZK->TT}{te:ZK->TE}
theorem z1q (hc:X.calm=true)(th:Thr X Z)(hi:PI X tg iter wi)(cok:163)
  (hg:∀ C s H fp pn xe,PG 127 tg g)
  (hf:∀ C s H fp pn xe Zc,Thr 127 Zc->PF 127 ifs (tf Zc))
  (hb:∀ C s H fp pn xe Zc,Thr 127 Zc->PE 127 elt (te Zc))
  (hs:∀ x,foldedSetIterable iter X.env x=pure x:=by intro _;rfl):PE X 170 (OJ Z cap wi g tf te):=by
 intro pins s σ H Q I h;obtain ⟨c1,c2,c3,c4,c5,c6,c7⟩:=jd cok;rw [eval_ListComp];refine wpAny_comprehension_free (use:=none) rfl hs (Z7 λ y hy e=>I.ok.has y.1 (.inl (c4 y hy e))) c1 c3 (thn (hi pins s σ H _ I h) λ xv s₁ h₁=>thn h₁ λ itv s₂ h₂=>?_);obtain ⟨it,fp,tn,J,H2,rfl,I2,T,st2,f2,W,⟨m0,w0⟩,turn⟩:=h₂;refine Js hc th I2 T st2 f2 cok (λ C pn xe=>hg C s₂ H2 fp pn xe) (λ C pn xe t=>hf C s₂ H2 fp pn xe _ t) (λ C pn xe t=>hb C s₂ H2 fp pn xe _ t) W m0 w0 turn ?_
 rintro C D s' H' ys us n ⟨hlen,q⟩ rv e hn _ rfl rfl ⟨m,ns⟩ lv
 refine ⟨m,ns,λ h' sb=>?_⟩;have I':=lv h' sb;have eD:h'.get? s₂.heap.objs.size=some { cls:=.type "list",data:=.seq us.toArray n }:=(sb.2 _ (Y0i (Y1n _))).trans e;refine ⟨.ref s₂.heap.objs.size,_,I'.track (o:=.lst ys) hn (Y2b I2.sz) (Y25 I2.lt) (λ x c ec z=>?_) (λ p hp z=>?_) ⟨hlen,us,n,rv,eD⟩,rfl,q _ hn⟩
 ·obtain ⟨v,q⟩:=I2.cell x c ec;exact absurd q.lt (by rw [z];exact Y1d _)
 ·exact absurd (Y0f (I2.pin p hp).1) (by rw [z];exact Y1d _)
end
def z45 (K:Y00)(c D:Addr):Prop:=(∃ bmB newId,PySem.W.excIn K c bmB newId=true)/\∃ oc dd cd sl,K.lookup c=some ⟨oc,dd,.cls cd,sl⟩/\cd.mro.contains (.ref D)=true
abbrev zb5 (X:Cx)(pins:115)(xe:XU):Cx:={ X with pn:=X.pn++pins,xe:=xe }
abbrev zb6 (X:Cx)(pins:115)(a:Addr):Cx:={ X with A:=X.A.mark (some (.ref a)),calm:=false,pn:=X.pn++pins,xe:=λ _ _=>False }
def Its (x:Str):It:=⟨λ i _=>i<x.length,λ i H v H'=>H'=H/\∃ c,x.cps.toList[i]?=some c/\v=.str ⟨#[c]⟩,λ i _=>x.length<=i⟩
theorem YM {P:156}{w:World}{K:Y00}{tg:Expr}(it:Addr)(x:Str)(t:Tok):Turn P w K tg (Its x) [it] it (λ i h=>h.IsStrIter it "str_ascii_iterator" x t i) where
 mem:=by simp
 obj:=λ i h st b hb=>by
  have e:b=it:=by simpa using hb
  subst e;obtain ⟨o,e,c,d⟩:=st;exact ⟨o,e,λ v z=>by rw [d] at z;cases z⟩
 keep:=λ i h h' st k=>let ⟨o,e,r⟩:=st;⟨o,k it 111 o e,r⟩
 item:=by
  intro X hP hw hK hc i pins s σ H E I hf st hg;subst hP hw hK;obtain ⟨f0,f1,f2,f3,f4,f5⟩:=hf it 111;have hg':i<x.cps.size:=hg;refine wpAny_pyNext_ascii_item st (c:=x.cps[i]) (by simp [hg']) λ h' st' sb=>?_;have I1:Inv X pins σ H { s with heap:=h',toks:=s.toks+1 }:=I.turned (λ b o hb e=>(sb.2 b hb).trans e) f0 f1 f3 f4 f5;obtain ⟨o,e,c,d⟩:=id st';exact ⟨_,rfl,Jg (s:={ s with heap:=h',toks:=s.toks+1 }) e c d 108 ⟨.str ⟨#[x.cps[i]]⟩,H,I1,125,⟨rfl,x.cps[i],by simp [hg'],rfl⟩,st',λ b hb=>(hf b hb).1⟩⟩
 done:=by
  intro X hP hw hK hc i pins s σ H E I hf st hg;subst hP hw hK;obtain ⟨f0,f1,f2,f3,f4,f5⟩:=hf it 111;have hg':x.cps.size<=i:=hg;exact wpAny_pyNext_ascii_end (I.ok.hd hc) st (by simp [hg']) λ h' eb=>131
 self:=λ _ _ _ _ _ st h=>wpAny_pyIter_striter_ascii st h
theorem Gp {P:156}{w:World}{K:Y00}{tg:Expr}(it:Addr)(x:Str)(t:Tok):Turn P w K tg (Its x) [it] it (λ i h=>h.IsStrIter it "str_iterator" x t i) where
 mem:=by simp
 obj:=λ i h st b hb=>by
  have e:b=it:=by simpa using hb
  subst e;obtain ⟨o,e,c,d⟩:=st;exact ⟨o,e,λ v z=>by rw [d] at z;cases z⟩
 keep:=λ i h h' st k=>let ⟨o,e,r⟩:=st;⟨o,k it 111 o e,r⟩
 item:=by
  intro X hP hw hK hc i pins s σ H E I hf st hg;subst hP hw hK;obtain ⟨f0,f1,f2,f3,f4,f5⟩:=hf it 111;have hg':i<x.cps.size:=hg;refine wpAny_pyNext_wide_item st (c:=x.cps[i]) (by simp [hg']) λ h' st' sb=>?_;have I1:Inv X pins σ H { s with heap:=h',toks:=s.toks+1 }:=I.turned (λ b o hb e=>(sb.2 b hb).trans e) f0 f1 f3 f4 f5;obtain ⟨o,e,c,d⟩:=id st';exact ⟨_,rfl,Jg (s:={ s with heap:=h',toks:=s.toks+1 }) e c d 108 ⟨.str ⟨#[x.cps[i]]⟩,H,I1,125,⟨rfl,x.cps[i],by simp [hg'],rfl⟩,st',λ b hb=>(hf b hb).1⟩⟩
 done:=by
  intro X hP hw hK hc i pins s σ H E I hf st hg;subst hP hw hK;obtain ⟨f0,f1,f2,f3,f4,f5⟩:=hf it 111;have hg':x.cps.size<=i:=hg;exact wpAny_pyNext_wide_end (I.ok.hd hc) st (by simp [hg']) λ h' eb=>131
 self:=λ _ _ _ _ _ st h=>wpAny_pyIter_striter_wide st h
section
variable {X:Cx}{tg:Expr}
theorem Zb:∀ {bs:List Bool}{us:XW},Vals (bs.map V.bl) us->PyProof.Rows.LSm.BoolsAre us bs
 | [],_,r=>by cases r;exact .nil
 | b::bs,_,r=>by
  cases r with
  | cons r1 r2=>cases (show _=Value.bool b from r1);exact .cons b (Zb r2)
theorem OK (hc:X.calm=true):j1 X (.builtin "all") (λ xs H Q=>∃ (p:Addr) (bs:List Bool),xs=[.ref p]/\SqL X.K H p (bs.map V.bl)/\Q (.bl (bs.all id)) H):=by
 intro pins s σ H xs us Q I r h;obtain ⟨p,bs,rfl,hq,q⟩:=h;obtain ⟨u,rfl,ru⟩:=jV r;cases ru;obtain ⟨its,rv,pl,hz⟩:=I.list hq;have hb:=Zb rv;have hl:s.heap.IsList p its.toArray:=pl.isList;have hlt:p<s.heap.objs.size:=by obtain ⟨_,e,_⟩:=hl;exact Y0f e
 refine call_all_walk (wpAny_pyIter_list hl ?_);refine ⟨s.heap.objs.size,[s.heap.objs.size,p],[s.heap.objs.size],its.toArray.size,_,_,λ i=>(bs[i]?).getD true,rfl,Walks.list (A:=X.A.in1) (I.ok.hd hc) _ p (Y0i hlt) its.toArray,
  ⟨172,hl.push _⟩,λ i v s' Q' E' hP hQ=>?_,λ h' tk hk=>?_⟩
 ·obtain ⟨b,e,rfl⟩:=hb.get i v (by simpa using hP);simp only [e,Y3c] at hQ;exact wpAny_truthy_bool hQ
 ·have e:((List.range its.toArray.size).all λ i=>(bs[i]?).getD true)=bs.all id:=by
   rw [Y0a,hb.length];exact PyProof.Rows.LSm.range_all bs
  rw [e];exact ⟨.bl (bs.all id),H,I.kept (PyProof.Rows.LSm.kept_iter hk),rfl,q⟩
theorem Gq:j1 X (.type "int") (λ xs H Q=>∃ x n,xs=[.str x]/\PySem.intText? x=some n/\x.length<=640/\Q (.int n) H):=by
 intro pins s σ H xs us Q I r h;obtain ⟨x,n,rfl,hn,hl,q⟩:=h;obtain ⟨u,rfl,t,rfl⟩:=jV r;exact PySem.W.KIN.call_text hn hl ⟨.int n,H,I.tok _,125,q⟩
end
def zba (X:Cx)(st:List Stmt)(t:TS):Prop :=
 ∀ (pins:115) (s:130) (σ:St) (H:Hp) (D:Ends),Inv X pins σ H s->0<s.toks->t D σ H->wpAny 116 X.A (execs st X.env) (SP X pins D) X.xe s
structure Walk (J:It)(xs:157)(Pv:Hp->Prop):Prop where
 stop:∀ H,Pv H->J.stop xs.length H
 go:∀ i H,i<xs.length->Pv H->J.go i H
 yld:∀ i H x H',i<xs.length->Pv H->J.yld i H x H'->H'=H/\xs[i]?=some x
abbrev TJ:=St->Hp->Str->(Str->Hp->Prop)->Prop
section
variable {X:Cx}{e v₁ v₂:Expr}{es:List Expr}{te:TE}{t:TJ}{c:Str}{k:Nat}{pos p:Pos}
def z1r (K:Y00)(neg:Bool):R2:=λ x y H Q=>∃ p q xs,x=.ref p/\y=.ref q/\SqL K H p xs/\SqL K H q []/\Q (.bl (if neg then !xs.isEmpty else xs.isEmpty)) H
theorem OL (hu:X.A.units<cLine):OpR X (compareOp .Eq) (z1r X.K false):=by
 intro pins s σ H x y v u Q I rx ry h;obtain ⟨p,q,xs,rfl,rfl,h1,h2,hq⟩:=h;cases rx;cases ry;obtain ⟨its,r,pl,hz⟩:=I.list h1;obtain ⟨its2,r2,pl2,_⟩:=I.list h2;cases r2;cases xs with
 | nil =>
  cases r;exact SeqAt.eq_listAt (e:=λ _=>true) pl.isList pl2.isList rfl hu (λ j h1 _=>absurd h1 111) ⟨.bl true,H,I,rfl,hq⟩
 | cons a t =>
  cases r with
  | cons r1 r2=>exact SeqAt.eq_list_lengthsAt pl.isList pl2.isList 111 hu ⟨.bl false,H,I,rfl,hq⟩
theorem OM (hu:X.A.units<cLine):OpR X (compareOp .NotEq) (z1r X.K true):=by
 intro pins s σ H x y v u Q I rx ry h;obtain ⟨p,q,xs,rfl,rfl,h1,h2,hq⟩:=h;cases rx;cases ry;obtain ⟨its,r,pl,hz⟩:=I.list h1;obtain ⟨its2,r2,pl2,_⟩:=I.list h2;cases r2;cases xs with
 | nil =>
  cases r;exact SeqAt.RcNeAt.lists (e:=λ _=>true) pl.isList pl2.isList rfl hu (λ j h1 _=>absurd h1 111) _ _ _ _ ⟨.bl false,H,I,rfl,hq⟩
 | cons a t =>
  cases r with
  | cons r1 r2=>exact SeqAt.RcNeAt.lists_lengths pl.isList pl2.isList 111 hu _ _ _ _ ⟨.bl true,H,I,rfl,hq⟩
end
def SIt (h:Heap)(i a:Addr)(k:Nat)(xs:Array Value):Prop:=(h.IsListIter i a k/\h.IsList a xs)\/(h.IsTupleIter i a k/\h.IsTuple a xs)
def ItR (h:Heap)(i a:Addr)(k:Nat)(b:Bool):Prop:=if b=true then h.IsListIter i a k else h.IsTupleIter i a k
end L2
set_option maxHeartbeats 4000000
namespace L2
open PySem PySem.Spec PyProof.Rows
section
variable {X:Cx}{Z:ZK}{tg iter:Expr}{body:List Stmt}{wi:TI}{g:TG}{tb:TS}{pos:Pos}
theorem Jt (ok:XOk X):PassesOwn 116 X.A X.env (XE X Z):=by
 rintro e s' ⟨a,C,T,σ',H',rfl,I,F,z⟩
 refine I.note ok F I.ok.frames rfl λ h1 t I1 F1=>?_;exact I1.cameBack F1 λ h2 I2 F2=>⟨a,C,some t,σ',H',rfl,I2,F2,z⟩
theorem Thr.wished (th:Thr X Z):Thr (X.wish (XE X Z)) Z:=by
 refine ⟨⟨th.top,th.ex⟩,?_⟩
 rintro e s' ⟨a,C,T,σ',H',rfl,I,F,z⟩
 exact ⟨a,C,T,σ',H',rfl,I.unwish,⟨F.fl,F.ow⟩,z⟩
theorem z1s (th:Thr X Z)(hc:X.calm=true)(hi:PI (X.wish (XE X Z)) tg iter wi)(hg:PG (X.wish (XE X Z)) tg g)(hb:PSs (X.wish (XE X Z)) body tb)
  (hs:∀ x,foldedSetIterable iter X.env x=pure x:=by intro _;rfl):PS X (.For tg iter body [] pos) (z5a wi g tb):=by
 intro pins s σ H D I h;refine wpAny_mono (z5b (X:=X.wish (XE X Z)) (Jt th.toXOk) hc hi hg hb hs pins s σ H D (I.wish _) h) (λ f s' q=>q.unwish) λ e s' x=>th.thr e s' x
end
section
variable {X:Cx}{scope:Scope}{NC:XQ}{cap:147}{elt tg iter:Expr}{ifs:List Expr}{pos pos' spos:Pos}{Z:ZK}{wi:TI}{g:TG}{tf:ZK->TT}{te:ZK->TE}{i:Nat}{x:Str}
theorem z1t (hc:X.calm=true)(th:Thr X Z)(hi:PI X tg iter wi)(cok:163)
  (hg:∀ C s H fp pn xe,PG 127 tg g)
  (hf:∀ C s H fp pn xe Zc,Thr 127 Zc->PF 127 ifs (tf Zc))
  (hb:∀ C s H fp pn xe Zc,Thr 127 Zc->PE 127 elt (te Zc))
  (hs:∀ x,foldedSetIterable iter X.env x=pure x) (hN:X.N.Nodup) (hx:X.N[i]?=some x) (hlo:X.env.scope.names.lookup x=some .local)
  (hsw:swapsWith 170 (some (.Name x pos')) spos.line X.env=pure true) :
  PS X (.Assign [.Name x pos'] 170 spos) (z58 (OJ Z cap wi g tf te) (UQ i)):=by
 intro pins s σ H D I h;obtain ⟨c1,c2,c3,c4,c5,c6,c7⟩:=jd cok;rw [exec_Assign_Name_used _ _ _ _ hsw];refine wpAny_bind (wpAny_standAt (wpAny_bind ?_));show wpAny _ X.A (do let _ <- comprehension 170 scope X.env _ (newList []) false (eval iter X.env) (some (assign (.Name x pos') X.env))) _ _ s;refine wpAny_bind (wpAny_mono (wpAny_comprehension_free (use:=some (assign (.Name x pos') X.env)) (Q:=λ _ s'=>SP X pins D .next s') rfl hs (Z7 λ y hy e=>I.ok.has y.1 (.inl (c4 y hy e))) c1 c3
  (thn (hi pins s σ H _ I h) λ xv s₁ h₁=>thn h₁ λ itv s₂ h₂=>?_)) (λ _ s' hq=>wpAny_pure (wpAny_pure hq)) λ _ _ e=>e)
 obtain ⟨it,fp,tn,J,H2,rfl,I2,T,st2,f2,W,⟨m0,w0⟩,turn⟩:=h₂;refine Js hc th I2 T st2 f2 cok (λ C pn xe=>hg C s₂ H2 fp pn xe) (λ C pn xe t=>hf C s₂ H2 fp pn xe _ t) (λ C pn xe t=>hb C s₂ H2 fp pn xe _ t) W m0 w0 turn ?_
 rintro C D' s' H' ys us n ⟨hlen,q⟩ rv e hn hnC rfl rfl ⟨m,ns⟩ lv
 have I':Inv X pins σ H' s':=lv s'.heap (Heap.SameBut.refl _ _);have I3:Inv X pins σ (upd H' s₂.heap.objs.size (.lst ys)) s':=I'.track (o:=.lst ys) hn (Y2b I2.sz) (Y25 I2.lt) (λ y c ec z=>by
  obtain ⟨v,q⟩:=I2.cell y c ec;exact absurd q.lt (by rw [z];exact Y1d _)) (λ p hp z=>absurd (Y0f (I2.pin p hp).1) (by rw [z];exact Y1d _)) ⟨hlen,us,n,rv,e⟩
 have fC:yA X pins (upd H' s₂.heap.objs.size (.lst ys)) (s₂.heap.objs.size+1):=I2.fpOk (Y1y _) (by rw [zl (Nat.succ_ne_self _)];exact hnC);show wpAny _ X.A (assign (.Name x pos') X.env (.ref s₂.heap.objs.size)) _ _ _;refine wpAny_assign_Name (Jf I3 hN hx (.inl hlo) (v:=.ref s₂.heap.objs.size) rfl (λ s'' I4 ⟨a,sb,ha⟩=>?_) (.inr hlo));have nC:s₂.heap.objs.size+1≠a:=by
  rcases ha with rfl | ha
  ·exact fC.2.1
  ·exact λ z=>fC.2.2.2.2.1 x a ha z.symm
 refine ⟨m,ns.sameBut sb nC,λ h' sb'=>⟨_,_,I4.turned (t':=s''.toks) (λ b o hb e=>(sb'.2 b hb).trans e) fC.1 fC.2.1 fC.2.2.2.1 fC.2.2.2.2.1 fC.2.2.2.2.2,q _ hn⟩⟩
end
def zb7 (h:Heap)(a l:Addr)(i:Int):Prop:=∃ o,h.get? a=some o/\o.cls=.type "reversed"/\o.data=.fields #[.ref l,rawInt i]
open HT in
theorem z1u {prog:156}{w:World}{A:Around}{E:XU}{s:130}{t sl:Addr}{items:Array Value}{vl vu:Value}{lo hi:Option Int}{Q:XU}(ht:IsTup s.heap t items)(hs:s.heap.IsSliceOf sl vl vu .none)(pl:IsPart vl lo)(pu:IsPart vu hi)
  (h1:sIx items.size 0 lo=0) (h2:sIx items.size items.size hi=items.size) (h:Q (.ref t) s):wpAny 118 A (getItem (.ref t) (.ref sl)) Q E s:=by
 obtain ⟨os,hos,hcs,hds⟩:=id hs;have hTs:s.TypeIs (.ref sl) "slice":=⟨os,hos,hcs⟩;unfold getItem
 try with_reducible refine wpAny_holding ?_
 first | refine wpAny_bind (wpAny_pure ?_) | skip
 refine wpAny_bind (wpAny_sequenceKey ht.typeIs 108 ?_);refine wpAny_bind (wpAny_callSpecial?_slot (name:=Str.ofString "__getitem__") ht.typeIs Y1v (wpAny_call_entry Y1v ht.typeIs entry_tuple_getitem ?_ (args_tuple_getitem _ _)));show wpAny _ _ (Builtin.Tuple.tupleItemsOf (.ref t) >>= _) _ _ s;refine wpAny_bind (tupleItemsOf_ ht ?_);refine wpAny_bind (wpAny_typeOf hTs ?_);rw [if_pos 108];refine wpAny_bind (w6 hs pl pu ?_);have hy:137=true:=by rw [h1,h2];simp
 show wpAny _ _ (if 137=true then _ else _) _ _ s;rw [if_pos hy];refine wpAny_bind ?_;unfold Builtin.Tuple.tupleIsExact;refine wpAny_bind (wpAny_typeOf ht.typeIs (wpAny_pure ?_));rw [if_pos 108];refine wpAny_bind (wpAny_rule ?_);exact wpAny_pure ⟨_,rfl,wpAny_pure h⟩
def zam (K:Y00):V->Option Int->Option Int->Hp->VK->Prop:=λ x lo hi H Q=>∃ a xs,x=.ref a/\SqT K H a xs/\HT.sIx xs.length 0 lo=0/\HT.sIx xs.length xs.length hi=xs.length/\Q 155 H
theorem z1v {X:Cx}:SlR X (zam X.K):=by
 intro pins s σ H x v vl vu lo hi sl Q I rx hs pl pu h;obtain ⟨a,xs,rfl,hx,w1,w2,q⟩:=h;cases rx;obtain ⟨its,r,ht,hz⟩:=I.tuple hx;have hlen:its.toArray.size=xs.length:=by rw [Y0a];exact r.length.symm
 exact ⟨"tuple",_,PyProof.Rows.slot_tuple_getitem.lookup,ht.typeIs,z1u ht hs pl pu (by rw [hlen];exact w1) (by rw [hlen];exact w2) ⟨.ref a,H,I,rfl,q⟩⟩
theorem jt:entryFor table "dict.update.loop"=some Builtin.«dict.update.loop»:=entryFor_of_tree (by kernel_rfl)
theorem zM:plainId "dict.update.loop"=true:=by decide +kernel
theorem Qu:typeLookup (.type "list") "keys"=pure none:=by rw [typeLookup_type,builtinLookup_eq_fast];kernel_rfl
section
variable {prog:156}{w:World}{A:Around}{E:XU}{s:130}
theorem J3 {a:Addr}{xs:Array Value}{k:Nat}{sl:171}{Q:Option Value->Shared->Prop} (hx:s.heap.get? a=some { cls:=.type "list",dict:=none,data:=.seq xs k,slots:=sl }) (hA:193)
  (h:∀ h' tk,(∀ b ob,s.heap.get? b=some ob->h'.get? b=some ob)->Q none { s with heap:=h',toks:=tk }) :
  wpAny 118 A (getAttr? 155 "keys") Q E s:=by
 obtain ⟨hp,g,d,tk,os⟩:=s;have hT:∀ tk',(⟨hp,g,d,tk',os⟩:Shared).TypeIs 155 "list":=λ _=>⟨_,hx,rfl⟩;have f1:=sub_AttributeError;have f3:=F.slot_list_getattribute.lookup;have f4:=F.slot_list_getattribute.bind 155;have f5:=am_list_getattr_none;have hname:(["__module__","__name__","__qualname__","__doc__","__annotations__"]:List Str).contains "keys"=false:=by decide +kernel
 have hsz:(Str.ofString "keys").length+100<=sizeLine:=by decide +kernel
 unfold getAttr? getAttrBy? getAttrBy
 repeat (any_goals (first | assumption | exact hT _ | ((with_reducible show wpAny _ _ (call (Value.builtin "list.__getattribute__") _ _) _ _ _);refine call_meets F.slot_list_getattribute (hT _) am_entry_list_getattribute (F.args_list_getattribute_2 _ _) (meets_getattribute_miss_list a xs k sl "keys" _ Qu hname hsz) ⟨hx,hA,λ h' tk' e hx'=>?_⟩) | wp_step))
 obtain ⟨t',u',he⟩:=hx'.there;show wpAny _ _ (getattributeRaised _ _ _ _ _ _ _) _ _ _;unfold getattributeRaised
 repeat (any_goals (first | assumption | wp_step))
 exact h _ _ hx'.keeps
end
section
variable {prog:156}{w:World}{A:Around}{R:Result->Shared->Prop}{I:Addr}{fp wr:XV}{G:Array GenState->Array GenState->Prop}{n:Nat}{P:Nat->Value->Prop}{St:Nat->Shared->Prop}{K:Type}[DecidableEq K]{knd:KeyKind prog w K}
def Two (h:Heap)(a:Addr)(x y:Value):Prop:=∃ o n,h.get? a=some o/\o.cls=.type "tuple"/\o.data=.seq #[x,y] n
theorem YN (kvs:List (K×Value)):∀ (more:List (K×Value)),(merged kvs more).length<=kvs.length+more.length:=by
 intro more
 induction more generalizing kvs with
 | nil=>exact Y0b _
 | cons p r ih =>
  have h1:=ih (stored kvs p.1 p.2);have h2:(stored kvs p.1 p.2).length<=kvs.length+1:=by
   unfold stored
   split
   ·rw [Y04];exact Y1y _
   ·rw [Y0e];exact Y0b _
  show (merged (stored kvs p.1 p.2) r).length<=_;rw [Y08];omega
theorem Gs (W:WalksS prog w A.in1 I fp wr G n P St)(D:Addr)(hDf:D∉fp)(more:List (K×Value))(hn:n<=1000000)(hml:more.length=n)(s₀:130)
  (hval:∀ (i:Nat) (v:Value),P i v->∃ a kv vv k,v=.ref a/\a∉D::wr/\Two s₀.heap a kv vv/\more[i]?=some (k,vv)/\knd.is k kv=true) :
  ∀ (k i:Nat) (s:130) (ti:Tok),n-i=k->i<=n->St i s->Moved (D::wr) G s₀ s->s.heap.DictOf knd D (merged [] (more.take i)) ->
   (∀ s',Moved (D::wr) G s₀ s'->s'.heap.DictOf knd D (merged [] more)->R (.ok (.ret .none)) s') ->
   codeAny 118 A (.builtin "dict.update.loop" ⟨[.ref D,.ref I,.int (i:Nat) ti,.none],[]⟩) R s:=by
 have hDw:D∉wr:=λ h=>hDf (W.sub _ h);have hsub:∀ b∈wr,b∈D::wr:=λ b hb=>Y03 _ hb;intro k
 induction k with
 | zero =>
  intro i s ti hk hi hst mv hS hR;have hin:i=n:=by omega
  subst hin;refine codeAny_builtin jt ?_;rw [Around.under_plainId zM _];show wpAny _ A.in1 (pyNext (.ref I) >>= _) _ _ s;refine wpAny_bind (W.done s _ _ hst λ s' hm=>?_);show wpAny _ A.in1 (Builtin.Dict.addKeywords D [] >>= λ _=>ret Value.none) _ _ s';refine wpAny_bind (wpAny_pure (wpAny_pure (hR s' (mv.trans W.gtrans (hm.mono hsub)) ?_)));rw [<- hml,List.take_length] at hS;obtain ⟨o,es,ep,ho,r⟩:=hS;exact ⟨o,es,ep,hm.heap D _ hDw ho,r⟩
 | succ k ih =>
  intro i s ti hk hi hst mv hS hR;have hlt:i<n:=by omega
  refine codeAny_builtin jt ?_;rw [Around.under_plainId zM _];show wpAny _ A.in1 (pyNext (.ref I) >>= _) _ _ s;refine wpAny_bind (W.item i s _ _ hlt hst λ v s' hP hst' hm=>?_);obtain ⟨a,kv,vv,kk,rfl,ha,⟨o,n',ho,hoc,hod⟩,hmi,hkk⟩:=hval i v hP;have mv':=mv.trans W.gtrans (hm.mono hsub);have ho':=mv'.heap a o ha ho;have hS':s'.heap.DictOf knd D (merged [] (more.take i)):=by
   obtain ⟨o,es,ep,ho,r⟩:=hS;exact ⟨o,es,ep,hm.heap D _ hDw ho,r⟩
  have hT:s'.TypeIs 155 "tuple":=⟨_,ho',hoc⟩;refine wpAny_bind (wpAny_holding ?_);have pr:∀ {Q:List Value->Shared->Prop}{E:XU},Q [kv,vv] s'->wpAny 118 A.in1 (Builtin.Dict.pairItems 155) Q E s':=λ {Q E} q=>by
   unfold Builtin.Dict.pairItems;refine wpAny_bind (wpAny_typeOf hT ?_);rw [if_pos 108];exact wpAny_bind (wpAny_seqItems ho' hod (wpAny_pure q))
  refine wpAny_bind (wpAny_tryCatch (pr ?_));show wpAny _ A.in1 (holding [kv,vv] (dictSet D kv vv)) _ _ s';refine wpAny_holding (wpAny_dictSet_pairs hkk hS' (λ h' hd' hsb=>?_) ?_)
  ·refine wpAny_pure ⟨plainId_quiet zM _,?_⟩;have e:((i:Int)+1)=((i+1:Nat):Int):=rfl;show codeAny _ A (.builtin "dict.update.loop" ⟨[.ref D,.ref I,.int ((i:Int)+1) 0,.none],[]⟩) R _;rw [e];refine ih (i+1) _ 0 109 hlt (W.frame _ s' _ _ hst' (Y1y _) λ b hb o e=>?_) (mv'.then_heap (Y1y _) λ b o hb e=>?_) ?_ hR
   ·exact (hsb.2 b (λ h:b=D=>hDf (h▸hb))).trans e
   ·exact (hsb.2 b (λ h:b=D=>hb (h▸Y05))).trans e
   ·rw [merged_take_succ _ _ _ _ hmi];exact hd'
  ·have h1:=YN ([]:List (K×Value)) (more.take i);rw [Y2y,Y2e] at h1;rw [sizeLine_eq];omega
end
section
variable {prog:156}{w:World}{A:Around}{E:XU}{s:130}{K:Type}[DecidableEq K]{knd:KeyKind prog w K}
theorem yF {l:Addr}{items:Array Value}{c:Nat}{sl:171}{more:List (K×Value)}{Q:XU} (hh:193) (hl:s.heap.get? l=some { cls:=.type "list",dict:=none,data:=.seq items c,slots:=sl }) (hn:items.size<=1000000) (hml:more.length=items.size)
  (hval:∀ (i:Nat) (v:Value),items[i]?=some v->∃ a kv vv k,v=.ref a/\Two s.heap a kv vv/\more[i]?=some (k,vv)/\knd.is k kv=true)
  (h:∀ h' tk,h'.DictOf knd s.heap.objs.size (merged [] more)->(∀ b o,s.heap.get? b=some o->h'.get? b=some o)->Q 159 { s with heap:=h',toks:=tk }) :
  wpAny 118 A (call (.type "dict") [.ref l]) Q E s:=by
 refine callType_codes (Q₁:=λ obj s₁=>obj=.ref s.heap.objs.size/\s₁={ s with heap:=s.heap.push { cls:=.type "dict",data:=.dict #[] } }) F.kt_called_dict (F.kt_typeCall_dict_1 _) F.entry_dict_init (kt_code_dict_new _ ⟨rfl,rfl⟩) ?_
 rintro obj s₁ ⟨rfl,rfl⟩
 have hnew:(s.heap.push { cls:=.type "dict",data:=.dict #[] }).DictOf knd s.heap.objs.size []:=Heap.DictOf.new s.heap;have hl1:(s.heap.push { cls:=.type "dict",data:=.dict #[] }).get? l=some { cls:=.type "list",dict:=none,data:=.seq items c,slots:=sl }:=Y02 _ hl;have hT:Shared.TypeIs { s with heap:=s.heap.push { cls:=.type "dict",data:=.dict #[] } } (.ref l) "list":=⟨_,hl1,rfl⟩;refine ⟨hnew.typeIs,F.args_dict_init_2 _ _,?_⟩;unfold Builtin.«dict.__init__»;refine wpAny_bind ?_;unfold Builtin.Dict.selfAndRest;refine wpAny_bind (wpAny_notOrdered_dict hnew.typeIs ?_);show wpAny _ _ (pure (s.heap.objs.size,[Value.ref l])) _ _ _;refine wpAny_pure ?_;show wpAny _ _ (Builtin.Dict.updateFrom "dict.__init__" s.heap.objs.size (.ref l) [] .none) _ _ _;unfold Builtin.Dict.updateFrom;refine wpAny_bind (wpAny_typeOf hT ?_);rw [if_pos 108];refine wpAny_bind (J3 hl1 hh λ h1 t1 k1=>?_);rw [if_pos 108];refine wpAny_bind (wpAny_rule ?_);have hl2:h1.IsList l items:=⟨_,k1 _ _ hl1,rfl,c,rfl⟩;refine wpAny_bind (wpAny_pyIter_list hl2 ?_);have hlt:l<s.heap.objs.size:=Y0f hl;have sz1:s.heap.objs.size<h1.objs.size:=by
  obtain ⟨o,_,_,e,_⟩:=hnew;exact Y0f (k1 _ _ e)
 have hne:l≠h1.objs.size:=Y0i (Y3t hlt sz1);have old:∀ b o,s.heap.get? b=some o->h1.get? b=some o:=λ b o e=>k1 b o (Y02 _ e);refine wpAny_pure ⟨plainId_quiet zM _,?_⟩;have hDf:s.heap.objs.size∉[h1.objs.size,l]:=by
  simp only [Y06,Y0g,Y0p,or_false,not_or];exact ⟨Y0i sz1,Y25 hlt⟩
 refine Gs (knd:=knd) ((Walks.list (prog:=prog) (w:=w) (A:=A.in1.in1) hh h1.objs.size l hne items).toS) s.heap.objs.size hDf more hn hml _ (λ i v hv=>?_) items.size 0 _ 0 109 (Y1h _) ⟨172,hl2.push _⟩ (Moved.refl λ _=>rfl) ?_ λ s' mv hd=>?_
 ·obtain ⟨a,kv,vv,k,e,⟨o,n',e1,e2,e3⟩,e4,e5⟩:=hval i v hv;have hla:=Y0f e1;refine ⟨a,kv,vv,k,e,?_,⟨o,n',Y02 _ (old a o e1),e2,e3⟩,e4,e5⟩;simp only [Y06,Y0g,Y0p,or_false,not_or];exact ⟨Y0i hla,Y0i (Y3t hla sz1)⟩
 ·obtain ⟨o,es,ep,ho,r⟩:=hnew;exact ⟨o,es,ep,Y02 _ (k1 _ _ ho),r⟩
 ·obtain ⟨h',g',d',tk',os'⟩:=s';have eg:g'=s.gens:=mv.gens;have ed:d'=s.drawn:=mv.drawn;have eo:os'=s.os:=mv.os;subst eg;subst ed;subst eo;refine ⟨rfl,h h' tk' hd λ b o e=>mv.heap b o ?_ (Y02 _ (old b o e))⟩;have hb:=Y0f e;simp only [Y06,Y0g,Y0p,or_false,not_or];exact ⟨Y0i hb,Y0i (Y3t hb sz1)⟩
end
section
variable {X:Cx}
theorem Qw {pins:115}{σ:St}{H:Hp}{s:130}(I:110):∀ {ys:157}{kvs:152}{its:XW},Paired (λ (x:V) (kv:Key×V)=>∃ a,x=.ref a/\SqT X.K H a [kV kv.1,kv.2]) ys kvs->Vals ys its ->
  ∃ more:List (Key×Value),KV kvs more/\more.length=its.length/\∀ (i:Nat) (v:Value),its[i]?=some v->∃ a kv vv k,v=.ref a/\Two s.heap a kv vv/\more[i]?=some (k,vv)/\(zt X.prog X.w).is k kv=true
 | _,_,_,.nil,.nil=>⟨[],.nil,rfl,λ i v h=>by simp at h⟩
 | _,_,_,@Paired.cons _ _ _ x kv ys kvs h t,.cons (b:=u) (l₂:=us) r rr=>by
  obtain ⟨more,m1,m2,m3⟩:=Qw I t rr;obtain ⟨a,rfl,q⟩:=h;have ru:u=.ref a:=r;subst ru;obtain ⟨its2,r2,⟨o,e1,e2,n,e3⟩,_⟩:=I.tuple q;cases r2 with
  | @cons _ kvv _ _ ra rt =>
   cases rt with
   | @cons _ vv _ _ rb rn =>
    cases rn;refine ⟨(kv.1,vv)::more,.cons ⟨rfl,rb⟩ m1,by rw [Y08,Y08,m2],λ i v hv=>?_⟩;cases i with
    | zero =>
     have:v=.ref a:=by simpa using hv.symm
     subst this;exact ⟨a,kvv,vv,kv.1,rfl,⟨o,n,e1,e2,e3⟩,rfl,yu ra⟩
    | succ i=>exact m3 i v (by simpa using hv)
def rDP (K:Y00):List V->Hp->VK->Prop:=λ xs H Q=>∃ p ys kvs,xs=[.ref p]/\SqL K H p ys/\ys.length<=1000000/\Paired (λ (x:V) (kv:Key×V)=>∃ a,x=.ref a/\SqT K H a [kV kv.1,kv.2]) ys kvs/\∀ l,H l=none->Q (.ref l) (upd H l (.dK (yc [] kvs)))
theorem YO (hc:X.calm=true):j1 X (.type "dict") (rDP X.K):=by
 rintro pins s σ H xs us Q I r ⟨p,ys,kvs,rfl,hl,hn,hp,q⟩
 cases r with
 | cons r rr =>
  cases rr;cases r;obtain ⟨its,rv,⟨o,n,e1,e2,e3,e4⟩,hz⟩:=I.list hl;obtain ⟨c,dct,dat,sl⟩:=o;simp only at e2 e3 e4;subst e2 e3 e4;obtain ⟨more,m1,m2,m3⟩:=Qw I hp rv;have hle:=rv.length;have hkl:kvs.length=ys.length:=hp.length.symm;refine yF (knd:=zt X.prog X.w) (more:=more) (I.ok.hd hc) e1 (by simp only [Y0a];omega) (by simp only [Y0a];exact m2) (λ i v hv=>m3 i v (by simpa using hv)) λ h' tk dd old=>?_;have hz:(yc [] kvs).length<=sizeLine:=by
   have h1:=qm kvs [];rw [Y2y] at h1;rw [sizeLine_eq];omega
  exact ⟨.ref _,_,I.laid (t':=tk) old 169 (OC hz (beq_eq_false_iff_ne.mpr (Ne.symm (Y0i I.big))) (m1.merge .nil) dd),rfl,q _ (I.hok.fresh 169)⟩
end
section
variable {prog:156}{w:World}{A:Around}{E:XU}{s:130}
theorem Ju {it t:Addr}{items:Array Value}(hne:t≠it):∀ (n i:Nat) (s:130) (Q:List Value->Shared->Prop),s.heap.IsListIter it t i->s.heap.IsList t items->i+n<=items.size ->
  (∀ h',h'.IsListIter it t (i+n)->Heap.SameBut it s.heap h'->Q ((items.toList.drop i).take n) { s with heap:=h' })->wpAny 118 A (draw (.ref it) n) Q E s
 | 0,i,s,Q,hit,_,_,hQ=>by
  show wpAny _ _ (pure []) Q E s;exact wpAny_pure (by simpa using hQ s.heap hit (Heap.SameBut.refl ..))
 | n+1,i,s,Q,hit,ht,hle,hQ=>by
  have hlt:i<items.size:=by omega
  show wpAny _ _ (pyNext (.ref it) >>= _) Q E s;refine wpAny_bind (wpAny_pyNext_list_item hit ht (x:=items[i]) (by simp [hlt]) λ h₁ hit₁ hs₁=>?_);refine wpAny_bind (wpAny_holding (Ju hne n (i+1) _ _ hit₁ (ht.extBut hs₁.extBut hne) 109 λ h₂ hit₂ hs₂=>wpAny_pure ?_));have hd:items.toList.drop i=items[i]::items.toList.drop (i+1):=by simp [Y34,hlt]
  have:=hQ h₂ (by rw [show i+(n+1)=i+1+n by omega];exact hit₂) (hs₁.trans hs₂)
  rw [hd,List.take_succ_cons] at this;exact this
theorem yd {t:Addr}{items:Array Value}{Q:List Value->Shared->Prop}(hh:193)(ht:s.heap.IsList t items)
  (hQ:∀ h',Heap.ExtBut s.heap.objs.size s.heap h'->Q items.toList { s with heap:=h' }):wpAny 118 A (unpackItems (.ref t) items.size none) Q E s:=by
 have hlt:t≠s.heap.objs.size:=by obtain ⟨o,ho,_⟩:=ht;exact Y0i (Y0f ho)
 unfold unpackItems;refine wpAny_bind ?_;unfold notIterableAtAll;refine wpAny_bind (wpAny_specialOf ht.typeIs slot_list_iter.lookup ?_);refine wpAny_pure ?_;simp only [Y31,if_false];refine wpAny_bind (wpAny_holding (wpAny_pyIter_list ht ?_));refine wpAny_bind (wpAny_holding (Ju hlt items.size 0 _ _ 172 (ht.push _) 109 λ h₁ hit₁ hs₁=>?_));have hall:List.take items.size (List.drop 0 items.toList)=items.toList:=by
  rw [List.drop_zero];exact List.take_of_length_le 111
 rw [hall];rw [if_neg 111];have ht₁:h₁.IsList t items:=(ht.push _).extBut hs₁.extBut hlt;refine wpAny_bind (wpAny_holding (wpAny_pyNext_list_end hh hit₁ ht₁ 111 λ h₂ he₂=>?_));simp only [Option.isSome_none,Y31,if_false];exact wpAny_pure (hQ h₂ λ b o hb e=>he₂ b o hb (hs₁.extBut b o hb (Y02 _ e)))
theorem qF {env:Env}{elts:List Expr}{x1}{pos:Pos}{t:Addr}{items:Array Value}{Q:Unit->Shared->Prop}(hh:193)(ht:s.heap.IsList t items)
  (hn:(assignEach elts env).length=items.size) (hstar:(assignEach elts env).findIdx? (·.1)=none)
  (h:∀ h',Heap.ExtBut s.heap.objs.size s.heap h'->wpAny 118 A (assignInOrder ((assignEach elts env).map (·.2)) items.toList) Q E { s with heap:=h' }) :
  wpAny 118 A (assign (.Tuple elts x1 pos) env (.ref t)) Q E s:=by
 rw [arm_assign_Tuple];refine wpAny_bind (wpAny_standAt ?_);unfold unpack;rw [hn,hstar];exact wpAny_bind (wpAny_holding (yd hh ht h))
end
section
variable {X:Cx}{pos:Pos}
def gTL (K:Y00)(n:Nat)(t:TGs):TG:=λ v σ H Q=>∃ a xs,v=.ref a/\(SqT K H a xs\/SqL K H a xs)/\xs.length=n/\t xs σ H Q
theorem z1w {es:List Expr}{k:Nat}{t:TGs}{n:Nat}(hc:X.calm=true)(h:PGs X es t)
  (hn:(assignEach es X.env).length=n:=by rfl) (hst:(assignEach es X.env).findIdx? (·.1)=none:=by rfl):PG X (.Tuple es k pos) (gTL X.K n t):=by
 intro pins s σ H v u Q I r hw;obtain ⟨a,xs,e1,hq,hl,hw⟩:=hw;subst e1;rcases hq with hq | hq
 ·exact Oi hc h hn hst pins s σ H _ u Q I r ⟨a,xs,rfl,hq,hl,hw⟩
 cases r;obtain ⟨its,rv,⟨o,c,e1,e2,e3,e4⟩,hz⟩:=I.list hq;refine qF (I.ok.hd hc) (items:=its.toArray) ⟨o,e1,e2,c,e4⟩ (by simp [hn,<- hl,rv.length]) hst λ h' hx=>?_;have I1:Inv X pins σ H { s with heap:=h' }:=I.kept (t':=s.toks) λ b o e=>hx b o (Y0i (Y0f e)) e
 exact h pins _ σ H xs _ Q I1 (by simpa using rv) hw
end
section
variable {X:Cx}
def zan:V->Option Int->Option Int->Hp->VK->Prop:=λ x lo hi H Q=>∃ z,x=.str z/\z.length<=sizeLine/\Q (.str (Txt.slice z lo hi)) H
theorem z60:SlR X zan:=by
 intro pins s σ H x v vl vu lo hi sl Q I rx hs pl pu h;obtain ⟨z,rfl,hz,q⟩:=h;obtain ⟨t,rfl⟩:=rx;obtain ⟨os,hos,hcs,hds⟩:=hs;refine ⟨"str",_,F.slot_str_getitem.lookup,typeIs_str _ _ _,?_⟩;cases pl with
 | none =>
  cases pu with
  | none=>exact wpAny_getItem_str_slice (l:=none) (u:=none) (st:=none) ⟨os,hos,hcs,hds⟩ rfl 145
  | int j uj=>exact wpAny_getItem_str_slice (l:=none) (u:=some (j,uj)) (st:=none) ⟨os,hos,hcs,hds⟩ rfl 145
 | int i ui =>
  cases pu with
  | none=>exact wpAny_getItem_str_slice (l:=some (i,ui)) (u:=none) (st:=none) ⟨os,hos,hcs,hds⟩ rfl 145
  | int j uj=>exact wpAny_getItem_str_slice (l:=some (i,ui)) (u:=some (j,uj)) (st:=none) ⟨os,hos,hcs,hds⟩ rfl 145
end
def Zd:V->Bool
 | .non=>true
 | _=>false
def z61 (K:Y00):R2:=λ x y H Q=>∃ p xs,x=.non/\y=.ref p/\(SqL K H p xs\/SqT K H p xs)/\(∀ v∈xs,jI v=true\/∃ a ts,v=.ref a/\SqT K H a ts)/\Q (.bl (xs.any Zd)) H
section
variable {X:Cx}
theorem z62 {v:V}{u:Value}{H:Hp}{K:Y00}(r:RelV v u)(f:jI v=true\/∃ a ts,v=.ref a/\SqT K H a ts):eqU .non u=Zd v:=by
 rcases f with f | ⟨a,ts,rfl,_⟩
 ·rw [W8 r f];cases v<;>first | rfl | exact absurd (show false=true from f) Y0x
 ·cases r;rfl
theorem We {H:Hp}{K:Y00}:∀ {xs:157}{us:XW},Vals xs us->(∀ v∈xs,jI v=true\/∃ a ts,v=.ref a/\SqT K H a ts)->us.any (eqU .non)=xs.any Zd
 | _,_,.nil,_=>rfl
 | y::xs,u::us,.cons r t,f=>by
  rw [Y0u,Y0u,z62 r (f y (Y05 ..)),We t λ v hv=>f v (Y03 _ hv)]
theorem Wf {pins:115}{σ:St}{H:Hp}{s:130}{A:Around}(I:110)(hu:A.units<cLine):∀ {xs:157}{us:XW},Vals xs us->(∀ v∈xs,jI v=true\/∃ a ts,v=.ref a/\SqT X.K H a ts)->∀ u∈us,SeqAt.EqAt A s u .none (eqU .non u)
 | _,_,.nil,_=>λ u hu=>by cases hu
 | y::xs,u::us,.cons r t,f=>λ u' hu'=>by
  rcases Y06.mp hu' with rfl | hu'
  ·rcases f y (Y05 ..) with fy | ⟨a,ts,rfl,sq⟩
   ·rw [W8 r fy];exact Ox r (show RelV .non .none from rfl) fy rfl
   ·cases r;obtain ⟨its,_,pl,_⟩:=I.tuple sq;exact SeqAt.EqAt.tuple_none pl hu
  ·exact Wf I hu t (λ v hv=>f v (Y03 _ hv)) u' hu'
theorem YQ (hu:X.A.in1.units<cLine):OpR X (compareOp .In) (z61 X.K):=by
 intro pins s σ H x y v u Q I rx ry h;obtain ⟨p,xs,rfl,rfl,hq,fs,q⟩:=h;cases rx;cases ry;rcases hq with hq | hq
 ·obtain ⟨its,r,pl,hz⟩:=I.list hq;refine SeqAt.in_listAt (eqU .non) pl.isList (λ w hw=>Wf I hu r fs w (by simpa using hw)) ⟨.bl _,H,I,rfl,?_⟩;rw [show its.toArray.any (eqU .non)=its.any (eqU .non) by simp,We r fs];exact q
 ·obtain ⟨its,r,pl,hz⟩:=I.tuple hq;refine SeqAt.in_tupleAt (eqU .non) pl (λ w hw=>Wf I hu r fs w (by simpa using hw)) ⟨.bl _,H,I,rfl,?_⟩;rw [show its.toArray.any (eqU .non)=its.any (eqU .non) by simp,We r fs];exact q
end
end L2
namespace L2
open PySem PySem.W PySem.Spec PyProof.Rows PySem.Calls PySem.Builtin PySem.Builtin.ObjectAttr PySem.Builtin.Getset_descriptor
structure ExC (K:Y00)(C:Addr):Prop where
 ga:findIn K (.ref C) "__getattribute__"=some (some (.builtin "BaseException.__getattribute__"))
 ng:findIn K (.ref C) "__getattr__"=some none
 cl:findIn K (.ref C) "__class__"=some (some (.builtin "object.__class__"))
 bx:mroIn K C (.type "BaseException")=some true
 ob:mroIn K C (.type "object")=some true
 is:(clsIn K C).isSome=true
end L2
namespace L2
open PySem PySem.Spec PyProof.Rows
def ON (C:Addr)(sp:Sp)(Z:ZK)(t:TA):TE:=λ σ H Q=>t σ H λ vs H1=>∀ x dx,H1 x=none->H1 dx=none->dx≠x ->
 sp (.ref x::vs) (upd (upd H1 dx (.own x)) x (.ins C dx [])) (λ v H2=>v=.non/\Q (.ref x) H2) (λ C _ H'=>Z σ C H')
section
variable {X:Cx}{k:Nat}{f C:Addr}{fd:FuncData}{ps:XQ}{sp:Sp}{Z:ZK}{x:Str}{p pos:Pos}{e:Expr}{es:List Expr}{t:TA}
theorem Gu {pins:115}{σ:St}{H:Hp}{s:130}{Q:VK}{us:XW}{vs:157}(M:Mk X.K C f)(F:202)(hr:Room (k+1) X.A)(hb:Binds X.K fd ps [])
  (th:Thr X Z) (I:110) (r:Vals vs us)
  (h:∀ x dx,H x=none->H dx=none->dx≠x->sp (.ref x::vs) (upd (upd H dx (.own x)) x (.ins C dx [])) (λ v H2=>v=.non/\Q (.ref x) H2) (λ C _ H'=>Z σ C H')) :
  wpAny 116 X.A (call (.ref C) us) (EP X pins σ Q) X.xe s:=by
 have hq:=h 151 s.heap.objs.size (I.hok.fresh (Y1y _)) (I.hok.fresh 169) (Y0i (Y1n _));have I2:=Inv.made (C:=C) I;have r2:Vals (V.ref 151::vs) (Value.ref 151::us):=.cons rfl r;have hl:((Value.ref 151::us)++[]).length=ps.length:=by
  have e:=r2.length;rw [F.len _ _ _ _ hq] at e;rw [Y13];exact e.symm
 have hb2:=hb _ (Value.ref 151::us) I2.kIn hl;rw [Y13] at hb2;refine wpAny_call (Os (f:=f) I.kIn M.makes M.init (beq_iff_eq.mp M.fn) (codeAny_mono (F.run _ X.stack _ _ ⟨Value.ref 151::us,[]⟩ (Value.ref 151::us) _ _ _ (hr.make C us [])
  (I2.env0.make C us []) hb2 r2 hq) λ r s' hq'=>?_))
 cases r with
 | error e =>
  have hq2:CXs X.prog X.w X.stack _ _ (λ C _ H'=>Z σ C H') e s':=hq';obtain ⟨a,C,t,H',rfl,I',F',z⟩:=I2.thrown th.toXOk hq2;exact th.go I' F' z
 | ok fl =>
  cases fl with
  | ret u =>
   obtain ⟨v,H',I3,rv,ev,q3⟩:=I2.after hq';subst ev;exact ⟨rv,⟨V.ref 151,H',I3,rfl,q3⟩⟩
  | next=>exact False.elim hq'
  | brk=>exact False.elim hq'
  | cont=>exact False.elim hq'
theorem OO (M:Mk X.K C f)(F:202)(hr:Room (k+1) X.A)(hg:Gl X x)(hm:X.mg x=some (.ref C))(hb:Binds X.K fd ps [])(th:Thr X Z)
  (ha:PA X (e::es) t) (hdb:143=false:=by decide) (he:starEach (e::es) X.env=(false,eval e X.env)::starEach es X.env:=by rfl) (hpl:(backTo pos (starEach es X.env)).any (·.1)=false:=by rfl) :
  PE X (.Call (.Name x p) (e::es) [] pos) (ON C sp Z t):=by
 intro pins s σ H Q I h;refine wpAny_Call_Name_kw (W0 I hg hm ?_ hdb);refine PySem.W.callWith_K (h₀:=X.base) I.ok.mod.kin M.kp (thn (ha pos pins s σ H _ I h) λ us s1 ⟨vs,H1,I1,r,q⟩=>⟨I1.kIn,?_⟩) he hpl;exact Gu M F hr hb th I1 r q
end
abbrev zao (h:Heap)(z TI TO:Addr)(f0:Value)(f1:Bool):Prop :=
 h.get? z=some { cls:=.type "zip",dict:=none,data:=.fields #[f0,.bool f1,.bool false,.ref TI,.ref TO],slots:=#[] }
def okF (f0:Value):Prop:=f0=.none\/∃ a t,f0=.int a t
structure ZL (h:Heap)(z TI TO i1 i2 l1 l2 S B:Addr)(xs ys:Array Value)(c i:Nat)(Ts:XV):Prop where
 zs:∃ f0 f1,zao h z TI TO f0 f1/\okF f0
 ti:IsPair h TI (.ref i1) (.ref i2)
 to:∃ a b,IsPair h TO a b
 s1:SIt h i1 l1 i xs
 s2:SIt h i2 l2 i ys
 ls:h.get? S=some { cls:=.type "list",dict:=none,data:=.seq (Ts.map Value.ref).toArray c,slots:=#[] }
 sz:Ts.length=i
 it:∀ (j:Nat) (T:Addr),Ts[j]?=some T->B<=T/\∃ x y,xs[j]?=some x/\ys[j]?=some y/\IsPair h T x y
 nd:Ts.Nodup
variable {X:Cx}
theorem V4:∀ {is:195}{us:XW},Vals (is.map V.int) us->us.length=is.length/\∀ (i:Nat) (v:Value),us[i]?=some v->∃ t,v=Value.int ((is[i]?).getD 0) t
 | [],_,.nil=>⟨rfl,λ i v h=>by simp at h⟩
 | j::r,_,.cons h q=>by
  obtain ⟨l,g⟩:=V4 q;refine ⟨by simp [l],λ i v e=>?_⟩;cases i with
  | zero=>obtain ⟨t,rfl⟩:=h;simp at e;subst e;exact ⟨t,rfl⟩
  | succ i=>simpa using g i v (by simpa using e)
theorem V5:∀ (is:195) (n:Nat),preSum (λ i=>(is[i]?).getD 0) n=(is.take n).sum
 | is,0=>rfl
 | is,n+1=>by
  show preSum _ n+_=_;rw [V5 is n,List.take_add_one,List.sum_append];cases e:is[n]? with
  | none=>simp [e]
  | some x=>simp [e]
theorem Gv (hc:X.calm=true):j1 X (.builtin "sum") (λ xs H Q=>∃ (p:Addr) (is:195),xs=[.ref p]/\SqL X.K H p (is.map V.int)/\Q (.int is.sum) H):=by
 intro pins s σ H xs us Q I r h;obtain ⟨p,is,rfl,hq,q⟩:=h;obtain ⟨u,rfl,ru⟩:=jV r;cases ru;obtain ⟨its,rv,pl,hz⟩:=I.list hq;obtain ⟨ll,hb⟩:=V4 rv;have hl:s.heap.IsList p its.toArray:=pl.isList;have hlt:p<s.heap.objs.size:=by obtain ⟨_,e,_⟩:=hl;exact Y0f e
 refine call_sum_walkAnyS (wpAny_pyIter_list hl ?_);refine ⟨s.heap.objs.size,[s.heap.objs.size,p],[s.heap.objs.size],_,its.toArray.size,_,_,λ i=>(is[i]?).getD 0,rfl,(Walks.list (A:=X.A.in1) (I.ok.hd hc) _ p (Y0i hlt) its.toArray).toS,
  ⟨172,hl.push _⟩,λ b hb=>?_,λ i v hP=>hb i v (by simpa using hP),λ s' t' hm=>?_⟩
 ·rcases Y06.mp hb with rfl | hb
  ·exact Y0f (Y0d _ rfl)
  ·obtain rfl:=Y0g.mp hb;obtain ⟨o,e,_⟩:=hl;exact Y0f (Y02 _ e)
 ·obtain ⟨h',g',d',tk',os'⟩:=s';have e1:g'=s.gens:=hm.gens;have e2:d'=s.drawn:=hm.drawn;have e3:os'=s.os:=hm.os;subst e1 e2 e3;rw [V5,Y0a,ll,List.take_length];exact ⟨.int is.sum,H,I.kept (λ b o e=>hm.heap b o (λ hb=>absurd (Y0f e) ((Y0g.mp hb)▸Y1d _)) (Y02 _ e)),125,q⟩
end L2
namespace L2
open PySem PySem.Spec PyProof.Rows
section
variable {X:Cx}
def z8i (i j:Int):Prop:=0<j/\j<1267650600228229401496703205376
theorem OP:OpR X (binaryOp .FloorDiv) (rI z8i λ i j=>.int (i/j)):=opI λ i j _ _ _ _ _ hc q=>by
 have h1:(0:Int)<j:=hc.1;have h2:j<1267650600228229401496703205376:=hc.2;refine floordiv_int 109 (by rw [Int.fdiv_eq_ediv_of_nonneg i 109];exact q) (.inl (PyProof.noPylong_of_log2 ?_));have hz:j.natAbs≠0:=by omega
 have:j.natAbs.log2<100:=by
  rw [Nat.log2_lt hz];have e:(2:Nat) ^ 100=1267650600228229401496703205376:=by decide +kernel
  rw [e];omega
 omega
end
section
variable {X:Cx}{pins:115}{σ:St}{H:Hp}{s:130}{a b:Addr}{v:V}{r:Value}{o:Option V}{A:Around}{E:XU}{kvs:List (List Key×V)}{k:List Key}
def DT (H:Hp)(a:Addr)(kvs:List (List Key×V)):Prop:=H a=some (.dT kvs)\/(H a=some (.dK [])/\kvs=[])
theorem YR (I:110)(e:SqT X.K H b (k.map kV)):(tupleKind (zt X.prog X.w)).is s.heap k b:=by
 obtain ⟨its,r,⟨o,h1,h2,n,h3⟩,_⟩:=I.tuple e;exact ⟨o,its.toArray,n,h1,h2,h3,by simpa using yb r⟩
theorem YS {P:156}{w:World}{h:Heap}(ok:HOk P w H h)(e:DT H a kvs):kvs.length<=sizeLine/\(a==sysModules)=false /\
  ∃ xs,KT H kvs xs/\h.DictOfH (tupleKind (zt P w)) a xs:=by
 rcases e with e | ⟨e,rfl⟩
 ·exact z44 ok e
 ·obtain ⟨z,hd,vs,rel,o,es,ep,h1,h2,h3,_,h4,_⟩:=Qn ok e;cases rel;have h5:es.toList=[]:=by
   cases q:es.toList with
   | nil=>rfl
   | cons x r=>rw [q] at h4;cases h4
  exact ⟨Y1h _,hd,[],.nil,o,es,ep,h1,h2,h3,h5,λ x hx=>(nomatch hx),.nil⟩
theorem Gy {Q:XU}(hu:A.units+1<cLine)(I:110)(g:DT H a kvs)(eb:SqT X.K H b (k.map kV))(l:jT kvs k=some v)(h:∀ w' s',Inv X pins σ H s'->RelV v w'->Q w' s') :
  wpAny 116 A (getItem 155 (.ref b)) Q E s:=by
 obtain ⟨z,hd,xs,rel,dd⟩:=YS I.hok g;obtain ⟨w',hw,rw'⟩:=RelO.some_of (v:=v) (o:=(atKey xs k).map (·.2)) (by rw [<- l];exact rel.val k);obtain ⟨p,hp,hp2⟩:=Y21.mp hw;refine wpAny_getItem_heap (tupleKind_room_in1 hu) (YR I eb) dd hp ?_;rw [hp2];exact h w' _ (I.tok _) rw'
theorem OQ {Q:XU}(hu:A.units+1<cLine)(I:110)(g:DT H a kvs)(eb:SqT X.K H b (k.map kV))(h:∀ s',Inv X pins σ H s'->Q (.bool (jT kvs k).isSome) s') :
  wpAny 116 A (compareOp .In (.ref b) 155) Q E s:=by
 obtain ⟨z,hd,xs,rel,dd⟩:=YS I.hok g;refine wpAny_in_heap (tupleKind_room_in1 hu) (YR I eb) hd dd ?_;have q:=(rel.val k).isSome_eq;rw [Y2n] at q;rw [<- q];exact h _ (I.tok _)
theorem V6 {Q:XU}(hu:A.units+1<cLine)(I:110)(g:DT H a kvs)(eb:SqT X.K H b (k.map kV))(h:∀ s',Inv X pins σ H s'->Q (.bool (!(jT kvs k).isSome)) s') :
  wpAny 116 A (compareOp .NotIn (.ref b) 155) Q E s:=by
 obtain ⟨z,hd,xs,rel,dd⟩:=YS I.hok g;refine wpAny_notIn_heap (tupleKind_room_in1 hu) (YR I eb) hd dd ?_;have q:=(rel.val k).isSome_eq;rw [Y2n] at q;rw [<- q];exact h _ (I.tok _)
end
def cutS {α:Type}(xs:List α)(lo hi:Option Int)(st:Int):List α:=(sliceRange (sliceBounds lo hi (some st) xs.length).1 (sliceBounds lo hi (some st) xs.length).2.1 (sliceBounds lo hi (some st) xs.length).2.2).filterMap λ i=>xs[i]?
theorem Jv {xs:157}{its:XW}(r:Vals xs its):∀ is:List Nat,Vals (is.filterMap λ i=>xs[i]?) (is.filterMap λ i=>its[i]?)
 | []=>.nil
 | i::is=>by
  have ih:=Jv r is;cases e:xs[i]? with
  | none =>
   have e2:its[i]?=none:=by
    rw [Y33] at e ⊢;rw [<- r.length];exact e
   rw [Y2i e,Y2i e2];exact ih
  | some x =>
   obtain ⟨u,e2,ru⟩:=r.get e;rw [Y2h e,Y2h e2];exact .cons ru ih
section
variable {X:Cx}{e st:Expr}{lo hi:Option Expr}{te ts:TE}{tl th:TO}{p2 pos:Pos}
def z8j (K:Y00)(te:TE)(tl th:TO)(ts:TE):TE:=λ σ H Q=>te σ H λ x H1=>tl σ H1 λ l H2=>th σ H2 λ u H3=>ts σ H3 λ y H4=>∃ k a xs,y=.int k/\0<k/\x=.ref a/\SqL K H4 a xs/\∀ p,H4 p=none->Q (.ref p) (upd H4 p (.lst (cutS xs l u k)))
theorem z1x (he:PE X e te)(hl:PO X lo tl)(hu:PO X hi th)(hs:PE X st ts):PE X (.Subscript e (.Slice lo hi (some st) p2) pos) (z8j X.K te tl th ts):=by
 intro pins s σ H Q I h;refine Subscript_ (thn (he pins s σ H _ I h) λ v s1 ⟨x,H1,I1,r1,q1⟩=>?_);refine wpAny_Slice (thn (hl pins s1 σ H1 _ I1 q1) λ vl s2 ⟨l,H2,I2,pl,q2⟩=>thn (hu pins s2 σ H2 _ I2 q2) λ vu s3 ⟨u,H3,I3,pu,q3⟩=>?_);show wpAny _ _ (eval st X.env) _ _ _;refine thn (hs pins s3 σ H3 _ I3 q3) λ w s4 ⟨y,H4,I4,r4,q4⟩=>?_;obtain ⟨k,a,xs,rfl,hk,rfl,hx,q⟩:=q4;obtain ⟨tk,rfl⟩:=r4;cases r1;have I5:Inv X pins σ H4 { s4 with heap:=s4.heap.push { cls:=.type "slice",data:=.fields #[vl,vu,.int k tk] } }:=I4.kept (t':=s4.toks) λ b ob q=>Y02 _ q;obtain ⟨its,r,ht,hz⟩:=I5.list hx;have hlen:its.toArray.size=xs.length:=by rw [Y0a];exact r.length.symm
 show wpAny 116 X.A (subscriptTail e (.Slice lo hi (some st) p2) 155 (.ref s4.heap.objs.size)) (EP X pins σ Q) X.xe { s4 with heap:=s4.heap.push { cls:=.type "slice",data:=.fields #[vl,vu,.int k tk] } };refine tail_any (ops:=[.ref a,.ref s4.heap.objs.size]) ht.isList.typeIs slot_list_getitem.lookup (wpAny_getItem_list_slice ht.isList (Heap.IsSliceOf.new ..) pl pu (.int _ _) (by intro z;cases z;omega) ?_ (by rw [hlen];exact hz)) (by with_unfolding_all rfl);have e1:slicePick its.toArray l u (some k)=(((sliceRange (sliceBounds l u (some k) xs.length).1 (sliceBounds l u (some k) xs.length).2.1 (sliceBounds l u (some k) xs.length).2.2).filterMap λ i=>its[i]?)).toArray:=by
  unfold slicePick;rw [hlen];simp
 have sz:=slicePick_size_le its.toArray l u (some k);rw [hlen] at sz;have vv:=Jv r (sliceRange (sliceBounds l u (some k) xs.length).1 (sliceBounds l u (some k) xs.length).2.1 (sliceBounds l u (some k) xs.length).2.2);refine ⟨.ref _,_,I5.laid (t':=s4.toks) (o:=.lst (cutS xs l u k)) (λ b ob q=>Y02 _ q) 169 ?_,rfl,q _ (I5.hok.fresh 169)⟩;refine ⟨?_,_,0,vv,by rw [e1];exact Y0d _ rfl⟩
 have:=vv.length
 unfold cutS;rw [this];rw [e1,Y0a] at sz;omega
end
theorem z46 {P:156}{w:World}{k:Key}{u:Value}(r:(zt P w).is k u=true):RelV (kV k) u:=by
 rcases zN (show yX k u=true from r) with ⟨i,t,rfl,rfl⟩ | ⟨x,t,rfl,rfl⟩
 ·exact ⟨t,rfl⟩
 ·exact ⟨t,rfl⟩
theorem DGet.fk {H:Hp}{a:Addr}{kvs:152}{k:Key}(e:Rd H a 192):DGet H a (kV k) (jT kvs k):=.inl ⟨kvs,k,e,rfl,rfl⟩
theorem ObjOk.reH {P:156}{w:World}{H:Hp}{h:Heap}{a b:Addr}{v:HO}(ha:∀ xs,H a≠some (.tup xs))(ho:∀ x,H a≠some (.own x)):∀ {u:HO},ObjOk P w H h b u->ObjOk P w (upd H a v) h b u:=by
 intro u
 induction u with
 | dT kvs =>
  rintro ⟨x1,x2,xs,x3,x4⟩
  exact ⟨x1,x2,xs,L2.Paired.imp' (λ p q hq=>⟨hq.1,by rw [zl (λ z=>ha _ (z▸hq.2.1))];exact hq.2.1,hq.2.2⟩) x3,x4⟩
 | ins C dx fs =>
  rintro ⟨x1,x2⟩
  exact ⟨by rw [zl (λ z=>ho _ (z▸x1))];exact x1,x2⟩
 | frz o u ih =>
  rintro ⟨x1,x2⟩
  exact ⟨x1,ih x2⟩
 | _=>exact λ x=>x
theorem Inv.freeze {X:Cx}{pins:115}{σ:List (Option V)}{H:Hp}{s:130}{a:Addr}{kvs:152}{o:Obj}(I:110)(e:H a=some 192)(ho:s.heap.get? a=some o):Inv X pins σ (upd H a (.frz o 192)) s:=by
 have ne:∀ b,H b=none->b≠a:=λ b hb z=>by rw [z,e] at hb;cases hb
 refine ⟨I.ok,I.os,I.bare,⟨I.base.keep,I.base.slot,λ b ob q n hx=>?_,I.base.there,λ b xs q=>?_,λ b ob u q=>?_,λ b ps q=>?_⟩,I.loc,I.cell,?_,λ x c hc=>?_,λ p hp=>?_,λ b u hb=>?_,I.len⟩
 ·have:=I.base.free b ob q n hx
  rw [zl (ne b this)];exact this
 ·have:=I.base.tups b xs q
  rw [zl (λ z=>by rw [z,e] at this;cases this)];exact this
 ·have:=I.base.frzs b ob u q
  rw [zl (λ z=>by rw [z,e] at this;cases this)];exact this
 ·obtain ⟨m,hm⟩:=I.base.tbls b ps q;exact ⟨m,by rw [zl (λ z=>by rw [z,e] at hm;cases hm)];exact hm⟩
 ·rw [zl (ne _ I.free)];exact I.free
 ·rw [zl (ne _ (I.freeC x c hc))];exact I.freeC x c hc
 ·obtain ⟨p1,p2,p3⟩:=I.pin p hp;exact ⟨p1,by rw [zl (ne _ p2)];exact p2,p3⟩
 ·have n1:∀ xs,H a≠some (.tup xs):=λ xs z=>by rw [e] at z;cases z
  have n2:∀ x,H a≠some (.own x):=λ x z=>by rw [e] at z;cases z
  by_cases z:b=a
  ·subst z;rw [zw] at hb;cases hb;exact ⟨ho,ObjOk.reH n1 n2 (I.hok _ _ e)⟩
  ·rw [zl z] at hb;exact ObjOk.reH n1 n2 (I.hok b u hb)
def Itk (d:Addr)(o:Obj)(kvs:152):It :=
 ⟨λ i H=>i<kvs.length/\H d=some (.frz o 192),λ i H x H'=>H'=H/\∃ k v,kvs[i]?=some (k,v)/\x=kV k,λ i H=>i=kvs.length/\H d=some (.frz o 192)⟩
theorem jB {α β:Type}{R:α->β->Prop}:∀ {xs:List α}{ys:List β},Paired R xs ys->xs.length=ys.length:=λ p=>by
 induction p with
 | nil=>rfl
 | cons _ _ ih=>rw [Y08,Y08,ih]
theorem YT {α β:Type}{R:α->β->Prop}{xs:List α}{ys:List β}(p:Paired R xs ys):∀ {i:Nat}{x:α},xs[i]?=some x->∃ y,ys[i]?=some y/\R x y:=by
 induction p with
 | nil=>intro i x e;simp at e
 | cons r _ ih =>
  intro i x e;cases i with
  | zero=>simp at e;subst e;exact ⟨_,rfl,r⟩
  | succ i=>exact ih (by simpa using e)
theorem IsKeyIter.at' {h h':Heap}{it d:Addr}{i n ep:Nat}(st:h.IsKeyIter it d i n ep)(k:∀ o,h.get? it=some o->h'.get? it=some o):h'.IsKeyIter it d i n ep:=by
 obtain ⟨o,e,c,q⟩:=st;exact ⟨o,k o e,c,q⟩
theorem Gz {P:156}{w:World}{K:Y00}{tg:Expr}(d it:Addr)(o:Obj)(es:Array DictEntry)(ep:Nat)(kvs:152)(hd:o.data=.dict es ep):Turn P w K tg (Itk d o kvs) [it] it (λ i h=>h.IsKeyIter it d i kvs.length ep) where
 mem:=by simp
 obj:=λ i h st b hb=>by
  have e:b=it:=by simpa using hb
  subst e;obtain ⟨o,e,c,d⟩:=st;exact ⟨o,e,λ v z=>by rw [d] at z;cases z⟩
 keep:=λ i h h' st k=>IsKeyIter.at' st λ o e=>k it 111 o e
 item:=by
  intro X hP hw hK hc i pins s σ H E I hf st hg;subst hP hw hK;obtain ⟨hi,hq⟩:=hg;obtain ⟨hg1,_,_,vs,rel,o',es',ep',ho',hx',hd',hk',hp',hn'⟩:=I.hok d _ hq;rw [hg1] at ho';cases ho';rw [hd] at hd';cases hd';obtain ⟨k,v,hkv⟩:∃ k v,kvs[i]?=some (k,v):=⟨_,_,Y07 hi⟩;obtain ⟨⟨k',u⟩,hu,hk,ru⟩:=YT rel hkv;have hk:k=k':=hk;subst hk;have len:=jB rel;obtain ⟨f0,f1,f2,f3,f4,f5⟩:=hf it 111;have dat:Heap.DictAt (zt X.prog X.w) s.heap d vs ep:=⟨o,es,hg1,hx',hd,hk',hp',hn'⟩;refine wpAny_pyNext_dict_item (len▸st) dat hu λ key h' hkey st' sb=>?_;have I1:Inv X pins σ H { s with heap:=h' }:=I.turned (t':=s.toks) (λ b o hb e=>(sb.2 b hb).trans e) f0 f1 f3 f4 f5;obtain ⟨o2,e2,c2,d2⟩:=id st';exact ⟨key,rfl,Jg (s:={ s with heap:=h' }) e2 c2 d2 108 ⟨kV k,H,I1,z46 hkey,⟨rfl,k,v,hkv,rfl⟩,len▸st',λ b hb=>(hf b hb).1⟩⟩
 done:=by
  intro X hP hw hK hc i pins s σ H E I hf st hg;subst hP hw hK;obtain ⟨hi,hq⟩:=hg;obtain ⟨hg1,_,_,vs,rel,o',es',ep',ho',hx',hd',hk',hp',hn'⟩:=I.hok d _ hq;rw [hg1] at ho';cases ho';rw [hd] at hd';cases hd';have len:=jB rel;obtain ⟨f0,f1,f2,f3,f4,f5⟩:=hf it 111;have dat:Heap.DictAt (zt X.prog X.w) s.heap d vs ep:=⟨o,es,hg1,hx',hd,hk',hp',hn'⟩;exact wpAny_pyNext_dict_end (I.ok.hd hc) (len▸st) dat (Y1s 109) λ h' eb=>131
 self:=λ _ _ _ _ _ st h=>wpAny_pyIter_keyiter st h
section
variable {X:Cx}{tg:Expr}
def z8k (te:TE):TI:=λ σ H R=>te σ H λ x H1=>∃ a kvs,x=.ref a/\((H1 a=some 192/\∀ o,R (Itk a o kvs) (upd H1 a (.frz o 192)))\/∃ o,H1 a=some (.frz o 192)/\R (Itk a o kvs) H1)
theorem V7 {pins:115}{σ:St}{H:Hp}{s:130}{R:It->Hp->Prop}{a:Addr}{o:Obj}{kvs:152}(I:110)(e:H a=some (.frz o 192))(q:R (Itk a o kvs) H):wpAny 116 X.A (pyIter 155) (PIE X pins σ tg R) X.xe s:=by
 obtain ⟨hg1,_,hS,vs,rel,o',es',ep',ho',hx',hd',hk',hp',hn'⟩:=I.hok a _ e;rw [hg1] at ho';cases ho';have len:=jB rel;have dat:Heap.DictAt (zt X.prog X.w) s.heap a vs ep':=⟨o,es',hg1,hx',hd',hk',hp',hn'⟩;refine wpAny_pyIter_dict hS dat ?_;refine ⟨s.heap.objs.size,[s.heap.objs.size],_,_,H,rfl,I.kept (t':=s.toks) λ b o e=>Y02 _ e,Gz a _ o es' ep' kvs hd',⟨_,Y0d _ rfl,rfl,by rw [len];rfl⟩,λ b hb=>?_,q⟩;have e:b=s.heap.objs.size:=by simpa using hb
 subst e;exact I.fpOk 169 (I.hok.fresh 169)
theorem z1y {l:Expr}{tl:TE}(hl:PE X l tl):PI X tg l (z8k tl):=by
 intro pins s σ H R I h;refine thn (hl pins s σ H _ I h) λ v s1 ⟨x,H1,I1,r1,q1⟩=>?_;obtain ⟨a,kvs,e,q⟩:=q1;subst e;cases r1;rcases q with ⟨ea,q⟩ | ⟨o,ea,q⟩
 ·obtain ⟨_,_,vs,rel,o,es,ep,ho,_⟩:=I1.hok a _ ea;exact V7 (I1.freeze ea ho) zw (q o)
 ·exact V7 I1 ea q
end
end L2
namespace ST
set_option autoImplicit false
set_option linter.unusedVariables false
open PySem PyProof.Rows
theorem V8 (t:SetTable)(n:Nat):(t.orStandIn n).led=t.led/\(t.plain=false->(t.orStandIn n).plain=false):=by
 unfold SetTable.orStandIn
 split
 ·exact ⟨rfl,id⟩
 ·exact ⟨rfl,λ _=>rfl⟩
theorem YU (t:SetTable)(es:180)(h:Int)(x:Value):(layNew t es h x).2.1.led=t.led:=by
 unfold layNew
 split
 ·rename_i sl wd _;exact (V8 (t.put sl).1 _).1
 ·rfl
theorem Wg (t:SetTable)(es:180)(h:Int)(x:Value)(hp:t.plain=false):(layNew t es h x).2.1.plain=false:=by
 unfold layNew
 split
 ·rename_i sl wd _;exact (V8 (t.put sl).1 _).2 hp
 ·rfl
theorem Ze {t:SetTable}{hs:Array Int}{n:Nat}{r:SetTable×Array Nat}(h:t.relaid hs n=some r):r.1.led=t.led/\r.1.plain=t.plain:=by
 unfold SetTable.relaid SetTable.laid at h;cases e:SetTable.layClean (SetTable.sizeAbove n-1) hs with
 | none=>rw [e] at h;cases h
 | some o=>rw [e] at h;cases h;exact ⟨rfl,rfl⟩
theorem Wh (t:SetTable)(es:180)(n:Nat):(relayAll t es n).2.1.led=t.led:=by
 unfold relayAll
 split
 ·rename_i t' o e;dsimp only
  split
  ·exact (Ze e).1
  ·rfl
 ·rfl
theorem Zf (t:SetTable)(es:180)(n:Nat)(hp:t.plain=false):(relayAll t es n).2.1.plain=false:=by
 unfold relayAll
 split
 ·rename_i t' o e;dsimp only
  split
  ·exact (Ze e).2.trans hp
  ·rfl
 ·rfl
def Ent (w:World)(es:180):Prop:=∀ e∈es.toList,∃ x t,e=(hashStr w x,.str x t)
def keys (es:180):List Str:=es.toList.map λ e=>strOf e.2
structure TSo (w:World)(o:Obj)(es:180)(ep:Nat)(t:SetTable)(ss:XQ)(led:Bool):Prop where
 obj:o={ cls:=.type "set",dict:=none,data:=.set es ep t,slots:=#[] }
 ent:Ent w es
 perm:(keys es).Perm ss
 nodup:ss.Nodup
 fits:t.fits es.size=true
 led:t.led=led
 plain:t.plain=true->es.size=0
 small:es.size<scanBound
def TS (w:World)(o:Obj)(ss:XQ)(led:Bool):Prop:=∃ es ep t,TSo w o es ep t ss led
theorem Ent.elems {prog:156}{w:World}{es:180}(h:Ent w es):ElemsOf (strKind prog w) es.toList:=λ e he=>by
 obtain ⟨x,t,rfl⟩:=h e he;exact ⟨⟨x,by show (x==x)=true;exact beq_self_eq_true x,rfl⟩,rfl⟩
theorem Ent.mem {w:World}{es:180}(h:Ent w es)(x:Str):x∈keys es ↔ ∃ e∈es.toList,Value.isStrOf x e.2=true:=by
 unfold keys;rw [Y0c];constructor
 ·rintro ⟨e,he,rfl⟩
  obtain ⟨y,t,rfl⟩:=h e he;exact ⟨_,he,by show (y==y)=true;exact beq_self_eq_true y⟩
 ·rintro ⟨e,he,hx⟩
  obtain ⟨y,t,rfl⟩:=h e he
  have:y=x:=by simpa [Value.isStrOf] using hx
  exact ⟨_,he,this⟩
section
variable {prog:156}{w:World}{A:Around}{E:XU}{s:130}
theorem TSo.store {o:Obj}{es es':180}{ep:Nat}{t t':SetTable}{ss ss':XQ}{led:Bool}{a:Addr}{h:Heap}(hT:TSo w o es ep t ss led)(ho:h.get? a=some o)
  (e1:Ent w es') (e2:(keys es').Perm ss') (e3:ss'.Nodup) (e4:t'.fits es'.size=true) (e5:t'.led=led) (e6:t'.plain=true->es'.size=0) (e7:es'.size<scanBound) :
  ∃ o',(h.update a (Obj.putSet es' t')).get? a=some o'/\TSo w o' es' (ep+1) t' ss' led:=by
 have hd:o.data=.set es ep t:=by rw [hT.obj]
 have hg:=Y1f (Obj.putSet es' t') ho (by rw [putSet_of es' t' hd];rfl);rw [putSet_of es' t' hd] at hg;refine ⟨_,hg,?_,e1,e2,e3,e4,e5,e6,e7⟩;rw [hT.obj]
theorem z8l {a:Addr}{o:Obj}{ss:XQ}{led:Bool}{x:Str}{tk:Tok}{Q:Bool->Shared->Prop}(ho:s.heap.get? a=some o)(hT:TS w o ss led)(hroom:ss.length+1<scanBound)
  (h:∀ h' o' b,Heap.SameBut a s.heap h'->h'.get? a=some o'->TS w o' (if x∈ss then ss else ss++[x]) led->Q b { s with heap:=h' }) :
  wpAny 118 A (setAddHashed a (.str x tk) (hashStr w x)) Q E s:=by
 obtain ⟨es,ep,t,hT⟩:=hT;have hd:o.data=.set es ep t:=by rw [hT.obj]
 have hel:ElemsOf (strKind prog w) es.toList:=hT.ent.elems;have hn:es.size=ss.length:=by rw [<- hT.perm.length_eq];simp [keys]
 have hkey:(strKind prog w).is x (.str x tk)=true:=by show (x==x)=true;exact beq_self_eq_true x
 have hmem:x∈ss ↔ ∃ e∈es.toList,(strKind prog w).is x e.2=true:=by rw [<- hT.perm.mem_iff];exact hT.ent.mem x
 unfold setAddHashed setAddHashedIn;refine wpAny_holding (wpAny_bind (wpAny_setState_of ho hd hT.fits ?_));dsimp only;rw [byScan_of (knd:=strKind prog w) (x:=.str x tk) rfl hT.small hel,if_pos rfl];unfold setAddByScan;refine wpAny_bind (wpAny_bind (wpAny_rule ?_));refine wpAny_bind (wpAny_setScan_of (knd:=strKind prog w) hkey ho hd hT.fits hel ?_);cases hr:List.findIdx? (λ e=>(strKind prog w).is x e.2) es.toList with
 | some j =>
  dsimp only;obtain ⟨hj,hpj,_⟩:=List.findIdx?_eq_some_iff_getElem.mp hr;have hx:x∈ss:=hmem.mpr ⟨_,Y3g hj,hpj⟩
  have:=h s.heap o false (Heap.SameBut.refl a s.heap) ho (by rw [if_pos hx];exact ⟨es,ep,t,hT⟩)
  exact wpAny_pure (wpAny_pure this)
 | none =>
  dsimp only;have hx:x∉ss:=λ hx=>by
   obtain ⟨e,he,hp⟩:=hmem.mp hx
   have:=List.findIdx?_eq_none_iff.mp hr e he
   rw [hp] at this;exact Bool.noConfusion this
  rw [if_neg hx] at h;have hgw:∀ (b:Bool) {s₁:130}{Q':Unit->Shared->Prop},Q' () s₁->wpAny 118 A (match b with | true=>rule "set.scan.the-table-gave-way" | false=>pure ()) Q' E s₁ :=
   λ b s₁ Q' hq=>by cases b<;>first | exact wpAny_pure hq | exact wpAny_rule hq
  have l1:=layNew_perm t es (hashStr w x) (.str x tk);have l2:=layNew_fits t es (hashStr w x) (.str x tk);have l3:=YU t es (hashStr w x) (.str x tk);have l4:=Wg t es (hashStr w x) (.str x tk);have e0:(strKind prog w).hash x=hashStr w x:=rfl;generalize hL:layNew t es (hashStr w x) (.str x tk)=L at l1 l2 l3 l4 ⊢;obtain ⟨es1,t1,wd,gv⟩:=L;dsimp only at l1 l2 l3 l4 ⊢;rw [Array.toList_push] at l1;have f1:Ent w es1:=λ e he=>by
   rcases Y0r.mp (l1.mem_iff.mp he) with he | he
   ·exact hT.ent e he
   ·exact ⟨x,tk,Y0g.mp he⟩
  have f2:(keys es1).Perm (ss++[x]):=by
   have:=l1.map λ e=>strOf e.2
   rw [Y0q] at this;exact this.trans (hT.perm.append_right _)
  have f3:(ss++[x]).Nodup:=by
   refine Y28.mpr ⟨hT.nodup,by simp,λ a ha b hb e=>hx ?_⟩;rw [Y0g.mp hb] at e;rw [<- e];exact ha
  have f4:es1.size=ss.length+1:=by rw [<- Y1k,l1.length_eq];simp [hn]
  refine wpAny_bind (hgw _ ?_);have tail:∀ t2:SetTable,t2.fits es1.size=true->t2.led=led->t2.plain=false->wpAny 118 A (do
    storeSet a es1 t2
    if (!wd&&t2.tooFull)=true then do
      (match (relayAll t2 es1 (SetTable.grown es1.size)).2.2 with | true=>rule "set.scan.the-table-gave-way" | false=>pure ())
      storeSet a (relayAll t2 es1 (SetTable.grown es1.size)).1 (relayAll t2 es1 (SetTable.grown es1.size)).2.1
      pure (some true)
     else pure (some true)) (λ r s'=>∃ h' o',s'={ s with heap:=h' }/\r=some true/\Heap.SameBut a s.heap h'/\h'.get? a=some o'/\TS w o' (ss++[x]) led) E s:=by
   intro t2 g1 g2 g3;refine wpAny_bind (wpAny_storeSet_of ho hd ?_ (fits_of_scanBound 109));obtain ⟨o1,ho1,hT1⟩:=hT.store (es':=es1) (t':=t2) (ss':=ss++[x]) ho f1 f2 f3 g1 g2 (λ hp=>by rw [g3] at hp;cases hp) 109;have sb1:=Heap.SameBut.update s.heap a (Obj.putSet es1 t2);by_cases c:(!wd&&t2.tooFull)=true
   ·rw [if_pos c];have r1:=relayAll_perm t2 es1 (SetTable.grown es1.size);have r2:=relayAll_fits t2 es1 (SetTable.grown es1.size);have r3:=Wh t2 es1 (SetTable.grown es1.size);have r4:=Zf t2 es1 (SetTable.grown es1.size) g3;generalize relayAll t2 es1 (SetTable.grown es1.size)=R at r1 r2 r3 r4 ⊢;obtain ⟨es2,t3,gv2⟩:=R;dsimp only at r1 r2 r3 r4 ⊢;have hz:es2.size=es1.size:=by rw [<- Y1k,r1.length_eq,Y1k]
    refine wpAny_bind (hgw _ ?_);refine wpAny_bind (wpAny_storeSet_of ho1 (by rw [hT1.obj]) ?_ (fits_of_scanBound 109));obtain ⟨o2,ho2,hT2⟩:=hT1.store (es':=es2) (t':=t3) (ss':=ss++[x]) ho1 (λ e he=>f1 e (r1.mem_iff.mp he)) ((r1.map λ e:Int×Value=>strOf e.2).trans f2) f3 r2 (r3.trans g2) (λ hp=>by rw [r4] at hp;cases hp) 109;exact wpAny_pure ⟨_,o2,rfl,rfl,sb1.trans (Heap.SameBut.update _ a _),ho2,_,_,_,hT2⟩
   ·rw [if_neg c];exact wpAny_pure ⟨_,o1,rfl,rfl,sb1,ho1,_,_,_,hT1⟩
  cases hp:t1.plain
  ·refine wpAny_bind (wpAny_pure ?_);refine wpAny_mono (tail t1 l2 (l3.trans hT.led) hp) ?_ λ _ _ e=>e
   rintro _ _ ⟨h',o',rfl,rfl,q1,q2,q3⟩
   exact wpAny_pure (h h' o' true q1 q2 q3)
  ·refine wpAny_bind ?_;rw [hashByValue_scannable 8 (x:=.str x tk) rfl];refine wpAny_pure ?_;refine wpAny_mono (tail { t1 with plain:=false } (SetTable.fits_plain_off l2) (l3.trans hT.led) rfl) ?_ λ _ _ e=>e
   rintro _ _ ⟨h',o',rfl,rfl,q1,q2,q3⟩
   exact wpAny_pure (h h' o' true q1 q2 q3)
end
end ST
namespace ST
set_option autoImplicit false
set_option linter.unusedVariables false
open PySem PyProof.Rows
def dd (l:XQ):List Str:=l.foldl (λ σ x=>if x∈σ then σ else σ++[x]) []
theorem z1z (l:XQ)(x:Str):dd (l++[x])=if x∈dd l then dd l else dd l++[x]:=by
 unfold dd;rw [List.foldl_append];rfl
theorem z20 {l:XQ}{i:Nat}{x:Str}(h:l[i]?=some x):dd (l.take (i+1))=if x∈dd (l.take i) then dd (l.take i) else dd (l.take i)++[x]:=by
 rw [<- z1z,List.take_add_one,h];rfl
theorem OR (l:XQ):∀ (σ:XQ),(l.foldl (λ σ x=>if x∈σ then σ else σ++[x]) σ).length<=σ.length+l.length:=by
 induction l with
 | nil=>intro σ;exact Y0b _
 | cons x l ih =>
  intro σ;rw [Y1i];refine Y0n (ih _) ?_
  split<;>simp<;>omega
theorem dd_len (l:XQ):(dd l).length<=l.length:=by have:=OR l [];simpa [dd] using this
abbrev byT (w:World):Bool:=w.params.followText "set-order"
section
variable {prog:156}{w:World}{A:Around}{R:Result->Shared->Prop}{I:Addr}{fp wr:XV}{G:Array GenState->Array GenState->Prop}{n:Nat}{P:Nat->Value->Prop}{St:Nat->Shared->Prop}
theorem z63 (W:WalksS prog w A.in1 I fp wr G n P St)(S:Addr)(hSf:S∉fp)(l:XQ)(hl:l.length=n)(hval:∀ i v,P i v->∃ x t,l[i]?=some x/\v=.str x t)(hb:n+1<scanBound)(led:Bool) :
  ∀ (k i:Nat) (s:130),n-i=k->i<=n->St i s->(∃ o,s.heap.get? S=some o/\TS w o (dd (l.take i)) led) ->
   (∀ s' o,Moved (S::wr) G s s'->s'.heap.get? S=some o->TS w o (dd l) led->R (.ok (.ret .none)) s') ->
   codeAny 118 A (.builtin "set.update.loop" ⟨[.ref S,.ref I],[]⟩) R s:=by
 have hSw:S∉wr:=λ h=>hSf (W.sub _ h);have hsub:∀ b∈wr,b∈S::wr:=λ b hb=>Y03 _ hb;intro k
 induction k with
 | zero =>
  rintro i s hk hi hst ⟨o,ho,hS⟩ hR
  obtain rfl:i=n:=by omega
  rw [List.take_of_length_le 109] at hS;refine codeAny_builtin Y3l ?_;rw [Around.under_plainId Y2c _];show wpAny _ A.in1 (pyNext (.ref I) >>= _) _ _ s;exact wpAny_bind (W.done s _ _ hst λ s' hm=>wpAny_pure (hR s' o (hm.mono hsub) (hm.heap S _ hSw ho) hS))
 | succ k ih =>
  rintro i s hk hi hst ⟨o,ho,hS⟩ hR
  refine codeAny_builtin Y3l ?_;rw [Around.under_plainId Y2c _];show wpAny _ A.in1 (pyNext (.ref I) >>= _) _ _ s;refine wpAny_bind (W.item i s _ _ 109 hst λ v s' hP hst' hm=>?_);obtain ⟨x,t,hx,rfl⟩:=hval i v hP;show wpAny _ A.in1 (holding [Value.str x t] (setAdd S (.str x t)) >>= _) _ _ s';refine wpAny_bind (wpAny_holding ?_);unfold setAdd;refine wpAny_holding (wpAny_bind ((strKind prog w).pyHash (k:=x) (by show (x==x)=true;exact beq_self_eq_true x) ?_));have hlen:=dd_len (l.take i);rw [Y2e] at hlen;refine z8l (s:={ s' with toks:=s'.toks+1 }) (hm.heap S _ hSw ho) hS 109 λ h' o' b sb ho' hS'=>?_;rw [<- z20 hx] at hS';refine wpAny_pure ⟨plainId_quiet Y2c _,ih (i+1) _ 109 109 (W.frame _ s' _ _ hst' (Y1y _) λ b hb o e=>?_) ⟨o',ho',hS'⟩ λ s'' o'' hm'' q1 q2=>?_⟩
  ·rw [sb.2 b (λ h:b=S=>hSf (by rw [<- h];exact hb))];exact e
  ·refine hR s'' o'' (Moved.trans W.gtrans ((hm.mono hsub).then_heap (Y1y _) λ b o hb e=>?_) hm'') q1 q2;rw [sb.2 b (λ h:b=S=>hb (by rw [h];exact Y05))];exact e
end
def ju (w:World):Obj:={ cls:=.type "set",dict:=none,data:=.set #[] 0 (.fresh 0 0 (!byT w)) }
theorem GA (w:World):TS w (ju w) [] (!byT w):=⟨#[],0,_,rfl,λ e he=>by simp at he,List.Perm.refl _,List.nodup_nil,rfl,rfl,λ _=>rfl,by decide⟩
section
variable {prog:156}{w:World}{A:Around}{E:XU}{s:130}
theorem OS (a:Value){Q₁:XU}(h:Q₁ 159 { s with heap:=s.heap.push (ju w) }) :
  codeAny 118 A (.call (.builtin "set.__new__") ⟨[.type "set",a],[]⟩) (wants Q₁ E) s:=by
 refine codeAny_of_tree ?_;show wpAny _ A.in1 (do checkBuiltinCall "set.__new__" ⟨[.type "set",a],[]⟩;again (.builtin "set.__new__" ⟨[.type "set",a],[]⟩)) _ _ s;refine wpAny_bind (wpAny_of_eq (F.newCall_set_1 a) (wpAny_pure ⟨plainId_quiet F.plain_set_new _,codeAny_builtin F.entry_set_new ?_⟩));rw [Around.under_plainId F.plain_set_new _];unfold Builtin.«set.__new__» Builtin.Frozenset.newClass;have hsub:=sub_set_self;obtain ⟨hp,g,d,tk,os⟩:=s;dsimp only
 wp_walk
 refine wpAny_askSetting (wpAny_pure ?_);dsimp only;simp only [newObj];exact wpAny_bind (wpAny_alloc (wpAny_pure (wpAny_pure h)))
set_option maxHeartbeats 3200000 in
theorem w_set {l:Addr}{items:Array Value}{ss:XQ}{Q:XU}(hh:193)(hl:s.heap.IsList l items)(hi:StrsAre items.toList ss)(hb:items.size+1<scanBound)
  (h:∀ (h':Heap) (tk:Nat) (o:Obj),h'.get? s.heap.objs.size=some o->TS w o (dd ss) (!byT w)->(∀ b o,s.heap.get? b=some o->h'.get? b=some o)->Q 159 { s with heap:=h',toks:=tk }) :
  wpAny 118 A (call (.type "set") [.ref l]) Q E s:=by
 obtain ⟨c,tl,hmro⟩:=F.called_set.mro;have hmade:=F.called_set.made;have hsub:=F.called_set.sub;refine wpAny_call (codeAny_of_tree ?_);show wpAny _ _ (callAny (.type "set") _) _ _ _;refine wpAny_pure ⟨Code.quiet_builtin _ 190,codeAny_builtin F.entry_type_call ?_⟩;rw [Around.under_plain (weight_type_call_type "set" [.ref l] []) rfl];have h1:=F.called_set.notType;have h2:=F.called_set.canCreate;have hct:=F.typeCall_set_1 (.ref l)
 repeat (any_goals (first | assumption | wp_step))
 refine codeAny_mono (OS (.ref l) (E:=E) (Q₁:=λ obj s₁=>obj=.ref s.heap.objs.size/\s₁={ s with heap:=s.heap.push (ju w) }) ⟨rfl,rfl⟩) λ r s₁ hr=>?_;cases r with
 | error e=>exact hr
 | ok fl =>
  cases fl with
  | ret obj =>
   obtain ⟨rfl,rfl⟩:=hr;have hS:(s.heap.push (ju w)).get? s.heap.objs.size=some (ju w):=Y0d _ rfl;have hT:Shared.TypeIs { s with heap:=s.heap.push (ju w) } 159 "set":=⟨_,hS,rfl⟩;have hli:=F.called_set.init.lookup;have hbi:=F.called_set.init.bind 159
   repeat (any_goals (first | assumption | wp_step))
   refine codeAny_mono (codeAny_call_builtin (R:=wants (λ r s₂=>r=.none/\∃ h' tk o,s₂={ s with heap:=h',toks:=tk }/\h'.get? s.heap.objs.size=some o/\TS w o (dd ss) (!byT w) /\
     (∀ b o,s.heap.get? b=some o->h'.get? b=some o)) E) F.called_set.init.plain F.entry_set_init (check_set_init_1 hT ?_)) λ r₂ s₂ hr₂=>?_
   ·obtain ⟨ol,hol,hcl,nl,hdl⟩:=hl;obtain ⟨ocls,odict,odata,oslots⟩:=ol;simp only at hcl hdl;subst hcl;subst hdl;have hol':(s.heap.push (ju w)).get? l=some { cls:=.type "list",dict:=odict,data:=.seq items nl,slots:=oslots }:=Y02 _ hol;have hsls:=F.sub_list_set;have hslf:=F.sub_list_frozenset;have hne:(Value.type "list"==Value.type "dict")=false:=by decide
    have hl1:(s.heap.push (ju w)).IsList l items:=⟨_,hol',rfl,nl,rfl⟩;unfold ju at hS hT hl1 hol' ⊢;unfold Builtin.«set.__init__» noKeywords Builtin.Frozenset.updateFrom;generalize hPI:pyIter=PI
    wp_walk
    subst hPI;refine wpAny_pyIter_list hl1 (wpAny_bind (wpAny_runValue ?_));have hlS:l<s.heap.objs.size:=Y0f hol;have hh3:A.in1.in1.in1.handled=none:=by simp [hh]
    have z1:(s.heap.push (ju w)).objs.size=s.heap.objs.size+1:=Y1g ..
    unfold ju at z1;have hneI:l≠(s.heap.push (ju w)).objs.size:=by rw [Y1g];exact Y0i (Y2p hlS)
    have hSf:s.heap.objs.size∉[(s.heap.push (ju w)).objs.size,l]:=by
     rw [Y1g];simp only [Y06,Y0g,Y0p,or_false,not_or];exact ⟨Y0i (Y1n _),Y25 hlS⟩
    have hlen:ss.length=items.size:=by have:=congrArg List.length hi.strs;rw [Y04] at this;rw [<- this];simp
    have hval:∀ (i:Nat) (v:Value),items[i]?=some v->∃ x t,ss[i]?=some x/\v=.str x t:=λ i v hv=>by
     have hm:v∈items.toList:=by rw [<- Y1t] at hv;exact Y0v hv
     obtain ⟨x,t,rfl⟩:=hi.all v hm;refine ⟨x,t,?_,rfl⟩;rw [<- hi.strs,Y0l,Y1t,hv];rfl
    refine z63 ((Walks.list hh3 _ l hneI items).toS) s.heap.objs.size hSf ss hlen hval hb (!byT w) (items.size-0) 0 _ 109 (Y1h _)
     ⟨172,(hl1.push _)⟩ ⟨_,Y02 _ hS,GA w⟩ λ s' o hm ho hS'=>?_
    obtain ⟨h',g',d',tk',os'⟩:=s';obtain rfl:g'=s.gens:=hm.gens;obtain rfl:d'=s.drawn:=hm.drawn;obtain rfl:os'=s.os:=hm.os;show wpAny _ _ _ _ _ _;refine wpAny_pure ?_;show wpAny _ _ (ret Value.none) _ _ _;refine wpAny_pure ⟨rfl,h',tk',o,rfl,ho,hS',λ b o e=>?_⟩;have hb:=Y0f e;have hb1:b≠s.heap.objs.size:=Y0i hb;have hb2:b≠(s.heap.push (ju w)).objs.size:=by rw [Y1g];exact Y0i (Y2p hb)
    exact hm.heap b o (by simp only [Y06,Y0g,Y0p,or_false,not_or];exact ⟨hb1,hb2⟩) (Y02 _ (Y02 _ e))
   ·cases r₂ with
    | error e=>exact hr₂
    | ok fl₂ =>
     cases fl₂ with
     | ret r =>
      obtain ⟨rfl,h',tk,o,rfl,ho,hS',hk'⟩:=hr₂
      repeat (any_goals (first | assumption | wp_step))
      exact h _ _ o ho hS' hk'
     | _=>exact hr₂.elim
  | _=>exact hr.elim
end
end ST
namespace ST
set_option autoImplicit false
set_option linter.unusedVariables false
open PySem PyProof.Rows
theorem slot_si_next:Slot "set_iterator" "__next__" "set_iterator.__next__" :=
 .of (owner:="set_iterator") (n:="__next__") (by rw [typeLookup_type,builtinLookup_eq_fast];kernel_rfl) 190 190 190 (by first | exact .inl 190 | exact .inr 190) (by rw [isSubtype_type];kernel_rfl)
theorem J4:entryFor table "set_iterator.__next__"=some Builtin.«set_iterator.__next__»:=entryFor_of_tree (by kernel_rfl)
theorem Wi (a:Value):argsOk "set_iterator.__next__" ⟨[a],[]⟩:=by unfold argsOk;kernel_rfl
theorem Wj:entryFor table "set.__iter__"=some Builtin.«frozenset.__iter__»:=entryFor_alias (id':="frozenset.__iter__") (by rw [fastTable_eq_tree];kernel_rfl) (by kernel_rfl) 190 (by rw [fastTable_eq_tree];kernel_rfl)
theorem qw {α:Type}:∀ {l:List α}{i:Nat} (h:i<l.length),(l[i]::l.eraseIdx i).Perm l
 | x::l,0,h=>List.Perm.refl _
 | x::l,i+1,h=>by
  have:=qw (l:=l) (i:=i) (by simpa using h)
  exact (List.Perm.swap x _ _).trans (this.cons x)
theorem Jw {α:Type}(next:Nat->Nat):∀ (f k:Nat) (l:List α) (out:Array α),f=l.length->(pickOrder.go next f k l out).toList.Perm (out.toList++l)
 | 0,k,l,out,h=>by
  have:l=[]:=Y39.mp h.symm
  subst this;show out.toList.Perm _;rw [Y13]
 | f+1,k,l,out,h=>by
  have hlt:next k%l.length<l.length:=Nat.mod_lt _ 109;unfold pickOrder.go;rw [Y07 hlt];dsimp only;refine (Jw next f (k+1) _ _ (by rw [List.length_eraseIdx,if_pos hlt];omega)).trans ?_;rw [Array.toList_push,Y0k];exact List.Perm.append_left _ (qw hlt)
theorem Zg {α:Type}(next:Nat->Nat)(xs:Array α):(pickOrder next xs).toList.Perm xs.toList:=by
 have:=Jw next xs.size 0 xs.toList #[] 111
 exact (by simpa using this:(pickOrder.go next xs.size 0 xs.toList #[]).toList.Perm xs.toList)
section
variable {prog:156}{w:World}{A:Around}{E:XU}{s:130}
theorem OT {src:Source}{n:Nat}{Q:Nat->Shared->Prop}(hn:n≠0)(h:∀ i,i<n->Q i { s with drawn:=s.drawn.bump src }):wpAny 118 A (choose src n) Q E s :=
 λ _ _ _=>⟨hn,h _ (Nat.mod_lt _ (Nat.pos_of_ne_zero hn))⟩
theorem OU {α:Type}:∀ (n:Nat) (xs:List α) {s:130}{Q:List α->Shared->Prop},n=xs.length->(∀ ys d,ys.Perm xs->Q ys { s with drawn:=d })->wpAny 118 A (drawOrder n xs) Q E s
 | 0,xs,s,Q,h,hQ=>by
  have:xs=[]:=Y39.mp h.symm
  subst this;unfold drawOrder;exact wpAny_pure (hQ [] s.drawn (List.Perm.refl _))
 | n+1,[],s,Q,h,hQ=>by simp at h
 | n+1,x::xs,s,Q,h,hQ=>by
  unfold drawOrder;refine wpAny_bind (OT 111 λ i hi=>?_);rw [Y07 hi];dsimp only;refine wpAny_bind (OU n _ (by rw [List.length_eraseIdx,if_pos hi,<- h];rfl) λ ys d hp=>wpAny_pure ?_);exact hQ _ d ((hp.cons _).trans (qw hi))
def itO (f:Value)(i:Nat)(S:Addr)(n ep:Nat):Obj:={ cls:=.type "set_iterator",dict:=none,data:=.fields #[f,.int i 0,.ref S,.int n 0,.int ep 0],slots:=#[] }
theorem OV {I:Addr}{f:Value}{i:Nat}{S:Addr}{n ep:Nat}{Q:Option Value->Shared->Prop}(ho:s.heap.get? I=some (itO f i S n ep))
  (h:wpAny 118 A.in1 (Builtin.«set_iterator.__next__» ⟨[.ref I],[]⟩) (λ r s'=>∃ v,r=.done (.ret v)/\Q (some v) s') (λ e s'=>wpAny 118 A (do if <- isInstance e (.type "StopIteration") then pure none else throw e) Q E s') s) :
  wpAny 118 A (pyNext (.ref I)) Q E s:=by
 have hT:s.TypeIs (.ref I) "set_iterator":=⟨_,ho,rfl⟩;unfold pyNext;refine wpAny_bind (wpAny_attempt (wpAny_callSpecial?_slot (name:=Str.ofString "__next__") hT slot_si_next (wpAny_call_entry slot_si_next hT J4 ?_ (Wi _))));refine wpAny_mono h ?_ λ _ _ e=>e
 rintro _ _ ⟨v,rfl,q⟩
 exact ⟨v,rfl,wpAny_pure q⟩
end
end ST
namespace ST
set_option autoImplicit false
set_option linter.unusedVariables false
open PySem PyProof.Rows
section
variable {prog:156}{w:World}{A:Around}{E:XU}{s:130}
variable {I S:Addr}{o:Obj}{es:180}{ep:Nat}{t:SetTable}{ss:XQ}
theorem YV {f:Value}{i n:Nat}{Q:Option Value->Shared->Prop}{h1:Heap}(hh:193)(hQ:∀ h',(∀ b o,h1.get? b=some o->h'.get? b=some o)->Q none { s with heap:=h' }) :
  wpAny 118 A.in1 (do raiseNew (<- newExc (.type "StopIteration") [])) (λ (r:Fin) s'=>∃ v,r=.done (.ret v)/\Q (some v) s') (λ e s'=>wpAny 118 A (do if <- isInstance e (.type "StopIteration") then pure none else throw e) Q E s') { s with heap:=h1 }:=by
 refine wpAny_bind ?_;simp only [newExc,newTuple];refine wpAny_bind (wpAny_newObj_type ?_ (by size_fits));refine wpAny_bind (m:=firstArgMember _ _) (wpAny_of_eq (a:=Value.none) (by first | rfl | (simp only [firstArgMember];rfl)) ?_);refine wpAny_newObj_type ?_ (by size_fits);simp only [raiseNew];refine wpAny_bind (wpAny_handled ?_);rw [show A.in1.handled=none from hh];refine wpAny_bind (wpAny_pure (wpAny_throw ?_));refine wpAny_bind (wpAny_isInstance (T:="StopIteration") (b:=true) ⟨_,Y0d _ rfl,rfl⟩ isSubtype_stop ?_);exact wpAny_pure (hQ _ λ b o e=>Y02 _ (Y02 _ e))
theorem z8m {Q:Setting->Shared->Prop}(h:Q ⟨prog,w.params⟩ s):wpAny 118 A ask Q E s:=wpAny_askSetting h
theorem V9 {Q:Bool->Shared->Prop}(h:Q (byT w) s):wpAny 118 A setsByText Q E s:=by
 unfold setsByText;exact wpAny_bind (wpAny_askSetting (wpAny_pure h))
theorem z8n {i:Nat}(hb:byT w=true)(hI:s.heap.get? I=some (itO (.int 0 0) i S es.size ep))(hS:s.heap.get? S=some o)(hd:o.data=.set es ep t)(hf:t.fits es.size=true)(hh:193){Q:Option Value->Shared->Prop}
  (h1:∀ e,(pickOrder (w.params.setOrder S ep) es)[i]?=some e->∀ h',h'.get? I=some (itO (.int 0 0) (i+1) S es.size ep)->Heap.SameBut I s.heap h'->Q (some e.2) { s with heap:=h' })
  (h2:(pickOrder (w.params.setOrder S ep) es)[i]?=none->∀ h',(∀ b o,b≠I->s.heap.get? b=some o->h'.get? b=some o)->Q none { s with heap:=h' }):wpAny 118 A (pyNext (.ref I)) Q E s:=by
 refine OV hI ?_;show wpAny _ _ (fieldsOf (.ref I) >>= _) _ _ s;refine wpAny_bind (wpAny_fieldsOf hI rfl ?_);show wpAny _ _ (setEntries S >>= _) _ _ s;refine wpAny_bind (wpAny_setEntries_of hS hd hf ?_);rw [if_neg 111];dsimp only;unfold setNext;refine wpAny_bind (wpAny_bind (wpAny_setState_of hS hd hf ?_));refine wpAny_bind (V9 ?_);rw [if_pos hb,if_neg 111];unfold setWalk;refine wpAny_bind (wpAny_bind (wpAny_setState_of hS hd hf ?_));refine wpAny_bind (V9 ?_);rw [if_pos hb];refine wpAny_bind (z8m (wpAny_pure (wpAny_pure ?_)));dsimp only;simp only [Y3r];generalize e:(pickOrder (w.params.setOrder S ep) es)[i]?=z at h1 h2 ⊢;cases z with
 | none =>
  show wpAny _ _ (setField (.ref I) 2 .none >>= _) _ _ _;refine wpAny_bind (wpAny_setField_rec hI 111 λ h' q1 q2=>?_);exact YV (f:=.none) (i:=0) (n:=0) hh λ h'' k=>h2 rfl h'' λ b o hb e=>k b o (by rw [q2.2 b hb];exact e)
 | some z =>
  show wpAny _ _ (setField (.ref I) 0 _ >>= _) _ _ _;refine wpAny_bind (wpAny_setField_rec hI 111 λ h' q1 q2=>?_);refine wpAny_bind (wpAny_setField_rec q1 111 λ h'' q3 q4=>?_);exact wpAny_pure ⟨_,rfl,h1 z rfl h'' q3 (q2.trans q4)⟩
end
end ST
namespace ST
set_option autoImplicit false
set_option linter.unusedVariables false
open PySem PyProof.Rows
section
variable {prog:156}{w:World}{A:Around}{E:XU}{s:130}
variable {I S:Addr}{o:Obj}{es:180}{ep:Nat}{t:SetTable}{ss:XQ}
theorem z8o {T:Addr}{i:Nat}{pl:List Nat} (hT:s.heap.get? T=some (seqObj "tuple" (pl.map λ (p:Nat)=>rawInt p).toArray 0)) (hI:s.heap.get? I=some (itO (.ref T) i S es.size ep)) (hS:s.heap.get? S=some o) (hd:o.data=.set es ep t) (hf:t.fits es.size=true) (hh:193) {Q:Option Value->Shared->Prop}
  (h1:∀ p e,pl[i]?=some p->es[p]?=some e->∀ h',h'.get? I=some (itO (.ref T) (i+1) S es.size ep)->Heap.SameBut I s.heap h'->Q (some e.2) { s with heap:=h' }) (hp:∀ p∈pl,p<es.size)
  (h2:pl[i]?=none->∀ h',(∀ b o,b≠I->s.heap.get? b=some o->h'.get? b=some o)->Q none { s with heap:=h' }):wpAny 118 A (pyNext (.ref I)) Q E s:=by
 refine OV hI ?_;show wpAny _ _ (fieldsOf (.ref I) >>= _) _ _ s;refine wpAny_bind (wpAny_fieldsOf hI rfl ?_);show wpAny _ _ (setEntries S >>= _) _ _ s;refine wpAny_bind (wpAny_setEntries_of hS hd hf ?_);rw [if_neg 111];dsimp only;refine wpAny_bind (wpAny_seqItems hT rfl ?_);dsimp only;rw [show ((pl.map λ (p:Nat)=>rawInt p).toArray)[(i:Int).toNat]?=pl[i]?.map λ (p:Nat)=>rawInt p by simp];cases e:pl[i]? with
 | none =>
  show wpAny _ _ (setField (.ref I) 0 _ >>= _) _ _ _;refine wpAny_bind (wpAny_setField_rec hI 111 λ h' q1 q2=>?_);refine wpAny_bind (wpAny_setField_rec q1 111 λ h'' q3 q4=>?_);exact YV (f:=.none) (i:=0) (n:=0) hh λ h'' k=>h2 e h'' λ b o hb e=>k b o (by rw [(q2.trans q4).2 b hb];exact e)
 | some p =>
  have hlt:=hp p (Y0v e);have ee:es[p]?=some es[p]:=getElem?_pos es p hlt;show wpAny _ _ (setNextDrawn S (p:Int).toNat (ep:Int).toNat >>= _) _ _ _;unfold setNextDrawn;refine wpAny_bind (wpAny_bind (wpAny_setState_of hS hd hf ?_));dsimp only;rw [if_neg 111];simp only [Y3r,ee];refine wpAny_pure ?_;refine wpAny_bind (wpAny_setField_rec hI 111 λ h' q1 q2=>?_);exact wpAny_pure ⟨_,rfl,h1 p _ e ee h' q1 q2⟩
def ft (t:SetTable):Nat->Nat
 | 0=>0
 | _+1=>t.place.getD 0 0+1
theorem z21 {a:Array Nat}(h:a.size=0)(k:Nat):SetTable.below a k=0:=by
 unfold SetTable.below;rw [h];rfl
theorem z22 {a:Array Nat}(h:a.size=1):SetTable.below a 0=0:=by
 unfold SetTable.below;rw [h];unfold SetTable.below.go;rw [if_pos 109];dsimp only;rw [if_neg 109];rfl
theorem z23 {a:Array Nat}(h:a.size=1):SetTable.below a (a.getD 0 0+1)=1:=by
 unfold SetTable.below;rw [h];unfold SetTable.below.go;rw [if_pos 109];dsimp only;have e:a.getD ((0+1)/2) (a.getD 0 0+1)=a.getD 0 0:=by
  show a.getD 0 _=_;unfold Array.getD;rw [dif_pos 109,dif_pos 109]
 rw [e,if_pos 109];rfl
theorem z8p {i:Nat}(hb:byT w=false)(hi:i<=es.size)(h1':es.size<=1)(hled:t.led=true)(hI:s.heap.get? I=some (itO (.int (ft t i:Nat) 0) i S es.size ep))(hS:s.heap.get? S=some o)(hd:o.data=.set es ep t)(hf:t.fits es.size=true)(hh:193){Q:Option Value->Shared->Prop}
  (h1:∀ e,es[i]?=some e->∀ h',h'.get? I=some (itO (.int (ft t (i+1):Nat) 0) (i+1) S es.size ep)->Heap.SameBut I s.heap h'->Q (some e.2) { s with heap:=h' })
  (h2:es[i]?=none->∀ h',(∀ b o,b≠I->s.heap.get? b=some o->h'.get? b=some o)->Q none { s with heap:=h' }):wpAny 118 A (pyNext (.ref I)) Q E s:=by
 have hz:t.place.size=es.size:=by
  simp only [SetTable.fits,Y0h,beq_iff_eq] at hf;exact hf.1
 refine OV hI ?_;show wpAny _ _ (fieldsOf (.ref I) >>= _) _ _ s;refine wpAny_bind (wpAny_fieldsOf hI rfl ?_);show wpAny _ _ (setEntries S >>= _) _ _ s;refine wpAny_bind (wpAny_setEntries_of hS hd hf ?_);rw [if_neg 111];dsimp only;unfold setNext;refine wpAny_bind (wpAny_bind (wpAny_setState_of hS hd hf ?_));refine wpAny_bind (V9 ?_);rw [hb,if_neg 111];dsimp only;rw [if_neg (by show ¬ ((!t.plain&&decide (es.size > 1))=true);rw [decide_eq_false 109];simp)];refine wpAny_bind (wpAny_of_eq (a:=()) (by show (if (!t.led&&!es.isEmpty)=true then _ else pure ())=_;rw [hled];rfl) ?_);simp only [Y3r];have eb:SetTable.below t.place (ft t i)=i:=by
  by_cases c:es.size=0
  ·rw [z21 109];omega
  ·match i,hi with
   | 0,_=>exact z22 109
   | 1,_=>exact z23 109
   | i+2,hi=>omega
 rw [eb];by_cases c:i<es.size
 ·have e1:es[i]?=some es[i]:=getElem?_pos es i c;have i0:i=0:=by omega
  have e2:t.place[i]?=some (t.place.getD 0 0):=by
   rw [getElem?_pos t.place i 109];unfold Array.getD;rw [dif_pos 109];subst i0;rfl
  rw [e1,e2];refine wpAny_pure ?_;dsimp only;refine wpAny_bind (wpAny_setField_rec hI 111 λ h' q1 q2=>?_);refine wpAny_bind (wpAny_setField_rec q1 111 λ h'' q3 q4=>?_);refine wpAny_pure ⟨_,rfl,h1 _ e1 h'' ?_ (q2.trans q4)⟩;rw [q3];subst i0;rfl
 ·have e1:es[i]?=none:=by simp;omega
  rw [e1];refine wpAny_pure ?_;dsimp only;refine wpAny_bind (wpAny_setField_rec hI 111 λ h' q1 q2=>?_);exact YV (f:=.none) (i:=0) (n:=0) hh λ h'' k=>h2 e1 h'' λ b o hb e=>k b o (by rw [q2.2 b hb];exact e)
end
end ST
namespace ST
set_option autoImplicit false
set_option linter.unusedVariables false
open PySem PyProof.Rows
theorem ye {w:World}{es:180}{ss:XQ}(h:Ent w es)(hp:(keys es).Perm ss){l:List (Int×Value)}(hl:l.Perm es.toList) :
  ∃ ss',StrsAre (l.map (·.2)) ss'/\ss'.Perm ss:=by
 refine ⟨(l.map (·.2)).map strOf,strsAre_map _ λ v hv=>?_,?_⟩
 ·obtain ⟨e,he,rfl⟩:=Y0c.mp hv;obtain ⟨x,t,rfl⟩:=h e (hl.mem_iff.mp he);exact ⟨x,t,rfl⟩
 ·rw [Y10];exact (hl.map _).trans hp
theorem YW (es:180):(List.range es.size).map (λ p=>es.getD p (0,.none))=es.toList:=by
 refine List.ext_getElem 111 λ i h1 h2=>?_;have h3:i<es.size:=by simpa using h1
 simp [Array.getD,h3]
section
variable {prog:156}{w:World}{A:Around}{E:XU}{s:130}
variable {I S:Addr}{o:Obj}{es:180}{ep:Nat}{t:SetTable}{ss:XQ}
def Vw (vs:XW)(i:Nat)(v:Value):Prop:=vs[i]?=some v
theorem Wk {f:Value}{i n:Nat}(ho:s.heap.get? I=some (itO f i S n ep)){Q:XU}(hQ:Q (.ref I) s):wpAny 118 A (pyIter (.ref I)) Q E s:=by
 have hT:s.TypeIs (.ref I) "set_iterator":=⟨_,ho,rfl⟩;have sl:Slot "set_iterator" "__iter__" "set_iterator.__iter__":=.of (owner:="set_iterator") (n:="__iter__") (by rw [typeLookup_type,builtinLookup_eq_fast];kernel_rfl) 190 190 190 (by first | exact .inl 190 | exact .inr 190) (by rw [isSubtype_type];kernel_rfl);have en:entryFor table "set_iterator.__iter__"=some Builtin.«dict_keyiterator.__iter__»:=entryFor_alias (id':="dict_keyiterator.__iter__") (by rw [fastTable_eq_tree];kernel_rfl) (by kernel_rfl) 190 (by rw [fastTable_eq_tree];kernel_rfl);refine wpAny_pyIter_slot hT sl (wpAny_call_entry sl hT en ?_ (by unfold argsOk;kernel_rfl));exact wpAny_pure ⟨_,rfl,"set_iterator",_,hT,slot_si_next.lookup,hQ⟩
theorem zap (hb:byT w=true)(hne:S≠I)(hd:o.data=.set es ep t)(hf:t.fits es.size=true)(hh:193) :
  Walks prog w A I [I,S] [I] ((pickOrder (w.params.setOrder S ep) es).toList.map (·.2)).length (Vw ((pickOrder (w.params.setOrder S ep) es).toList.map (·.2)))
   (λ i h=>h.get? I=some (itO (.int 0 0) i S es.size ep)/\h.get? S=some o) where
 sub:=λ b hb=>by simp at hb;simp [hb]
 frame:=λ _ _ _ st hk=>⟨hk I 111 _ st.1,hk S 111 _ st.2⟩
 item:=λ i s Q E hi st hQ=>by
  refine z8n hb st.1 st.2 hd hf hh (λ e he h' q1 q2=>hQ _ h' s.toks ?_ ⟨q1,(q2.2 S hne).trans st.2⟩ λ b o hb e=>?_) λ he=>absurd he ?_
  ·unfold Vw;rw [Y0l,Y1t,he];rfl
  ·exact (q2.2 b (by simpa using hb)).trans e
  ·simp at hi ⊢;exact hi
 done:=λ s Q E st hQ=>by
  refine z8n hb st.1 st.2 hd hf hh (λ e he=>absurd he ?_) λ _ h' k=>hQ h' s.toks λ b o hb e=>k b o (by simpa using hb) e;simp
 self:=λ _ _ _ _ st hQ=>Wk st.1 hQ
theorem zaq {T:Addr}{pl:List Nat}(hne:S≠I)(hne':T≠I)(hd:o.data=.set es ep t)(hf:t.fits es.size=true)(hp:∀ p∈pl,p<es.size)(hh:193) :
  Walks prog w A I [I,S,T] [I] ((pl.map (λ p=>es.getD p (0,.none))).map (·.2)).length (Vw ((pl.map (λ p=>es.getD p (0,.none))).map (·.2)))
   (λ i h=>h.get? I=some (itO (.ref T) i S es.size ep)/\h.get? S=some o/\h.get? T=some (seqObj "tuple" (pl.map λ (p:Nat)=>rawInt p).toArray 0)) where
 sub:=λ b hb=>by simp at hb;simp [hb]
 frame:=λ _ _ _ st hk=>⟨hk I 111 _ st.1,hk S 111 _ st.2.1,hk T 111 _ st.2.2⟩
 item:=λ i s Q E hi st hQ=>by
  refine z8o st.2.2 st.1 st.2.1 hd hf hh (λ p e he ee h' q1 q2=>hQ _ h' s.toks ?_ ⟨q1,(q2.2 S hne).trans st.2.1,(q2.2 T hne').trans st.2.2⟩ λ b o hb e=>?_) hp λ he=>absurd he ?_
  ·unfold Vw;rw [Y0l,Y0l,he]
   have:=hp p (Y0v he)
   rw [getElem?_pos es p this] at ee;cases ee;simp [Array.getD,this]
  ·exact (q2.2 b (by simpa using hb)).trans e
  ·simp at hi ⊢;exact hi
 done:=λ s Q E st hQ=>by
  refine z8o st.2.2 st.1 st.2.1 hd hf hh (λ p e he=>absurd he ?_) hp λ _ h' k=>hQ h' s.toks λ b o hb e=>k b o (by simpa using hb) e;simp
 self:=λ _ _ _ _ st hQ=>Wk st.1 hQ
theorem zar (hb:byT w=false)(h1:es.size<=1)(hled:t.led=true)(hne:S≠I)(hd:o.data=.set es ep t)(hf:t.fits es.size=true)(hh:193) :
  Walks prog w A I [I,S] [I] (es.toList.map (·.2)).length (Vw (es.toList.map (·.2)))
   (λ i h=>h.get? I=some (itO (.int (ft t i:Nat) 0) i S es.size ep)/\h.get? S=some o) where
 sub:=λ b hb=>by simp at hb;simp [hb]
 frame:=λ _ _ _ st hk=>⟨hk I 111 _ st.1,hk S 111 _ st.2⟩
 item:=λ i s Q E hi st hQ=>by
  have hi':i<es.size:=by simpa using hi
  refine z8p hb 109 h1 hled st.1 st.2 hd hf hh (λ e he h' q1 q2=>hQ _ h' s.toks ?_ ⟨q1,(q2.2 S hne).trans st.2⟩ λ b o hb e=>?_) λ he=>absurd he ?_
  ·unfold Vw;rw [Y0l,Y1t,he];rfl
  ·exact (q2.2 b (by simpa using hb)).trans e
  ·simp;exact hi'
 done:=λ s Q E st hQ=>by
  have e:(es.toList.map (·.2)).length=es.size:=by simp
  rw [e] at st;refine z8p hb 169 h1 hled st.1 st.2 hd hf hh (λ e he=>absurd he ?_) λ _ h' k=>hQ h' s.toks λ b o hb e=>k b o (by simpa using hb) e;simp
 self:=λ _ _ _ _ st hQ=>Wk st.1 hQ
theorem z64 (hS:s.heap.get? S=some o)(hT:TS w o ss (!byT w)){Q:XU}
  (h:∀ (h':Heap) d (I:Addr) (fp:XV) (vs:XW) (St:Nat->Heap->Prop),(∀ A':Around,A'.handled=none->Walks prog w A' I fp [I] vs.length (Vw vs) St)->St 0 h'->(∀ b∈fp,b=S\/s.heap.objs.size<=b)->s.heap.objs.size<=I ->
   (∃ ss',StrsAre vs ss'/\ss'.Perm ss)->(∀ b o,s.heap.get? b=some o->h'.get? b=some o)->Q (.ref I) { s with heap:=h',drawn:=d }) :
  wpAny 118 A (pyIter (.ref S)) Q E s:=by
 obtain ⟨es,ep,t,hT⟩:=hT;have hd:o.data=.set es ep t:=by rw [hT.obj]
 have hTy:s.TypeIs (.ref S) "set":=⟨o,hS,by rw [hT.obj]⟩;have hlt:=Y0f hS;refine wpAny_pyIter_slot hTy F.slot_set_iter (wpAny_call_entry F.slot_set_iter hTy Wj ?_ (F.args_set_iter_1 _));show wpAny _ _ (Builtin.Frozenset.sizeOf S >>= _) _ _ s;unfold Builtin.Frozenset.sizeOf;refine wpAny_bind (wpAny_bind (wpAny_setEntries_of hS hd hT.fits (wpAny_pure ?_)));show wpAny _ _ (setDrawn S >>= _) _ _ s;unfold setDrawn;refine wpAny_bind (wpAny_bind (wpAny_setState_of hS hd hT.fits ?_));refine wpAny_bind (V9 (wpAny_pure ?_));have hk:∀ (o':Obj) b o,s.heap.get? b=some o->(s.heap.push o').get? b=some o:=λ o' b o e=>Y02 _ e;cases hb:byT w
 ·by_cases c:es.size<=1
  ·rw [if_neg (by show ¬ ((!false&&(!t.plain&&decide (es.size > 1)))=true);rw [decide_eq_false 109];simp)];refine wpAny_bind (wpAny_pure (wpAny_bind (wpAny_setEpoch_of hS hd hT.fits ?_)));refine wpAny_bind (wpAny_newObj_type ?_);refine wpAny_pure ⟨_,rfl,"set_iterator",_,⟨_,Y0d _ rfl,rfl⟩,slot_si_next.lookup,?_⟩;refine h _ s.drawn _ _ _ _ (λ A' hh=>zar (I:=s.heap.objs.size) hb c (hT.led.trans (by rw [hb];rfl)) (Y0i hlt) hd hT.fits hh) ⟨Y0d _ rfl,hk _ _ _ hS⟩ (λ b hb=>?_) 169 (ye hT.ent hT.perm (List.Perm.refl _)) (hk _);simp only [Y06,Y0p,or_false] at hb;rcases hb with rfl | rfl
   ·exact .inr 169
   ·exact .inl rfl
  ·have hp:t.plain=false:=by
    cases e:t.plain with
    | false=>rfl
    | true=>have:=hT.plain e;omega
   rw [if_pos (by show (!false&&(!t.plain&&decide (es.size > 1)))=true;rw [hp,decide_eq_true 109];rfl)];refine wpAny_bind (OU es.size (List.range es.size) 111 λ pl d hpl=>?_);refine wpAny_bind (wpAny_newTuple ?_ (hsz:=by rw [Y04,hpl.length_eq,Y2q];exact fits_of_scanBound hT.small));dsimp only;refine wpAny_bind (wpAny_setEpoch_of (hk _ _ _ hS) hd hT.fits ?_);refine wpAny_bind (wpAny_newObj_type ?_);refine wpAny_pure ⟨_,rfl,"set_iterator",_,⟨_,Y0d _ rfl,rfl⟩,slot_si_next.lookup,?_⟩;have hpl':∀ p∈pl,p<es.size:=λ p hp=>by have:=hpl.mem_iff.mp hp;simpa using this
   have zz:(s.heap.push (seqObj "tuple" (pl.map λ (p:Nat)=>rawInt p).toArray 0)).objs.size=s.heap.objs.size+1:=Y1g ..
   refine h _ d _ _ _ _ (λ A' hh=>zaq (pl:=pl) (T:=s.heap.objs.size) (I:=(s.heap.push (seqObj "tuple" (pl.map λ (p:Nat)=>rawInt p).toArray 0)).objs.size) (by rw [zz];exact Y0i (Y2p hlt)) (by rw [zz];exact Y0i (Y1n _)) hd hT.fits hpl' hh) ⟨Y0d _ rfl,Y02 _ (hk _ _ _ hS),Y02 _ (Y0d _ rfl)⟩ (λ b hb=>?_) (by rw [zz];omega) (ye hT.ent hT.perm ?_) (λ b o e=>Y02 _ (hk _ _ _ e))
   ·simp only [Y06,Y0p,or_false] at hb;rcases hb with rfl | rfl | rfl
    ·exact .inr (by rw [zz];omega)
    ·exact .inl rfl
    ·exact .inr 169
   ·rw [<- YW];exact hpl.map _
 ·rw [if_neg 111];refine wpAny_bind (wpAny_pure (wpAny_bind (wpAny_setEpoch_of hS hd hT.fits ?_)));refine wpAny_bind (wpAny_newObj_type ?_);refine wpAny_pure ⟨_,rfl,"set_iterator",_,⟨_,Y0d _ rfl,rfl⟩,slot_si_next.lookup,?_⟩;refine h _ s.drawn _ _ _ _ (λ A' hh=>zap (I:=s.heap.objs.size) hb (Y0i hlt) hd hT.fits hh) ⟨Y0d _ rfl,hk _ _ _ hS⟩ (λ b hb=>?_) 169 (ye hT.ent hT.perm (Zg _ _)) (hk _);simp only [Y06,Y0p,or_false] at hb;rcases hb with rfl | rfl
  ·exact .inr 169
  ·exact .inl rfl
end
end ST
namespace ST
set_option autoImplicit false
set_option linter.unusedVariables false
open PySem PyProof.Rows
theorem z8q:typeLookup (.type "set") "__len__"=pure (some (.builtin "set.__len__")):=F.slot_set_len.lookup
section
variable {prog:156}{w:World}{A:Around}{E:XU}{s:130}
variable {S:Addr}{o:Obj}{ss:XQ}
theorem GB (hh:193)(hS:s.heap.get? S=some o)(hT:TS w o ss (!byT w)){Q:List Value->Shared->Prop}
  (hQ:∀ h' d tk vs ss',StrsAre vs ss'->ss'.Perm ss->s.heap.objs.size<h'.objs.size->(∀ b o,s.heap.get? b=some o->h'.get? b=some o)->Q vs { s with heap:=h',drawn:=d,toks:=tk }) :
  wpAny 118 A (collect (.ref S)) Q E s:=by
 have hsm:ss.length<scanBound:=by
  obtain ⟨es,ep,t,hT⟩:=hT;rw [<- hT.perm.length_eq]
  have:=hT.small
  simpa [keys] using this
 have hc:o.cls=.type "set":=by
  obtain ⟨es,ep,t,hT⟩:=hT;rw [hT.obj]
 have hlt:=Y0f hS;unfold collect;refine wpAny_bind (wpAny_runValue (codeAny_builtin F.entry_proto_collect ?_));rw [Around.under_plainId F.plain_proto_collect _];show wpAny _ A.in1 (newList [] >>= λ l=>again (.builtin "list.__iadd__" ⟨[l,.ref S],[]⟩)) _ _ s;refine wpAny_bind (wpAny_newObj_type ?_);refine wpAny_pure ⟨plainId_quiet F.plain_list_iadd _,codeAny_builtin F.entry_list_iadd ?_⟩;rw [Around.under_plainId F.plain_list_iadd _];show wpAny _ A.in1 (Builtin.List.listExtendWith 159 (.ref S) 159) _ _ _;unfold Builtin.List.listExtendWith;have hS1:(s.heap.push { cls:=.type "list",data:=.seq ([]:List Value).toArray }).get? S=some o:=Y02 _ hS;have hTy:Shared.TypeIs { s with heap:=s.heap.push { cls:=.type "list",data:=.seq ([]:List Value).toArray } } (.ref S) "set":=⟨o,hS1,hc⟩;refine wpAny_bind (wpAny_typeOf hTy ?_);have h1:Builtin.List.listSameRef 159 (.ref S)=false:=by
  show (s.heap.objs.size==S)=false;exact beq_false_of_ne (Y25 hlt)
 rw [if_neg (by rw [h1];decide)];refine wpAny_bind (z64 hS1 hT λ h' d I fp vs St W st hfp hI hv ext=>?_);obtain ⟨ss',hv,hperm⟩:=hv;have hTy':Shared.TypeIs { s with heap:=h',drawn:=d } (.ref S) "set":=⟨o,ext _ _ hS1,hc⟩;refine wpAny_bind (wpAny_holding ?_);unfold Builtin.List.listLengthHint;refine wpAny_bind (wpAny_specialOf hTy' z8q ?_)
 wp_delta
 refine wpAny_bind (wpAny_isInstance (b:=true) hTy' (by rw [isSubtype_type];kernel_rfl) ?_);show wpAny _ A.in1 (typeOf (Value.ref S) >>= _) _ _ _;refine wpAny_bind (wpAny_typeOf hTy' ?_);refine wpAny_pure ?_;have hz:(s.heap.push { cls:=.type "list",data:=.seq ([]:List Value).toArray }).objs.size=s.heap.objs.size+1:=Y1g ..
 have hLf:s.heap.objs.size∉fp:=λ hm=>by
  rcases hfp _ hm with e | e
  ·exact absurd e (Y25 hlt)
  ·have e':s.heap.objs.size+1<=s.heap.objs.size:=hz▸e;exact absurd e' (Nat.not_succ_le_self _)
 have hL:h'.get? s.heap.objs.size=some { cls:=.type "list",data:=.seq ([]:List Value).toArray }:=ext _ _ (Y0d _ rfl);have hlen:vs.length=ss'.length:=by rw [<- hv.strs,Y04]
 rw [if_pos 108];refine wpAny_bind (wpAny_rule (wpAny_bind ?_));show wpAny _ A.in1 (updateSeq s.heap.objs.size (·.push .none) >>= λ _=>updateSeq s.heap.objs.size (·.pop)) _ _ _;refine wpAny_bind (wpAny_updateSeq hL rfl ?_);have hL2:=Y1f (Obj.mapSeq (·.push Value.none)) hL rfl;refine wpAny_updateSeq hL2 rfl ?_;have hL3:=Y1f (Obj.mapSeq (·.pop)) hL2 rfl;have oth:∀ b o,b≠s.heap.objs.size->h'.get? b=some o->((h'.update s.heap.objs.size (Obj.mapSeq (·.push Value.none))).update s.heap.objs.size (Obj.mapSeq (·.pop))).get? b=some o :=
  λ b o hb e=>(Y19 _ _ (Ne.symm hb)).trans ((Y19 _ _ (Ne.symm hb)).trans e)
 refine wpAny_pure ⟨plainId_quiet F.plain_extend_loop _,codeAny_extend_loopS (W A.in1 hh).toS (by rw [hlen,hperm.length_eq];exact fits_of_scanBound hsm) _ hLf _ vs.length 0 _ _ _ rfl (Y1h _)
  ((W A.in1 hh).frame 0 _ _ st λ b hb o e=>oth b o (λ h=>hLf (h▸hb)) e) hL3 (ItemsOf.nil _) λ s' acc' c' hm hS' hacc=>?_⟩
 show wpAny _ A (load s.heap.objs.size >>= _) _ _ s';refine wpAny_bind (wpAny_load hS' ?_);have ea:acc'.toList=vs:=by
  refine List.ext_getElem? λ i=>?_;by_cases c:i<vs.length
  ·have hi:i<acc'.size:=by rw [hacc.1];exact c
   have:=hacc.2 i _ (getElem?_pos acc' i hi)
   rw [Y1t,getElem?_pos acc' i hi];exact this.symm
  ·rw [Y1s (by rw [Y1k,hacc.1];omega),Y1s 109]
 show wpAny _ _ (pure acc'.toList) _ _ _;rw [ea];obtain ⟨h2,g2,d2,tk2,os2⟩:=s';obtain rfl:g2=s.gens:=hm.gens;obtain rfl:d2=d:=hm.drawn;obtain rfl:os2=s.os:=hm.os;refine wpAny_pure (hQ h2 d2 tk2 vs ss' hv hperm (Y0f hS') λ b o e=>hm.heap b o ?_ (oth b o (Y0i (Y0f e)) (ext _ _ (Y02 _ e))));have hb:=Y0f e;simp only [Y06,Y0p,or_false,not_or];refine ⟨Y0i hb,λ e=>?_⟩;rw [e] at hb;rw [hz] at hI;exact absurd (Y0t hb (Nat.le_of_succ_le hI)) (Y1d _)
theorem z65 {a:Addr}{vs:XW}{n:Nat}{P:Fin->Shared->Prop} (ho:s.heap.get? a=some (seqObj "list" vs.toArray n)) (hS:StrsAre vs ss) (hb:vs.length<64)
  (h:∀ out ss',StrsAre out.toList ss'->ss'.Perm ss->sortedS ss'=true->P (.done (.ret .none)) { s with heap:=sortedHeap s.heap a vs out }):wpAny 118 A (Builtin.«list.sort» ⟨[.ref a],[]⟩) P E s :=
 list_sort_treeK strKind_oneLt ho hS.keysOf (λ v₁ v₂ rest e=>keyKind_strs (by rw [<- e];exact hS)) hb λ st' hp hs=>by
  obtain ⟨ss',h1,h2,h3⟩:=sorted_out_str hS hp hs;exact h _ ss' h1 h2 h3
theorem w_sorted (hh:193)(hS:s.heap.get? S=some o)(hT:TS w o ss (!byT w))(h64:ss.length<64){Q:XU}
  (h:∀ h' d tk a out ss' n,h'.get? a=some (seqObj "list" out n)->StrsAre out.toList ss'->ss'.Perm ss->sortedS ss'=true->s.heap.objs.size<=a->(∀ b o,s.heap.get? b=some o->h'.get? b=some o)->Q 155 { s with heap:=h',drawn:=d,toks:=tk }) :
  wpAny 118 A (call (.builtin "sorted") [.ref S]) Q E s:=by
 have hsm:ss.length<scanBound:=by
  obtain ⟨es,ep,t,hT⟩:=hT;rw [<- hT.perm.length_eq]
  have:=hT.small
  simpa [keys] using this
 refine Calls.call_function_entry kind_sorted plain_sorted entry_sorted (args_sorted1 _) ?_;unfold Builtin.«sorted»;refine wpAny_bind (m:=checkCount "sorted" 1 1 _) (wpAny_pure ?_);refine wpAny_bind (GB (by simpa using hh) hS hT λ h1 d tk vs ss1 v1 v2 hle k=>?_);have hlen:vs.length=ss.length:=by rw [<- v2.length_eq,<- v1.strs,Y04]
 refine wpAny_bind (wpAny_newList ?_ (hsz:=by rw [hlen];exact fits_of_scanBound hsm));have hoL:(h1.push (seqObj "list" vs.toArray 0)).get? h1.objs.size=some (seqObj "list" vs.toArray 0):=Y0d _ rfl;refine wpAny_bind (wpAny_holding (wpAny_call_entry slot_list_sort ⟨_,hoL,rfl⟩ entry_list_sort (z65 hoL v1 (by rw [hlen];exact h64) λ out ss' a1 a2 a3=>⟨_,rfl,?_⟩) (args_list_sort _)));obtain ⟨n,hn⟩:=sortedHeap_at (h:=h1.push (seqObj "list" vs.toArray 0)) (out:=out) hoL;refine wpAny_pure ⟨_,rfl,h _ d tk _ out ss' n hn a1 (a2.trans v2) a3 (Y2g hle) λ b o e=>?_⟩;have hb:=Y0f (k _ _ e);rw [sortedHeap_old (Y0i hb) (by rw [size_push'];exact Y2p hb)];exact Y02 _ (k _ _ e)
end
end ST
namespace L2
open PySem PySem.Spec PyProof.Rows
theorem OW (l:XQ)(x:Str):∀ σ:List Str,x∈l.foldl (λ σ x=>if x∈σ then σ else σ++[x]) σ ↔ x∈σ\/x∈l:=by
 induction l with
 | nil=>intro σ;simp
 | cons y l ih =>
  intro σ;rw [Y1i,ih];by_cases c:y∈σ
  ·rw [if_pos c];constructor
   ·rintro (h | h)
    ·exact .inl h
    ·exact .inr (Y03 _ h)
   ·rintro (h | h)
    ·exact .inl h
    ·rcases Y06.mp h with rfl | h
     ·exact .inl c
     ·exact .inr h
  ·rw [if_neg c];simp only [Y0r,Y06,Y0p,or_false,Y0g];exact or_assoc
def Up (ss:XQ):Prop:=ss.Pairwise λ a b=>a.cps.toList<b.cps.toList
theorem Jx:∀ (r:XQ) (p:Str),risingS p r=true->(p::r).Nodup->Up (p::r)
 | [],p,_,_=>List.pairwise_singleton _ _
 | x::r,p,h,hn=>by
  obtain ⟨h1,h2⟩:_/\risingS x r=true:=by
   have h:(_&&_)=true:=h;simpa using h
  obtain ⟨n1,n2⟩:=Y15.mp hn;have u:=Jx r x h2 n2;have lt:p.cps.toList<x.cps.toList:=by
   rcases Classical.em (p.cps.toList<x.cps.toList) with q | q
   ·exact q
   ·have h1:¬ x.cps.toList<p.cps.toList:=by rw [ltCps_eq] at h1;exact of_decide_eq_false h1
    refine absurd (List.le_antisymm (List.not_lt.mp h1) (List.not_lt.mp q)) λ e=>n1 ?_;obtain ⟨⟨a⟩⟩:=p;obtain ⟨⟨b⟩⟩:=x;simp only at e;rw [e];exact Y05
  refine Y1r.mpr ⟨λ z hz=>?_,u⟩;rcases Y06.mp hz with rfl | hz
  ·exact lt
  ·exact List.lt_trans lt ((Y1r.mp u).1 z hz)
theorem Jy {ss:XQ}(h:sortedS ss=true)(hn:ss.Nodup):Up ss:=by
 cases ss with
 | nil=>exact List.Pairwise.nil
 | cons p r=>exact Jx r p h hn
theorem OX {α:Type}[DecidableEq α]:∀ (a b:List α),a.Nodup->(∀ x∈a,x∈b)->a.length<=b.length
 | [],b,_,_=>Y1h _
 | x::a,b,nn,sub=>by
  obtain ⟨n1,n2⟩:=Y15.mp nn;have hb:=sub x Y05;have h:=OX a (b.erase x) n2 λ y hy=>(List.mem_erase_of_ne (λ z:y=x=>n1 (by rw [<- z];exact hy))).mpr (sub y (Y03 _ hy));rw [List.length_erase_of_mem hb] at h
  have:=List.length_pos_of_mem hb
  rw [Y08];omega
theorem Vals.strs:∀ {ss:XQ}{us:XW},Vals (ss.map V.str) us->StrsAre us ss
 | [],_,h=>by cases h;exact .nil
 | x::ss,_,h=>by
  cases h with
  | cons r t =>
   obtain ⟨tk,rfl⟩:=r;exact .cons x tk (Vals.strs t)
theorem yf:∀ {us:XW}{ss:XQ},StrsAre us ss->Vals (ss.map V.str) us
 | _,_,.nil=>.nil
 | _,_,.cons x t h=>.cons ⟨t,rfl⟩ (yf h)
section
variable {X:Cx}
theorem Inv.drw {pins:115}{σ:List (Option V)}{H:Hp}{s:130}(I:110)(d):Inv X pins σ H { s with drawn:=d }:=⟨I.ok,I.os,I.bare,I.base,I.loc,I.cell,I.free,I.freeC,I.pin,I.hok,I.len⟩
def rSS (K:Y00):List V->Hp->VK->Prop:=λ xs H Q=>∃ (p:Addr) (ss:XQ),xs=[.ref p]/\SqL K H p (ss.map V.str)/\ss.length+1<scanBound/\(∃ us:List Str,us.length<64/\∀ x∈ss,x∈us)/\∀ (l:Addr) (ss':XQ),H l=none->Up ss'->(∀ x,x∈ss' ↔ x∈ss)->Q (.ref l) (upd H l (.lst (ss'.map V.str)))
theorem z24 {a:Expr}{ta:TA}{p p' pos pos':Pos} (hc:X.calm=true) (hg:Gl X "set") (hm:X.mg "set"=none) (hg2:Gl X "sorted") (hm2:X.mg "sorted"=none) (ha:PA X [a] ta) (hs:starEach [a] X.env=[(false,eval a X.env)]) :
  PE X (.Call (.Name "sorted" p) [.Call (.Name "set" p') [a] [] pos'] [] pos) (λ σ H Q=>ta σ H λ vs H1=>rSS X.K vs H1 Q):=by
 intro pins s σ H Q I h;refine wpAny_Call_Name_kw (y0 I hg2 hm2 boot_sorted ?_ 108 108);refine Y3s ?_ rfl rfl;show wpAny _ _ (spliced ((false,eval (.Call (.Name "set" p') [a] [] pos') X.env)::[])) _ _ s;refine Calls.spliced_cons (Call_ (y0 I hg hm boot_set (Y2x (thn (ha pos' pins s σ H _ I h) λ us s1 ⟨vs,H1,I1,r1,q1⟩=>?_) hs rfl) 108 108));obtain ⟨b,ss,e,hq,hsz,⟨us,hu1,hu2⟩,q⟩:=q1;subst e;cases r1 with
 | cons r rr =>
  cases rr;cases r;obtain ⟨its,rv,pl,hz⟩:=I1.list hq;have hS:=rv.strs;have hl:=rv.length;rw [Y04] at hl;refine ST.w_set (I1.ok.hd hc) pl.isList (by simpa using hS) (by simp only [Y0a];omega) λ h1 tk o ho hT kp=>?_;refine wpAny_pure ?_;have hnd:(ST.dd ss).Nodup:=by
   obtain ⟨es,ep,t,hT⟩:=hT;exact hT.nodup
  have h64:(ST.dd ss).length<64:=Y23 (OX _ us hnd λ x hx=>hu2 x (by
   have:=OW ss x []
   unfold ST.dd at hx;simpa using this.mp hx)) hu1
  refine ST.w_sorted (s:={ s1 with heap:=h1,toks:=tk }) (I1.ok.hd hc) ho hT h64 λ h2 d tk2 a out ss' n ha hv hpm has hle kp2=>?_;have sz:s1.heap.objs.size<=a:=Y0n (Y2g (Y0f ho)) hle;have hm':∀ x,x∈ss' ↔ x∈ss:=λ x=>by
   rw [hpm.mem_iff]
   have:=OW ss x []
   simpa [ST.dd] using this
  have hln:ss'.length=out.size:=by rw [<- hv.strs,Y04];simp
  have hle':(ss'.map V.str).length<=sizeLine:=by
   rw [Y04,hpm.length_eq];exact fits_of_scanBound (Y23 (ST.dd_len ss) 109)
  refine ⟨.ref _,_,(I1.drw d).laid (t':=tk2) (λ b' o e=>kp2 b' o (kp b' o e)) sz (show ObjOk X.prog X.w _ h2 _ (.lst (ss'.map V.str)) from ⟨hle',out.toList,n,yf hv,?_⟩),rfl,q _ ss' (I1.hok.fresh sz) (Jy has (hpm.nodup_iff.mpr hnd)) hm'⟩;simpa using ha
end
end L2
namespace PySem
open Sem (wp)
section
variable {prog:156}{w:World}{A:Around}{E:XU}{s:130}
variable {K:Type}[DecidableEq K]{knd:KeyKind prog w K}
theorem GC:typeLookup (.type "dict") "__len__"=pure (some (.builtin "dict.__len__")):=by rw [typeLookup_type,builtinLookup_eq_fast];kernel_rfl
theorem qG {R:Result->Shared->Prop} (hh:193) {d:Addr}{kvs:List (K×Value)}{ep:Nat} (hd:(d==sysModules)=false) (hm:s.heap.DictAt knd d kvs ep) (S:Addr) (hSd:S≠d) (res:Value) (c₀:Nat) (hS:s.heap.get? S=some { cls:=.type "list",data:=.seq #[] c₀ })
  (hR:∀ h' tk acc' c',(∀ b o,b≠S->s.heap.get? b=some o->h'.get? b=some o)->h'.get? S=some { cls:=.type "list",dict:=none,data:=.seq acc' c',slots:=#[] } ->
   ItemsOf (λ i v=>∃ k x,kvs[i]?=some (k,x)/\knd.is k v=true) acc' kvs.length->R (.ok (.ret res)) { s with heap:=h',toks:=tk }) (hn:kvs.length<=sizeLine) :
  wpAny 118 A.in1 (Builtin.List.listExtendWith (.ref S) (.ref d) res)
   (λ fin s'=>match fin with | .done f=>R (.ok f) s' | .again c'=>c'.quiet=true/\codeAny 118 A c' R s') (λ e s'=>R (.error e) s') s:=by
 have hSI:S≠s.heap.objs.size:=Y0i (Y0f hS);have hT:s.TypeIs (.ref d) "dict":=hm.dictOf.typeIs;obtain ⟨od,es,hod,hdr⟩:=id hm;have hdI:d≠s.heap.objs.size:=Y0i (Y0f hod);have hSf:S∉[s.heap.objs.size,d]:=λ hm=>by
  rcases Y06.mp hm with e | hm
  ·exact hSI e
  ·exact hSd (Y0g.mp hm)
 unfold Builtin.List.listExtendWith;refine wpAny_bind (wpAny_typeOf hT ?_);have h1:Builtin.List.listSameRef (.ref S) (.ref d)=false:=by
  show (S==d)=false;exact beq_false_of_ne hSd
 have h2:(Value.type "dict"==Value.type "list")=false:=by decide
 have h3:(Value.type "dict"==Value.type "tuple")=false:=by decide
 simp only [h1,h2,h3,Y3b,Y31,if_false];refine wpAny_bind (wpAny_pyIter_dict hd hm ?_);refine wpAny_bind (wpAny_holding ?_);unfold Builtin.List.listLengthHint;have hT1:Shared.TypeIs { s with heap:=s.heap.push { cls:=.type "dict_keyiterator",data:=.fields #[.ref d,.int 0 0,.int kvs.length 0,.int ep 0] } } (.ref d) "dict":=⟨_,Y02 _ hod,by obtain ⟨o',ho',hc'⟩:=hT;rw [hod] at ho';cases ho';exact hc'⟩;refine wpAny_bind (wpAny_specialOf (T:="dict") hT1 GC ?_)
 wp_delta
 refine wpAny_bind (wpAny_isInstance (T:="dict") (b:=true) hT1 (by rw [isSubtype_type];kernel_rfl) ?_);show wpAny _ _ (typeOf (Value.ref d) >>= _) _ _ _;refine wpAny_bind (wpAny_typeOf (T:="dict") hT1 ?_);refine wpAny_pure ?_;rw [if_pos 108];refine wpAny_bind (wpAny_rule ?_);unfold Builtin.List.listTouch;have g1:=Y02 ({ cls:=.type "dict_keyiterator",data:=.fields #[.ref d,.int 0 0,.int kvs.length 0,.int ep 0] }:Obj) hS;have g2:=Y1f (Obj.mapSeq (λ xs=>xs.push .none)) g1 rfl;have g3:=Y1f (Obj.mapSeq (λ xs=>xs.pop)) g2 rfl;refine wpAny_bind (wpAny_bind ?_);refine wpAny_updateSeq g1 rfl ?_;refine wpAny_updateSeq g2 rfl ?_;generalize hH:((s.heap.push { cls:=.type "dict_keyiterator",data:=.fields #[.ref d,.int 0 0,.int kvs.length 0,.int ep 0] }).update S (Obj.mapSeq (λ xs=>xs.push .none))).update S (Obj.mapSeq (λ xs=>xs.pop))=H2 at g3;have oth:∀ b o,b≠S->(s.heap.push { cls:=.type "dict_keyiterator",data:=.fields #[.ref d,.int 0 0,.int kvs.length 0,.int ep 0] }).get? b=some o->H2.get? b=some o:=λ b o hb e=>by
  rw [<- hH];exact (Y19 _ _ (Ne.symm hb)).trans ((Y19 _ _ (Ne.symm hb)).trans e)
 have W:=(Walks.dictKeys (knd:=knd) (A:=A.in1) hh s.heap.objs.size d hdI kvs ep);have st:H2.IsKeyIter s.heap.objs.size d 0 kvs.length ep/\H2.DictAt knd d kvs ep:=⟨⟨_,oth _ _ (Ne.symm hSI) (Y0d _ rfl),rfl,rfl⟩,hm.at' λ o e=>oth d o (Ne.symm hSd) (Y02 _ e)⟩;refine wpAny_pure ⟨plainId_quiet F.plain_extend_loop _,codeAny_extend_loopS W.toS hn _ hSf _ kvs.length 0 _ _ _ rfl (Y1h _) st g3 (ItemsOf.nil _) λ s' acc' c' hm' hS' hacc=>?_⟩;rw [Moved.eq_with hm'];refine hR s'.heap s'.toks acc' c' (λ b ob hb e=>hm'.heap b ob (λ hmem=>?_) (oth b ob hb (Y02 _ e))) hS' hacc;rcases Y06.mp hmem with e' | hmem
 ·exact hb e'
 ·exact absurd (Y0f e) (by rw [Y0g.mp hmem];exact Y1d _)
theorem wQ {R:Result->Shared->Prop} (hh:193) {d:Addr}{kvs:List (K×Value)}{ep:Nat} (hd:(d==sysModules)=false) (hm:s.heap.DictAt knd d kvs ep) (S:Addr) (hSd:S≠d) (hS:s.heap.get? S=some { cls:=.type "list",data:=.seq #[] })
  (hR:∀ h' tk acc' c',(∀ b o,b≠S->s.heap.get? b=some o->h'.get? b=some o)->h'.get? S=some { cls:=.type "list",dict:=none,data:=.seq acc' c',slots:=#[] } ->
   ItemsOf (λ i v=>∃ k x,kvs[i]?=some (k,x)/\knd.is k v=true) acc' kvs.length->R (.ok (.ret .none)) { s with heap:=h',toks:=tk }) (hn:kvs.length<=sizeLine) :
  wpAny 118 A.in1 (Builtin.«list.__init__» ⟨[.ref S,.ref d],[]⟩)
   (λ fin s'=>match fin with | .done f=>R (.ok f) s' | .again c'=>c'.quiet=true/\codeAny 118 A c' R s') (λ e s'=>R (.error e) s') s:=by
 show wpAny _ _ (do let old <- Builtin.List.listItems (.ref S);Builtin.List.listUpdate (.ref S) (λ _=>#[]);letGo old.toList.reverse;Builtin.List.listExtendWith (.ref S) (.ref d) .none) _ _ s;refine wpAny_bind ?_;unfold Builtin.List.listItems;refine wpAny_bind (wpAny_seqItems hS rfl (wpAny_pure ?_));show wpAny _ _ (updateSeq S (λ _=>#[]) >>= λ _=>letGo (#[]:Array Value).toList.reverse >>= λ _=>Builtin.List.listExtendWith (.ref S) (.ref d) .none) _ _ s;refine wpAny_bind (wpAny_updateSeq hS rfl ?_);have hS₂:=Y1f (Obj.mapSeq (λ _=>(#[]:Array Value))) hS rfl;have oth:∀ b o,b≠S->s.heap.get? b=some o->(s.heap.update S (Obj.mapSeq (λ _=>(#[]:Array Value)))).get? b=some o :=
  λ b o hb e=>(Y19 _ _ (Ne.symm hb)).trans e
 refine wpAny_bind (wpAny_letGo ?_);refine qG (hn:=hn) hh hd (hm.at' λ o e=>oth d o (Ne.symm hSd) e) S hSd .none _ hS₂ λ h' tk acc' c' hk hS' hacc=>?_;exact hR h' tk acc' c' (λ b o hb e=>hk b o hb (oth b o hb e)) hS' hacc
theorem Zh {Q:XU}(hh:193){d:Addr}{kvs:List (K×Value)}{ep:Nat}(hd:(d==sysModules)=false)(hm:s.heap.DictAt knd d kvs ep)
  (hQ:∀ h' tk acc' c',(∀ b o,s.heap.get? b=some o->h'.get? b=some o) ->
   h'.get? s.heap.objs.size=some { cls:=.type "list",dict:=none,data:=.seq acc' c',slots:=#[] }->ItemsOf (λ i v=>∃ k x,kvs[i]?=some (k,x)/\knd.is k v=true) acc' kvs.length->Q 159 { s with heap:=h',toks:=tk }) (hn:kvs.length<=sizeLine) :
  wpAny 118 A (call (.type "list") [.ref d]) Q E s:=by
 refine callType_codes (Q₁:=λ obj s₁=>obj=.ref s.heap.objs.size/\s₁={ s with heap:=s.heap.push { cls:=.type "list",data:=.seq #[] } }) F.called_list (F.typeCall_list_1 _) F.entry_list_init
  (code_list_new _ ⟨rfl,rfl⟩) λ obj s₁ h₁=>?_
 obtain ⟨rfl,rfl⟩:=h₁;have hS:(s.heap.push { cls:=.type "list",data:=.seq #[] }).get? s.heap.objs.size=some { cls:=.type "list",data:=.seq #[] }:=Y0d _ rfl;have hdl:s.heap.objs.size≠d:=by
  obtain ⟨od,es,hod,_⟩:=id hm;exact Ne.symm (Y0i (Y0f hod))
 refine ⟨⟨_,hS,rfl⟩,F.args_list_init_2 _ _,wQ (A:=A.in1) (hn:=hn) hh hd (hm.at' λ o e=>Y02 _ e) _ hdl hS λ h' tk acc' c' hk hS' hacc=>?_⟩;exact ⟨rfl,hQ h' tk acc' c' (λ b o e=>hk b o (Y0i (Y0f e)) (Y02 _ e)) hS' hacc⟩
end
end PySem
namespace L2
open PySem PySem.Spec PyProof.Rows
variable {X:Cx}
theorem OY:j1 X (.builtin "sorted") (λ xs H Q=>∃ (p:Addr) (ss:XQ),xs=[.ref p]/\SqL X.K H p (ss.map V.str)/\ss.length<64/\ss.Nodup/\∀ (l:Addr) (ss':XQ),H l=none->Up ss'->(∀ x,x∈ss' ↔ x∈ss)->Q (.ref l) (upd H l (.lst (ss'.map V.str)))):=by
 intro pins s σ H xs us Q I r h;obtain ⟨p,ss,rfl,hq,h64,hnd,q⟩:=h;obtain ⟨u,rfl,ru⟩:=jV r;cases ru;obtain ⟨its,rv,pl,hz⟩:=I.list hq;have hl:s.heap.IsList p its.toArray:=pl.isList;have len:=rv.length;rw [Y04] at len;refine sorted_strs hl rv.strs 109 λ out ss' a1 a2 a3=>?_;obtain ⟨e,he⟩:=sortedAll_at s.heap its out;have hle:(ss'.map V.str).length<=sizeLine:=by
  rw [Y04,a2.length_eq];exact fits_of_scanBound (by unfold scanBound;omega)
 refine ⟨.ref _,_,I.laid (t':=s.toks) (h':=sortedAll s.heap its out) (λ b' o e=>sortedAll_old e) (Y1y _) (show ObjOk X.prog X.w _ (sortedAll s.heap its out) _ (.lst (ss'.map V.str)) from ⟨hle,out.toList,e,yf a1,?_⟩),rfl,q _ ss' (I.hok.fresh (Y1y _)) (Jy a3 (a2.nodup_iff.mpr hnd)) (λ x=>a2.mem_iff)⟩;simpa using he
theorem Zi {P:156}{w:World}:∀ {kvs:152}{vs:List (Key×Value)}{us:XW},KV kvs vs->us.length=vs.length->(∀ (j:Nat) (v:Value),us[j]?=some v->∃ k x,vs[j]?=some (k,x)/\(zt P w).is k v=true)->Vals (kvs.map λ kv=>kV kv.1) us
 | [],_,us,r,e,h=>by
  unfold KV at r;cases r;cases us with
  | nil=>exact .nil
  | cons _ _=>cases e
 | (k,x)::kvs,_,us,r,e,h=>by
  unfold KV at r;cases r with
  | @cons _ b _ l2 q r =>
   obtain ⟨k2,x2⟩:=b;obtain ⟨q1,q2⟩:=q;have q1:k=k2:=q1;subst q1;cases us with
   | nil=>cases e
   | cons u us =>
    obtain ⟨k3,x3,e3,hk⟩:=h 0 u rfl;have e3:some (k,x2)=some (k3,x3):=e3;cases e3;refine .cons (z46 hk) (Zi (P:=P) (w:=w) (vs:=l2) r (by simpa using e) λ j v ej=>?_);exact h (j+1) v ej
theorem Zj (hc:X.calm=true):j1 X (.type "list") (λ xs H Q=>∃ (p:Addr) (kvs:152),xs=[.ref p]/\Rd H p 192/\∀ (l:Addr),H l=none->Q (.ref l) (upd H l (.lst (kvs.map λ kv=>kV kv.1)))):=by
 intro pins s σ H xs us Q I r h;obtain ⟨p,kvs,rfl,hq,q⟩:=h;obtain ⟨u,rfl,ru⟩:=jV r;cases ru;obtain ⟨hz,hd,vs,rel,o,es,ep,dr⟩:=Qm I.hok hq;have len:=jB (show Paired _ kvs vs from rel);refine Zh (knd:=zt X.prog X.w) (I.ok.hd hc) hd (ep:=ep) (kvs:=vs) ⟨o,es,dr⟩ (λ h' tk acc' c' hk hS' hacc=>?_) 109;refine ⟨.ref _,_,I.laid (t':=tk) (h':=h') hk 169 (show ObjOk X.prog X.w _ h' _ (.lst (kvs.map λ kv=>kV kv.1)) from ⟨by rw [Y04];exact hz,acc'.toList,c',Zi (P:=X.prog) (w:=X.w) rel (by rw [Y1k,hacc.1]) (λ j v e=>hacc.2 j v (by simpa using e)),?_⟩),rfl,q _ (I.hok.fresh 169)⟩;simpa using hS'
end L2
namespace PI
open PySem L2
inductive D where
 | non | bl (b:Bool) | int (i:Int) | str (x:Str) | tup (xs:153) | loc (n:Nat) | fl (xs:153)
inductive O where
 | lst (xs:153) | dK (kvs:134) | fK (kvs:134) | dT (kvs:List (List Key×D)) | obj (x:Str) (fs:List (Str×D))
abbrev Hh:=List O
abbrev En:=List (Option D)
inductive Res (α:Type) where
 | ok (a:α) (h:Hh) | exc (c:Nat) (h:Hh) | no
noncomputable def Res.bind {α β:Type}(r:Res α)(f:α->Hh->Res β):Res β:=match r with
 | .ok a h=>f a h
 | .exc c h=>.exc c h
 | .no=>.no
@[simp] theorem bind_ok {α β:Type}{a:α}{h:Hh}{f:α->Hh->Res β}:(Res.ok a h).bind f=f a h:=rfl
@[simp] theorem bind_exc {α β:Type}{c:Nat}{h:Hh}{f:α->Hh->Res β}:(Res.exc c h:Res α).bind f=.exc c h:=rfl
@[simp] theorem bind_no {α β:Type}{f:α->Hh->Res β}:(Res.no:Res α).bind f=.no:=rfl
inductive RS where
 | nx (ρ:En) (h:Hh) | rt (d:D) (h:Hh) | bk (ρ:En) (h:Hh) | ct (ρ:En) (h:Hh) | ex (c:Nat) (ρ:En) (h:Hh) | no
inductive Tg where
 | one (i:Nat) (p:Pos) | tup (is:List (Nat×Pos)) (p:Pos)
inductive M0 where
 | pop | reverse
inductive M1 where
 | append | extend
inductive F1 where
 | str | int | all | abs | any | sum | srt | lks
noncomputable def F1.name:F1->Str
 | .str=>"str" | .int=>"int" | .all=>"all" | .abs=>"abs" | .any=>"any" | .sum=>"sum" | .srt=>"sorted" | .lks=>"list"
inductive Cv where
 | tup (xs:XQ) | int (i:Int) | fn (i:Nat) (x:Str) | oth
 deriving DecidableEq
inductive Cn where
 | int (i:Int) | str (x:Str) | tup (xs:XQ) | dic (kvs:List (Str×Cv)) | exc (c:Nat) (ups:List Nat) | cls (i:Nat) | isc (x:Str) (ys:XQ) | dfl
 deriving DecidableEq
set_option genInjectivity false
set_option genSizeOf false
mutual
inductive E where
 | non (p:Pos) | bl (b:Bool) (p:Pos) | int (i:Int) (p:Pos) | str (x:Str) (p:Pos)
 | var (i:Nat) (p:Pos)
 | bin (op:Operator) (a b:E) (p:Pos)
 | un (op:UnaryOp) (a:E) (p:Pos)
 | cmp (op:CmpOp) (a b:E) (p:Pos)
 | and (a b:E) (r:Es) (p:Pos)
 | or (a b:E) (r:Es) (p:Pos)
 | ite (c a b:E) (p:Pos)
 | call (f:Nat) (a:E) (r:Es) (p0 p:Pos)
 | callD (f:Nat) (a:E) (r:Es) (p0 p:Pos)
 | len (a:E) (p0 p:Pos)
 | isi (T:Nat) (a:E) (p0 p1 p:Pos)
 | sub (a i:E) (p:Pos)
 | tup (es:Es) (p:Pos)
 | ofL (l:L)
 | tupL (l:L) (p0 p:Pos)
 | tupE (e:E) (p0 p:Pos)
 | listE (e:E) (p0 p:Pos)
 | dicP (e:E) (p0 p:Pos)
 | cut (a:E) (lo hi:Eo) (p2 p:Pos)
 | cutS (a:E) (lo hi:Eo) (st:E) (p2 p:Pos)
 | dic (p:Pos)
 | m0 (m:M0) (o:E) (p1 p:Pos)
 | m1 (m:M1) (o a:E) (p1 p:Pos)
 | c1 (f:F1) (a:E) (p0 p:Pos)
 | sset (e:E) (p0 p1 p2 p:Pos)
 | cmpN (neg:Bool) (a:E) (p1 p:Pos)
 | neK (neg:Bool) (a b:E) (p:Pos)
 | gsub (x:Str) (kvs:List (Str×Cv)) (i:E) (p0 p:Pos)
 | fld (a:E) (f:Str) (p:Pos)
 | mk (i:Nat) (x:Str) (a:E) (r:Es) (p0 p:Pos)
inductive Es where
 | nil | cons (e:E) (r:Es)
inductive Eo where
 | none | some (e:E)
inductive L where
 | disp (es:Es) (p:Pos)
 | comp (elt:E) (t:Tg) (it:I) (c:Es) (NC:XQ) (cap:147) (sc:Scope) (p:Pos)
inductive I where
 | seq (e:E) | lst (l:L) | rng (a:E) (p0 p:Pos)
 | keys (e:E)
end
structure Rp where
 c:Str
 d:Str
 pa:Pos
 pc:Pos
 pd:Pos
 p:Pos
noncomputable def Rp.py (e:Expr)(r:Rp):Expr:=.Call (.Attribute e "replace" r.pa) [.Constant (.str r.c) 0 r.pc,.Constant (.str r.d) 0 r.pd] [] r.p
inductive Fp where
 | c (x:Str) (p:Pos)
 | r (i:Nat) (p0 p:Pos)
 | v (i:Nat) (p0 p:Pos)
noncomputable def Fp.py (N:XQ):Fp->Expr
 | .c x p=>.Constant (.str x) 0 p
 | .r i p0 p=>.FormattedValue (.Name (N.getD i "") p0) 114 none p
 | .v i p0 p=>.FormattedValue (.Name (N.getD i "") p0) (-1) none p
inductive Ms where
 | s (x:Str) (p:Pos)
 | f (a b:Fp) (r:List Fp) (p:Pos)
noncomputable def Ms.py (N:XQ):Ms->Expr
 | .s x p=>.Constant (.str x) 0 p
 | .f a b r p=>.JoinedStr (a.py N::b.py N::r.map (Fp.py N)) p
structure Xt where
 neg:Bool
 x:Str
 d:Option Nat
 pe:Pos
 p0:Pos
 p1:Pos
 p:Pos
 pn:Pos
noncomputable def Xt.call (e:Str)(t:Xt):Expr:=.Call (.Name "isinstance" t.p0) [.Name e t.pe,.Name t.x t.p1] [] t.p
noncomputable def Xt.py (e:Str)(t:Xt):Expr:=match t.neg with
 | true=>.UnaryOp .Not (t.call e) t.pn
 | false=>t.call e
noncomputable def Xt.is (u:List Nat)(t:Xt):Bool:=match t.d with
 | some d=>u.contains d
 | none=>true
noncomputable def Xt.val (u:List Nat)(t:Xt):Bool:=match t.neg with
 | true=>!(t.is u)
 | false=>t.is u
inductive Xv where
 | and (a b:Xt) (r:List Xt) (p:Pos) | lst (ts:List Xt) (p:Pos) | one (t:Xt)
noncomputable def Xv.py (e:Str):Xv->Expr
 | .and a b r p=>.BoolOp .And (a.py e::b.py e::r.map (Xt.py e)) p
 | .lst ts p=>.List (ts.map (Xt.py e)) p
 | .one t=>t.py e
mutual
inductive S where
 | set (i:Nat) (e:E) (p1 p:Pos)
 | ret (e:E) (p:Pos)
 | iff (c:E) (a b:Ss) (p:Pos)
 | ex (e:E) (p:Pos)
 | put (o i v:E) (p1 p:Pos)
 | forr (t:Tg) (it:I) (b:Ss) (p:Pos)
 | whil (c:E) (b:Ss) (p:Pos)
 | setF (o:E) (f:Str) (v:E) (p1 p:Pos)
 | setT (is:List (Nat×Pos)) (e:E) (p1 p:Pos)
inductive Ss where
 | nil | cons (s:S) (r:Ss)
end
set_option genInjectivity true
set_option genSizeOf true
structure Nm where
 N:List Str
 F:List Str
 G:List (Str×Cn):=[]
noncomputable def qx:Nat->Str
 | 0=>"int" | 1=>"bool" | 2=>"str" | 3=>"tuple" | 4=>"list" | _=>"dict"
noncomputable def Va:Nat->String
 | 0=>"int" | 1=>"bool" | 2=>"str" | 3=>"tuple" | 4=>"list" | _=>"dict"
noncomputable def Tg.py (N:XQ):Tg->Expr
 | .one i p=>.Name (N.getD i "") p
 | .tup is p=>.Tuple (is.map λ q=>.Name (N.getD q.1 "") q.2) 0 p
mutual
noncomputable def E.py (n:Nm):E->Expr
 | .non p=>.Constant .none 0 p
 | .bl b p=>.Constant (.bool b) 0 p
 | .int i p=>.Constant 187 0 p
 | .str x p=>.Constant (.str x) 0 p
 | .var i p=>.Name (n.N.getD i "") p
 | .bin op a b p=>.BinOp (a.py n) op (b.py n) p
 | .un op a p=>.UnaryOp op (a.py n) p
 | .cmp op a b p=>.Compare (a.py n) [op] [b.py n] p
 | .and a b r p=>.BoolOp .And (a.py n::b.py n::r.py n) p
 | .or a b r p=>.BoolOp .Or (a.py n::b.py n::r.py n) p
 | .ite c a b p=>.IfExp (c.py n) (a.py n) (b.py n) p
 | .call f a r p0 p=>.Call (.Name (n.F.getD f "") p0) (a.py n::r.py n) [] p
 | .callD f a r p0 p=>.Call (.Name (n.F.getD f "") p0) (a.py n::r.py n) [] p
 | .len a p0 p=>.Call (.Name "len" p0) [a.py n] [] p
 | .isi T a p0 p1 p=>.Call (.Name "isinstance" p0) [a.py n,.Name (qx T) p1] [] p
 | .sub a i p=>.Subscript (a.py n) (i.py n) p
 | .tup es p=>.Tuple (es.py n) 0 p
 | .ofL l=>l.py n
 | .tupL l p0 p=>.Call (.Name "tuple" p0) [l.py n] [] p
 | .tupE e p0 p=>.Call (.Name "tuple" p0) [e.py n] [] p
 | .listE e p0 p=>.Call (.Name "list" p0) [e.py n] [] p
 | .dicP e p0 p=>.Call (.Name "dict" p0) [e.py n] [] p
 | .cut a lo hi p2 p=>.Subscript (a.py n) (.Slice (lo.py n) (hi.py n) .none p2) p
 | .cutS a lo hi st p2 p=>.Subscript (a.py n) (.Slice (lo.py n) (hi.py n) (some (st.py n)) p2) p
 | .dic p=>.Dict [] [] p
 | .m0 m o p1 p=>.Call (.Attribute (o.py n) (match m with | .pop=>"pop" | .reverse=>"reverse") p1) [] [] p
 | .m1 m o a p1 p=>.Call (.Attribute (o.py n) (match m with | .append=>"append" | .extend=>"extend") p1) [a.py n] [] p
 | .c1 f a p0 p=>.Call (.Name f.name p0) [a.py n] [] p
 | .cmpN neg a p1 p=>.Compare (a.py n) [if neg then .NotEq else .Eq] [.List [] p1] p
 | .neK neg a b p=>.Compare (a.py n) [if neg then .NotEq else .Eq] [b.py n] p
 | .sset e p0 p1 p2 p=>.Call (.Name "sorted" p0) [.Call (.Name "set" p1) [e.py n] [] p2] [] p
 | .gsub x _ i p0 p=>.Subscript (.Name x p0) (i.py n) p
 | .fld a f p=>.Attribute (a.py n) f p
 | .mk _ x a r p0 p=>.Call (.Name x p0) (a.py n::r.py n) [] p
noncomputable def Eo.py (n:Nm):Eo->Option Expr
 | .none=>.none
 | .some e=>.some (e.py n)
noncomputable def L.py (n:Nm):L->Expr
 | .disp es p=>.List (es.py n) p
 | .comp elt t it c NC cap sc p=>.ListComp (elt.py ⟨NC,n.F,n.G⟩) [⟨t.py NC,it.py n,c.py ⟨NC,n.F,n.G⟩,0⟩] sc p
noncomputable def I.py (n:Nm):I->Expr
 | .seq e=>e.py n
 | .lst l=>l.py n
 | .rng a p0 p=>.Call (.Name "range" p0) [a.py n] [] p
 | .keys e=>e.py n
noncomputable def Es.py (n:Nm):Es->List Expr
 | .nil=>[]
 | .cons e r=>e.py n::r.py n
end
mutual
noncomputable def S.py (n:Nm):S->Stmt
 | .set i e p1 p=>.Assign [.Name (n.N.getD i "") p1] (e.py n) p
 | .ret e p=>.Return (some (e.py n)) p
 | .iff c a b p=>.If (c.py n) (a.py n) (b.py n) p
 | .ex e p=>.Expr (e.py n) p
 | .put o i v p1 p=>.Assign [.Subscript (o.py n) (i.py n) p1] (v.py n) p
 | .forr t it b p=>.For (t.py n.N) (it.py n) (b.py n) [] p
 | .whil c b p=>.While (c.py n) (b.py n) [] p
 | .setF o f v p1 p=>.Assign [.Attribute (o.py n) f p1] (v.py n) p
 | .setT is e p1 p=>.Assign [(Tg.tup is p1).py n.N] (e.py n) p
noncomputable def Ss.py (n:Nm):Ss->List Stmt
 | .nil=>[]
 | .cons s r=>s.py n::r.py n
end
mutual
noncomputable def D.pd (h:Hh):D->Option PyData
 | .non=>some .none
 | .bl b=>some (.bool b)
 | .int i=>some 187
 | .str x=>some (.str x)
 | .tup xs=>(D.pds h xs).map .tuple
 | .loc _=>none
 | .fl xs=>(D.pds h xs).map .list
noncomputable def D.pds (h:Hh):List D->Option (List PyData)
 | []=>some []
 | x::r=>match D.pd h x,D.pds h r with
  | some a,some b=>some (a::b)
  | _,_=>none
end
noncomputable def jD:D->Option Key
 | .int i=>some (.inl i)
 | .str x=>some (.inr x)
 | _=>none
noncomputable def Qx:List D->Option (List Key)
 | []=>some []
 | d::r=>match jD d,Qx r with
  | some k,some ks=>some (k::ks)
  | _,_=>none
noncomputable def yv:D->Option (List Key)
 | .tup ds=>Qx ds
 | _=>none
noncomputable def zI {κ:Type}[DecidableEq κ](kvs:List (κ×D))(k:κ):Option D:=(kvs.find? λ kv=>decide (kv.1=k)).map (·.2)
noncomputable def rd (h:Hh)(n:Nat):Option (List D):=match h[n]? with
 | some (.lst xs)=>some xs
 | _=>none
mutual
noncomputable def D.pe (h:Hh):D->Option PyData
 | .loc n=>(rd h n).bind λ xs=>(D.pds h xs).map .list
 | .tup xs=>(D.pes h xs).map .tuple
 | d=>D.pd h d
noncomputable def D.pes (h:Hh):List D->Option (List PyData)
 | []=>some []
 | x::r=>match D.pe h x,D.pes h r with
  | some a,some b=>some (a::b)
  | _,_=>none
end
noncomputable def pdT (h:Hh):D->Option PyData
 | .loc n=>(rd h n).bind λ xs=>(D.pds h xs).map .list
 | d=>D.pe h d
noncomputable def qH (h:Hh)(kb:134):List (Key×D)->Option Bool
 | []=>some true
 | q::r=>match zI kb q.1 with
  | none=>some false
  | some u=>match D.pe h q.2,D.pe h u,qH h kb r with
   | some p,some t,some b=>if SeqAt.shaped p&&SeqAt.shaped t then some (p.eqv t&&b) else none
   | _,_,_=>none
noncomputable def J5 (h:Hh)(n:Nat):Option (List (Key×D)):=match h[n]? with
 | some (.dK kvs)=>some kvs
 | some (.fK kvs)=>some kvs
 | _=>none
noncomputable def YX (neg:Bool)(a b:D)(h:Hh):Res D:=match a,b with
 | .loc n,.loc m=>match J5 h n,J5 h m with
  | some ka,some kb=>if ka.length=kb.length then (match qH h kb ka with | some r=>.ok (.bl (if neg then !r else r)) h | none=>.no) else .ok (.bl neg) h
  | _,_=>.no
 | _,_=>.no
noncomputable def isI (h:Hh):D->Nat->Option Bool
 | .non,_=>some false
 | .bl _,T=>some (T==0||T==1)
 | .int _,T=>some (T==0)
 | .str _,T=>some (T==2)
 | .tup _,T=>some (T==3)
 | .loc n,T=>match rd h n with
  | some _=>some (T==4)
  | none=>(match h[n]? with
   | some (.dK _)=>some (T==5)
   | some (.dT _)=>some (T==5)
   | _=>none)
 | .fl _,T=>some (T==4)
noncomputable def fits (i:Int):Bool:=decide (Builtin.Int.intBits i<=2 ^ 20)
noncomputable def eqR (neg:Bool)(u v:Option PyData)(h:Hh):Res D:=match u,v with
 | some u,some v=>if u.canLay0=true/\v.canLay0=true/\u.depth<=60 then .ok (.bl (if neg then !PyData.eqv u v else PyData.eqv u v)) h else .no
 | _,_=>.no
noncomputable def i2 (a b:D)(f:Int->Int->Res D):Res D:=match a,b with
 | .int i,.int j=>f i j
 | _,_=>.no
noncomputable def GD (a b:D)(h:Hh):Res D:=match a,b with
 | .int i,.int j=>.ok (.int (i+j)) h
 | .str x,.str y=>if x.length+y.length<=1000000 then .ok (.str (x++y)) h else .no
 | .loc n,.loc m=>match h[n]?,h[m]? with
  | some (.lst xs),some (.lst ys)=>if xs.length+ys.length<=1000000 then .ok 121 (h++[.lst (xs++ys)]) else .no
  | _,_=>.no
 | .tup xs,.tup ys=>if xs.length+ys.length<=1000000 then .ok (.tup (xs++ys)) h else .no
 | _,_=>.no
noncomputable def z25 (a b:D)(h:Hh):Res D:=match b with
 | .int j=>match a with
  | .int i=>if fits i=true/\fits j=true then .ok (.int (i*j)) h else .no
  | .str x=>if 0<=j/\j<=1000/\x.length<=1000 then .ok (.str (Txt.mul x j)) h else .no
  | .loc n=>match h[n]? with
   | some (.lst xs)=>if 0<=j/\j<=1000/\xs.length<=1000 then .ok 121 (h++[.lst (List.replicate j.toNat xs).flatten]) else .no
   | _=>.no
  | _=>.no
 | _=>.no
noncomputable def jl (op:Operator)(a b:D)(h:Hh):Res D:=match op with
 | .Add=>GD a b h
 | .Mult=>z25 a b h
 | .Sub=>i2 a b λ i j=>.ok (.int (i-j)) h
 | .FloorDiv=>i2 a b λ i j=>if 0<j/\j<1267650600228229401496703205376 then .ok (.int (i/j)) h else .no
 | .Mod=>i2 a b λ i j=>if 0<j then .ok (.int (i%j)) h else .no
 | .Pow=>i2 a b λ i j=>if 0<=j/\j<=1000000/\i.natAbs<2 ^ 64 then .ok (.int (i ^ j.toNat)) h else .no
 | .LShift=>i2 a b λ i j=>if fits i=true/\0<=j/\j<=1000000 then .ok (.int (i*2 ^ j.toNat)) h else .no
 | .RShift=>i2 a b λ i j=>if 0<=j then .ok (.int (i/2 ^ j.toNat)) h else .no
 | .BitAnd=>i2 a b λ i j=>.ok (.int (Builtin.bitAnd i j)) h
 | .BitOr=>i2 a b λ i j=>.ok (.int (Builtin.bitOr i j)) h
 | _=>.no
noncomputable def vOf:D->V
 | .bl b=>.bl b
 | .int i=>.int i
 | .str x=>.str x
 | _=>.non
noncomputable def Qy:D->Bool
 | .non | .bl _ | .int _ | .str _=>true
 | _=>false
noncomputable def ngB (neg b:Bool):Bool:=if neg then !b else b
@[simp] theorem ngB_f {b:Bool}:ngB false b=b:=rfl
@[simp] theorem ngB_t {b:Bool}:ngB true b=!b:=rfl
noncomputable def isN:D->Bool
 | .non=>true
 | _=>false
noncomputable def z47:D->Bool
 | .tup _=>true
 | d=>Qy d
noncomputable def OZ (neg:Bool)(x:D)(ds:153)(h:Hh):Res D:=if Qy x=true/\ds.all Qy=true then .ok (.bl (ngB neg (ds.any λ y=>eqV (vOf y) (vOf x)))) h else if neg=false/\isN x=true/\ds.all z47=true then .ok (.bl (ds.any isN)) h else .no
noncomputable def inD (neg:Bool)(x y:D)(h:Hh):Res D:=match y with
 | .tup ds=>OZ neg x ds h
 | .fl ds=>OZ neg x ds h
 | .loc n=>match h[n]? with
  | some (.lst ds)=>OZ neg x ds h
  | some (.dK kvs)=>(match jD x with | some k=>.ok (.bl (ngB neg (zI kvs k).isSome)) h | none=>(match kvs with | []=>(match yv x with | some _=>.ok (.bl (ngB neg false)) h | none=>.no) | _=>.no))
  | some (.fK kvs)=>(match jD x with | some k=>.ok (.bl (ngB neg (zI kvs k).isSome)) h | none=>.no)
  | some (.dT kvs)=>(match yv x with | some k=>.ok (.bl (ngB neg (zI kvs k).isSome)) h | none=>.no)
  | _=>.no
 | .str z=>(match x with | .str u=>.ok (.bl (ngB neg (!(Builtin.Str.occurrences z u 0 z.length 1).isEmpty))) h | _=>.no)
 | _=>.no
noncomputable def isV (neg:Bool)(a b:D)(h:Hh):Res D:=match b with
 | .non=>.ok (.bl (ngB neg (isN a))) h
 | .bl y=>match a with
  | .bl x=>.ok (.bl (ngB neg (x==y))) h
  | _=>.no
 | _=>.no
noncomputable def jx (op:CmpOp)(a b:D)(h:Hh):Res D:=match op with
 | .Lt=>i2 a b λ i j=>.ok (.bl (decide (i<j))) h
 | .LtE=>i2 a b λ i j=>.ok (.bl (decide (i<=j))) h
 | .Gt=>i2 a b λ i j=>.ok (.bl (decide (j<i))) h
 | .GtE=>i2 a b λ i j=>.ok (.bl (decide (j<=i))) h
 | .Eq=>eqR false (pdT h a) (pdT h b) h
 | .NotEq=>eqR true (pdT h a) (pdT h b) h
 | .In=>inD false a b h
 | .NotIn=>inD true a b h
 | .Is=>isV false a b h
 | .IsNot=>isV true a b h
noncomputable def unD (op:UnaryOp)(a:D)(h:Hh):Res D:=match op,a with
 | .Not,.bl b=>.ok (.bl (!b)) h
 | .Invert,.int i=>.ok (.int (Builtin.bitNot i)) h
 | .USub,.int i=>.ok (.int (-i)) h
 | _,_=>.no
noncomputable def Qz (a:D)(h:Hh):Res D:=match a with
 | .tup xs=>.ok (.int xs.length) h
 | .loc n=>match rd h n with | some xs=>.ok (.int xs.length) h | none=>.no
 | .str x=>if x.length<=1000000 then .ok (.int x.length) h else .no
 | .fl xs=>.ok (.int xs.length) h
 | _=>.no
noncomputable def jC (a i:D)(h:Hh):Res D:=match a,i with
 | .tup xs,.int k=>match atI xs k with | some d=>.ok d h | none=>.no
 | .fl xs,.int k=>match atI xs k with | some d=>.ok d h | none=>.no
 | .str x,.int k=>if x.length<=1000000 then (match atI x.cps.toList k with | some c=>.ok (.str ⟨#[c]⟩) h | none=>.no) else .no
 | .loc n,y=>match h[n]? with
  | some (.dK kvs)=>match (jD y).bind (λ k=>zI kvs k) with | some d=>.ok d h | none=>.no
  | some (.fK kvs)=>match (jD y).bind (λ k=>zI kvs k) with | some d=>.ok d h | none=>.no
  | some (.dT kvs)=>match (yv y).bind (λ k=>zI kvs k) with | some d=>.ok d h | none=>.no
  | some (.lst xs)=>match y with
   | .int k=>match atI xs k with | some d=>.ok d h | none=>.no
   | _=>.no
  | _=>.no
 | _,_=>.no
noncomputable def new (o:O)(h:Hh):Res D:=.ok 121 (h++[o])
noncomputable def Zk {κ:Type}[DecidableEq κ](kvs:List (κ×D))(k:κ)(v:D):List (κ×D):=if (kvs.any λ kv=>decide (kv.1=k))=true then kvs.map (λ kv=>if kv.1=k then (kv.1,v) else kv) else kvs++[(k,v)]
noncomputable def onL (x:D)(h:Hh)(r:Res D):Res D:=match x with
 | .loc n=>match h[n]? with
  | some (.lst _)=>r
  | _=>.no
 | _=>.no
noncomputable def m0D (m:M0)(o:D)(h:Hh):Res D:=match o with
 | .loc n=>match h[n]? with
  | some (.lst xs)=>match m with
   | .pop=>match xs.getLast? with | some x=>.ok x (h.set n (.lst xs.dropLast)) | none=>.no
   | .reverse=>.ok .non (h.set n (.lst xs.reverse))
  | _=>.no
 | _=>.no
noncomputable def m1D (m:M1)(o a:D)(h:Hh):Res D:=match o with
 | .loc n=>match h[n]? with
  | some (.lst xs)=>match m with
   | .append=>if xs.length<1000000 then .ok .non (h.set n (.lst (xs++[a]))) else .no
   | .extend=>match a with
    | .loc m=>match h[m]? with
     | some (.lst ys)=>if xs.length+ys.length<=1000000 then .ok .non (h.set n (.lst (xs++ys))) else .no
     | _=>.no
    | .tup ys=>if xs.length+ys.length<=1000000 then .ok .non (h.set n (.lst (xs++ys))) else .no
    | _=>.no
  | _=>.no
 | _=>.no
noncomputable def Zl (o i v:D)(h:Hh):Option Hh:=match o with
 | .loc n=>match h[n]? with
  | some (.lst xs)=>match i with
   | .int k=>(ixN xs.length k).map λ j=>h.set n (.lst (xs.set j v))
   | _=>none
  | some (.dK kvs)=>(jD i).bind λ k=>if kvs.length<1000000 then some (h.set n (.dK (Zk kvs k v))) else none
  | _=>none
 | _=>none
noncomputable def wF (xs:153)(lo hi:Option Int):List D:=(xs.drop (HT.sIx xs.length 0 lo)).take (HT.sIx xs.length xs.length hi-HT.sIx xs.length 0 lo)
noncomputable def yG (a:D)(lo hi:Option Int)(h:Hh):Res D:=match a with
 | .loc n=>match rd h n with
  | some xs=>new (.lst (wF xs lo hi)) h
  | none=>.no
 | .fl xs=>new (.lst (wF xs lo hi)) h
 | .str x=>if x.length<=1000000 then .ok (.str (Txt.slice x lo hi)) h else .no
 | .tup xs=>if HT.sIx xs.length 0 lo=0/\HT.sIx xs.length xs.length hi=xs.length then .ok (.tup xs) h else .ok (.tup (wF xs lo hi)) h
 | _=>.no
noncomputable def z8r (d:D)(h:Hh):Res (Option Int):=match d with | .int i=>.ok (some i) h | _=>.no
noncomputable def qo (d:D)(h:Hh):Option (List D):=match d with
 | .tup xs=>some xs
 | .fl xs=>some xs
 | .loc n=>rd h n
 | _=>none
abbrev Ck:=List (Nat×List D)
noncomputable def stay (c:Ck)(h:Hh):Prop:=∀ p∈c,rd h p.1=some p.2
noncomputable def je (t:Tg)(d:D)(ρ:En):Option En:=match t with
 | .one i _=>some (ρ.set i (some d))
 | .tup is _=>match d with
  | .tup xs=>if xs.length=is.length then some ((is.zip xs).foldl (λ ρ q=>ρ.set q.1.1 (some q.2)) ρ) else none
  | _=>none
noncomputable def jE (cap:147)(ρ:En):En:=cap.map λ o=>o.bind λ i=>(ρ[i]?).bind id
noncomputable def j4 (t:Tg)(ρ:En)(c:En->Hh->Res Bool)(e:En->Hh->Res D)(x:D)(h:Hh):Res (Option D):=match je t x ρ with
 | some ρ'=>(c ρ' h).bind λ b h1=>if b then (e ρ' h1).bind λ d h2=>.ok (some d) h2 else .ok none h1
 | none=>.no
noncomputable def zO (t:Tg)(b:En->Hh->RS)(x:D)(ρ:En)(h:Hh):RS:=match je t x ρ with
 | some ρ'=>b ρ' h
 | none=>.no
noncomputable def B0 (acc:153):Option D->List D
 | some d=>acc++[d]
 | none=>acc
@[simp] theorem addO_some {acc:153}{d:D}:B0 acc (some d)=acc++[d]:=rfl
@[simp] theorem addO_none {acc:153}:B0 acc none=acc:=rfl
open Classical in
noncomputable def jJ (c:Ck)(f:D->Hh->Res (Option D)):List D->List D->Hh->Res (List D)
 | [],acc,h=>if stay c h then .ok acc h else .no
 | x::r,acc,h=>if stay c h then (f x h).bind λ o h'=>jJ c f r (B0 acc o) h' else .no
open Classical in
noncomputable def zH (c:Ck)(f:D->En->Hh->RS):List D->En->Hh->RS
 | [],ρ,h=>if stay c h then .nx ρ h else .no
 | x::r,ρ,h=>if stay c h then (match f x ρ h with
   | .nx ρ' h'=>zH c f r ρ' h'
   | .ct ρ' h'=>zH c f r ρ' h'
   | .bk ρ' h'=>.nx ρ' h'
   | o=>o) else .no
noncomputable def whL (c:En->Hh->Res Bool)(b:En->Hh->RS):Nat->En->Hh->RS
 | 0,_,_=>.no
 | n+1,ρ,h=>match c ρ h with
  | .ok true h1=>(match b ρ h1 with
   | .nx ρ' h'=>whL c b n ρ' h'
   | .ct ρ' h'=>whL c b n ρ' h'
   | .bk ρ' h'=>.nx ρ' h'
   | o=>o)
  | .ok false h1=>.nx ρ h1
  | .exc k h1=>.ex k ρ h1
  | .no=>.no
theorem Zm {c:En->Hh->Res Bool}{b:En->Hh->RS}:∀ (n:Nat) (ρ:En) (h:Hh),whL c b n ρ h≠.no->whL c b (n+1) ρ h=whL c b n ρ h
 | 0,ρ,h,z=>absurd rfl z
 | n+1,ρ,h,z=>by
  rw [whL] at z ⊢;rw [whL];cases ec:c ρ h with
  | ok t h1 =>
   cases t with
   | true =>
    rw [ec] at z;simp only at z ⊢;cases eb:b ρ h1 with
    | nx ρ' h'=>rw [eb] at z;exact Zm n ρ' h' z
    | ct ρ' h'=>rw [eb] at z;exact Zm n ρ' h' z
    | _=>rfl
   | false=>rfl
  | _=>rfl
theorem B1 {c:En->Hh->Res Bool}{b:En->Hh->RS}{n m:Nat}{ρ:En}{h:Hh}(hl:n<=m)(z:whL c b n ρ h≠.no):whL c b m ρ h=whL c b n ρ h:=by
 induction hl with
 | refl=>rfl
 | step _ ih=>rw [Zm _ _ _ (by rw [ih];exact z),ih]
open Classical in
noncomputable def whR (c:En->Hh->Res Bool)(b:En->Hh->RS)(ρ:En)(h:Hh):RS:=if e:∃ n,whL c b n ρ h≠.no then whL c b (Classical.choose e) ρ h else .no
theorem YY {c:En->Hh->Res Bool}{b:En->Hh->RS}{n:Nat}{ρ:En}{h:Hh}{r:RS}(e:whL c b n ρ h=r)(z:r≠.no):whR c b ρ h=r:=by
 have ex:∃ n,whL c b n ρ h≠.no:=⟨n,by rw [e];exact z⟩;unfold whR;rw [dif_pos ex];have z2:=Classical.choose_spec ex;rw [<- B1 (Nat.le_max_left (Classical.choose ex) n) z2,B1 (Nat.le_max_right (Classical.choose ex) n) (by rw [e];exact z),e]
theorem Wl {c:En->Hh->Res Bool}{b:En->Hh->RS}{ρ:En}{h:Hh}(z:whR c b ρ h≠.no):∃ n,whL c b n ρ h=whR c b ρ h:=by
 unfold whR at z ⊢;split at z
 ·rename_i e;exact ⟨_,by rw [dif_pos e]⟩
 ·exact absurd rfl z
theorem Zn {c:En->Hh->Res Bool}{b:En->Hh->RS}{ρ ρ':En}{h h1 h':Hh}(ec:c ρ h=.ok true h1)(eb:b ρ h1=.nx ρ' h'):whR c b ρ h=whR c b ρ' h':=by
 by_cases z:whR c b ρ' h'=.no
 ·by_cases z2:whR c b ρ h=.no
  ·rw [z,z2]
  ·obtain ⟨n,e⟩:=Wl z2;cases n with
   | zero=>rw [<- e] at z2;exact absurd rfl z2
   | succ n =>
    rw [whL,ec] at e;simp only [eb] at e;rw [<- YY e z2]
 ·obtain ⟨n,e⟩:=Wl z;exact YY (n:=n+1) (by rw [whL,ec];simp only [eb];exact e) z
theorem qI {c:En->Hh->Res Bool}{b:En->Hh->RS}{ρ:En}{h h1:Hh}(ec:c ρ h=.ok false h1):whR c b ρ h=.nx ρ h1 :=
 YY (n:=1) (by rw [whL,ec]) 111
noncomputable def tru (d:D)(h:Hh)(f:Bool->Hh->Res D):Res D:=match d with
 | .bl b=>f b h
 | _=>.no
noncomputable def QA:List D->Option (List Bool)
 | []=>some []
 | .bl b::r=>(QA r).map (b::·)
 | _::_=>none
noncomputable def wu:List D->Option (List Str)
 | []=>some []
 | .str x::r=>(wu r).map (x::·)
 | _::_=>none
noncomputable def wR:List D->Option (List Int)
 | []=>some []
 | .int x::r=>(wR r).map (x::·)
 | _::_=>none
noncomputable def yH (x:Str):List Str->List Str
 | []=>[x]
 | y::r=>if x=y then y::r else if x.cps.toList<y.cps.toList then x::y::r else y::yH x r
noncomputable def j6 (l:XQ):List Str:=l.foldr yH []
noncomputable def dK1:Key->D
 | .inl i=>.int i
 | .inr x=>.str x
noncomputable def c1D (f:F1)(a:D)(h:Hh):Res D:=match f,a with
 | .str,.int i=>if i.natAbs.log2<1920 then .ok (.str (toString i)) h else .no
 | .str,.str x=>.ok (.str x) h
 | .int,.int i=>.ok 187 h
 | .int,.bl b=>.ok (.int (if b then 1 else 0)) h
 | .int,.str x=>(match PySem.intText? x with | some n=>if x.length<=640 then .ok (.int n) h else .no | none=>.no)
 | .all,.loc n=>(match (rd h n).bind QA with | some bs=>.ok (.bl (bs.all id)) h | none=>.no)
 | .abs,.int i=>.ok (.int (if i<0 then -i else i)) h
 | .any,.loc n=>(match (rd h n).bind QA with | some bs=>.ok (.bl (bs.any id)) h | none=>.no)
 | .sum,.loc n=>(match (rd h n).bind wR with | some is=>.ok (.int is.sum) h | none=>.no)
 | .srt,.loc n=>(match (rd h n).bind wu with | some ss=>if ss.length<64/\ss.Nodup then new (.lst ((j6 ss).map .str)) h else .no | none=>.no)
 | .lks,.loc n=>(match h[n]? with | some (.dK kvs)=>new (.lst (kvs.map λ p=>dK1 p.1)) h | some (.fK kvs)=>new (.lst (kvs.map λ p=>dK1 p.1)) h | _=>.no)
 | _,_=>.no
noncomputable def QB {α:Type}(f:Str)(v:α):List (Str×α)->List (Str×α)
 | []=>[(f,v)]
 | (g,x)::r=>if g=f then (g,v)::r else (g,x)::QB f v r
noncomputable def J6 (x:D)(f:Str)(h:Hh):Res D:=match x with
 | .loc n=>(match h[n]? with
  | some (.obj _ fs)=>(match fs.lookup f with | some d=>.ok d h | none=>.no)
  | _=>.no)
 | _=>.no
noncomputable def qJ (x:D)(f:Str)(v:D)(h:Hh):Option Hh:=match x with
 | .loc n=>(match h[n]? with
  | some (.obj y fs)=>if fs.length<1000 then some (h.set n (.obj y (QB f v fs))) else none
  | _=>none)
 | _=>none
noncomputable def mkR (n:Nat)(r:Res D):Res D:=match r with
 | .ok .non h=>.ok 146 h
 | .exc c h=>.exc c h
 | _=>.no
noncomputable def Zo (neg:Bool)(x:D)(h:Hh):Res D:=match x with
 | .fl xs=>.ok (.bl (ngB neg xs.isEmpty)) h
 | .loc n=>(match rd h n with | some xs=>.ok (.bl (ngB neg xs.isEmpty)) h | none=>.no)
 | _=>.no
noncomputable def ssD (x:D)(h:Hh):Res D:=match x with
 | .loc n=>(match rd h n with | some xs=>(match wu xs with | some ss=>if ss.length<=4000/\(j6 ss).length<64 then new (.lst ((j6 ss).map .str)) h else .no | none=>.no) | none=>.no)
 | _=>.no
noncomputable def Cv.d:Cv->D
 | .tup xs=>.tup (xs.map .str)
 | .int i=>.int i
 | .fn _ _=>.non
 | .oth=>.non
noncomputable def Cv.isFn:Cv->Bool
 | .fn _ _=>true
 | .oth=>true
 | _=>false
noncomputable def z26 (kvs:List (Str×Cv))(y:D)(h:Hh):Res D:=match y with
 | .str k=>(match kvs.lookup k with | some c=>if c.isFn then .no else .ok c.d h | none=>.no)
 | _=>.no
noncomputable def fnOf (kvs:List (Str×Cv))(y:D):Option Nat:=match y with
 | .str k=>(match kvs.lookup k with | some (.fn i _)=>some i | _=>none)
 | _=>none
noncomputable def B2:D->Option (Key×D)
 | .tup [k,v]=>(jD k).map λ q=>(q,v)
 | _=>none
noncomputable def wv:List D->Option (List (Key×D))
 | []=>some []
 | x::r=>match B2 x,wv r with
  | some a,some b=>some (a::b)
  | _,_=>none
noncomputable def yg (kvs more:134):List (Key×D):=more.foldl (λ acc kv=>Zk acc kv.1 kv.2) kvs
noncomputable def QC (x:D)(h:Hh):Res D:=match x with
 | .loc n=>(match rd h n with
  | some xs=>if xs.length<=1000000 then (match wv xs with | some kvs=>new (.dK (yg [] kvs)) h | none=>.no) else .no
  | none=>.no)
 | _=>.no
noncomputable def Wm (d:D)(h:Hh):D:=match d with
 | .loc n=>(match rd h n with | some xs=>.tup xs | none=>.non)
 | d=>d
@[simp] theorem unpD_tup {xs:153}{h:Hh}:Wm (.tup xs) h=.tup xs:=rfl
noncomputable def Vb (x:D)(lo hi:Option Int)(st:D)(h:Hh):Res D:=match st with
 | .int k=>if 0<k then (match x with
  | .loc n=>match rd h n with
   | some xs=>new (.lst (L2.cutS xs lo hi k)) h
   | none=>.no
  | .fl xs=>new (.lst (L2.cutS xs lo hi k)) h
  | _=>.no) else .no
 | _=>.no
noncomputable def Zp (x:D)(h:Hh):Res (Ck×List D):=match x with
 | .loc n=>match h[n]? with
  | some (.dK kvs)=>.ok ([],kvs.map λ p=>dK1 p.1) (h.set n (.fK kvs))
  | some (.fK kvs)=>.ok ([],kvs.map λ p=>dK1 p.1) h
  | _=>.no
 | _=>.no
noncomputable def Xv.run (u:List Nat)(h:Hh):Xv->D×Hh
 | .and a b r _=>(.bl (a.val u&&(b.val u&&r.all (Xt.val u))),h)
 | .lst ts _=>(.loc h.length,h++[.lst (ts.map λ t=>.bl (t.val u))])
 | .one t=>(.bl (t.val u),h)
noncomputable section
variable (cl:107)
mutual
noncomputable def E.ev:E->En->Hh->Res D
 | .non _,_,h=>.ok .non h
 | .bl b _,_,h=>.ok (.bl b) h
 | .int i _,_,h=>.ok 187 h
 | .str x _,_,h=>.ok (.str x) h
 | .var i _,ρ,h=>match ρ[i]? with | some (some d)=>.ok d h | _=>.no
 | .bin op a b _,ρ,h=>(a.ev ρ h).bind λ x h1=>(b.ev ρ h1).bind λ y h2=>jl op x y h2
 | .un op a _,ρ,h=>(a.ev ρ h).bind λ x h1=>unD op x h1
 | .cmp op a b _,ρ,h=>(a.ev ρ h).bind λ x h1=>(b.ev ρ h1).bind λ y h2=>jx op x y h2
 | .and a b r _,ρ,h=>(a.ev ρ h).bind λ x h1=>tru x h1 λ c h1=>if c then (b.ev ρ h1).bind λ y h2=>r.evAnd ρ y h2 else .ok (.bl false) h1
 | .or a b r _,ρ,h=>(a.ev ρ h).bind λ x h1=>tru x h1 λ c h1=>if c then .ok (.bl true) h1 else (b.ev ρ h1).bind λ y h2=>r.evOr ρ y h2
 | .ite c a b _,ρ,h=>(c.ev ρ h).bind λ x h1=>tru x h1 λ t h1=>if t then a.ev ρ h1 else b.ev ρ h1
 | .call f a r _ _,ρ,h=>(a.ev ρ h).bind λ x h1=>(r.ev ρ h1).bind λ xs h2=>cl f (x::xs) h2
 | .callD f a r _ _,ρ,h=>(a.ev ρ h).bind λ x h1=>(r.ev ρ h1).bind λ xs h2=>cl f (x::xs++[.non]) h2
 | .len a _ _,ρ,h=>(a.ev ρ h).bind λ x h1=>Qz x h1
 | .isi T a _ _ _,ρ,h=>(a.ev ρ h).bind λ x h1=>match isI h1 x T with | some b=>.ok (.bl b) h1 | none=>.no
 | .sub a i _,ρ,h=>(a.ev ρ h).bind λ x h1=>(i.ev ρ h1).bind λ y h2=>jC x y h2
 | .tup es _,ρ,h=>(es.ev ρ h).bind λ xs h1=>if xs.length<=1000 then .ok (.tup xs) h1 else .no
 | .ofL l,ρ,h=>(l.ev ρ h).bind λ xs h1=>new 178 h1
 | .tupL l _ _,ρ,h=>(l.ev ρ h).bind λ xs h1=>.ok (.tup xs) h1
 | .tupE e _ _,ρ,h=>(e.ev ρ h).bind λ x h1=>match qo x h1 with | some xs=>.ok (.tup xs) h1 | none=>.no
 | .listE e _ _,ρ,h=>(e.ev ρ h).bind λ x h1=>match qo x h1 with | some xs=>new (.lst xs) h1 | none=>.no
 | .dicP e _ _,ρ,h=>(e.ev ρ h).bind λ x h1=>QC x h1
 | .cut a lo hi _ _,ρ,h=>(a.ev ρ h).bind λ x h1=>(lo.ev ρ h1).bind λ l h2=>(hi.ev ρ h2).bind λ u h3=>yG x l u h3
 | .cutS a lo hi st _ _,ρ,h=>(a.ev ρ h).bind λ x h1=>(lo.ev ρ h1).bind λ l h2=>(hi.ev ρ h2).bind λ u h3=>(st.ev ρ h3).bind λ y h4=>Vb x l u y h4
 | .dic _,_,h=>new (.dK []) h
 | .m0 m o _ _,ρ,h=>(o.ev ρ h).bind λ x h1=>m0D m x h1
 | .m1 m o a _ _,ρ,h=>(o.ev ρ h).bind λ x h1=>onL x h1 ((a.ev ρ h1).bind λ y h2=>m1D m x y h2)
 | .c1 f a _ _,ρ,h=>(a.ev ρ h).bind λ x h1=>c1D f x h1
 | .cmpN neg a _ _,ρ,h=>(a.ev ρ h).bind λ x h1=>Zo neg x h1
 | .neK neg a b _,ρ,h=>(a.ev ρ h).bind λ x h1=>(b.ev ρ h1).bind λ y h2=>YX neg x y h2
 | .sset e _ _ _ _,ρ,h=>(e.ev ρ h).bind λ x h1=>ssD x h1
 | .gsub _ kvs i _ _,ρ,h=>(i.ev ρ h).bind λ y h1=>z26 kvs y h1
 | .fld a f _,ρ,h=>(a.ev ρ h).bind λ x h1=>J6 x f h1
 | .mk i x a r _ _,ρ,h=>(a.ev ρ h).bind λ y h1=>(r.ev ρ h1).bind λ ys h2=>mkR h2.length (cl i (.loc h2.length::y::ys) (h2++[.obj x []]))
noncomputable def Eo.ev:Eo->En->Hh->Res (Option Int)
 | .none,_,h=>.ok none h
 | .some e,ρ,h=>(e.ev ρ h).bind λ d h1=>z8r d h1
noncomputable def L.ev:L->En->Hh->Res (List D)
 | .disp es _,ρ,h=>(es.ev ρ h).bind λ xs h1=>if xs.length<=1000 then .ok xs h1 else .no
 | .comp elt t it c _ cap _ _,ρ,h=>(it.ev ρ h).bind λ q h1=>if q.2.length<=1000000 then jJ q.1 (j4 t (jE cap ρ) (λ ρ' h2=>c.evC ρ' h2) (λ ρ' h2=>elt.ev ρ' h2)) q.2 [] h1 else .no
noncomputable def I.ev:I->En->Hh->Res (Ck×List D)
 | .seq e,ρ,h=>(e.ev ρ h).bind λ x h1=>match x with
  | .tup xs=>.ok ([],xs) h1
  | .fl xs=>.ok ([],xs) h1
  | .loc n=>match rd h1 n with | some xs=>.ok ([(n,xs)],xs) h1 | none=>.no
  | .str x=>.ok ([],x.cps.toList.map λ c=>.str ⟨#[c]⟩) h1
  | _=>.no
 | .lst l,ρ,h=>(l.ev ρ h).bind λ xs h1=>.ok ([],xs) h1
 | .rng a _ _,ρ,h=>(a.ev ρ h).bind λ x h1=>match x with
  | .int j=>if -1000000<=j/\j<=1000000 then .ok ([],(List.range j.toNat).map λ k=>.int (k:Nat)) h1 else .no
  | _=>.no
 | .keys e,ρ,h=>(e.ev ρ h).bind λ x h1=>Zp x h1
noncomputable def Es.evC:Es->En->Hh->Res Bool
 | .nil,_,h=>.ok true h
 | .cons e _,ρ,h=>(e.ev ρ h).bind λ d h1=>match d with | .bl b=>.ok b h1 | _=>.no
noncomputable def Es.ev:Es->En->Hh->Res (List D)
 | .nil,_,h=>.ok [] h
 | .cons e r,ρ,h=>(e.ev ρ h).bind λ x h1=>(r.ev ρ h1).bind λ xs h2=>.ok (x::xs) h2
noncomputable def Es.evAnd:Es->En->D->Hh->Res D
 | .nil,_,x,h=>.ok x h
 | .cons e r,ρ,x,h=>tru x h λ c h1=>if c then (e.ev ρ h1).bind λ y h2=>r.evAnd ρ y h2 else .ok (.bl false) h1
noncomputable def Es.evOr:Es->En->D->Hh->Res D
 | .nil,_,x,h=>.ok x h
 | .cons e r,ρ,x,h=>tru x h λ c h1=>if c then .ok (.bl true) h1 else (e.ev ρ h1).bind λ y h2=>r.evOr ρ y h2
end
noncomputable def E.evT (e:E)(ρ:En)(h:Hh):Res Bool:=(e.ev cl ρ h).bind λ d h1=>match d with | .bl b=>.ok b h1 | _=>.no
noncomputable def j8 {α:Type}(ρ:En)(r:Res α)(f:α->Hh->RS):RS:=match r with
 | .ok a h=>f a h
 | .exc c h=>.ex c ρ h
 | .no=>.no
@[simp] theorem andS_ok {α:Type}{ρ:En}{a:α}{h:Hh}{f:α->Hh->RS}:j8 ρ (.ok a h) f=f a h:=rfl
@[simp] theorem andS_exc {α:Type}{ρ:En}{c:Nat}{h:Hh}{f:α->Hh->RS}:j8 ρ (.exc c h) f=.ex c ρ h:=rfl
noncomputable def jZ (o:RS)(f:En->Hh->RS):RS:=match o with
 | .nx ρ h=>f ρ h
 | o=>o
@[simp] theorem seqS_nx {ρ:En}{h:Hh}{f:En->Hh->RS}:jZ (.nx ρ h) f=f ρ h:=rfl
@[simp] theorem seqS_rt {d:D}{h:Hh}{f:En->Hh->RS}:jZ (.rt d h) f=.rt d h:=rfl
@[simp] theorem seqS_bk {ρ:En}{h:Hh}{f:En->Hh->RS}:jZ (.bk ρ h) f=.bk ρ h:=rfl
@[simp] theorem seqS_ct {ρ:En}{h:Hh}{f:En->Hh->RS}:jZ (.ct ρ h) f=.ct ρ h:=rfl
@[simp] theorem seqS_ex {c:Nat}{ρ:En}{h:Hh}{f:En->Hh->RS}:jZ (.ex c ρ h) f=.ex c ρ h:=rfl
mutual
noncomputable def S.run:S->En->Hh->RS
 | .set i e _ _,ρ,h=>j8 ρ (e.ev cl ρ h) λ d h1=>.nx (ρ.set i (some d)) h1
 | .ret e _,ρ,h=>j8 ρ (e.ev cl ρ h) λ d h1=>.rt d h1
 | .iff c a b _,ρ,h=>j8 ρ (c.evT cl ρ h) λ t h1=>if t then a.run ρ h1 else b.run ρ h1
 | .ex e _,ρ,h=>j8 ρ (e.ev cl ρ h) λ _ h1=>.nx ρ h1
 | .put o i v _ _,ρ,h=>j8 ρ (v.ev cl ρ h) λ z h1=>j8 ρ (o.ev cl ρ h1) λ x h2=>j8 ρ (i.ev cl ρ h2) λ y h3=>match Zl x y z h3 with | some h4=>.nx ρ h4 | none=>.no
 | .forr t it b _,ρ,h=>j8 ρ (it.ev cl ρ h) λ q h1=>zH q.1 (zO t λ ρ' h'=>b.run ρ' h') q.2 ρ h1
 | .whil c b _,ρ,h=>whR (λ ρ' h'=>c.evT cl ρ' h') (λ ρ' h'=>b.run ρ' h') ρ h
 | .setF o f v _ _,ρ,h=>j8 ρ (v.ev cl ρ h) λ z h1=>j8 ρ (o.ev cl ρ h1) λ x h2=>match qJ x f z h2 with | some h3=>.nx ρ h3 | none=>.no
 | .setT is e p1 _,ρ,h=>j8 ρ (e.ev cl ρ h) λ d h1=>match je (.tup is p1) (Wm d h1) ρ with | some ρ'=>.nx ρ' h1 | none=>.no
noncomputable def Ss.run:Ss->En->Hh->RS
 | .nil,ρ,h=>.nx ρ h
 | .cons s r,ρ,h=>jZ (s.run ρ h) λ ρ' h'=>r.run ρ' h'
end
end
noncomputable def jf:Stmt->List Stmt
 | .ClassDef _ _ _ b _ _ _ _ _ _ _=>b
 | _=>[]
structure Df where
 name:Str
 ps:List Str
 N:List Str
 body:Ss
noncomputable def jy:RS->Res D
 | .rt v h'=>.ok v h'
 | .nx _ h'=>.ok .non h'
 | .ex c _ h'=>.exc c h'
 | _=>.no
noncomputable def Df.run (cl:107)(d:Df)(as:153)(h:Hh):Res D :=
 jy (d.body.run cl (as.map some++List.replicate (d.N.length-as.length) none) h)
noncomputable def callI (ds:List Df):Nat->Nat->List D->Hh->Res D
 | 0,_,_,_=>.no
 | k+1,f,as,h=>match ds[f]? with
  | some d=>if as.length=d.ps.length then d.run (callI ds k) as h else .no
  | none=>.no
section
variable {i j:Int}{h:Hh}{x y:Str}{b c:Bool}{d e:D}{xs:153}
@[simp] theorem bin_add:jl .Add 187 (.int j) h=.ok (.int (i+j)) h:=rfl
@[simp] theorem bin_sub:jl .Sub 187 (.int j) h=.ok (.int (i-j)) h:=rfl
@[simp] theorem bin_mul:jl .Mult 187 (.int j) h=if fits i=true/\fits j=true then .ok (.int (i*j)) h else .no:=rfl
@[simp] theorem bin_fdiv:jl .FloorDiv 187 (.int j) h=if 0<j/\j<1267650600228229401496703205376 then .ok (.int (i/j)) h else .no:=rfl
@[simp] theorem bin_mod:jl .Mod 187 (.int j) h=if 0<j then .ok (.int (i%j)) h else .no:=rfl
@[simp] theorem bin_pow:jl .Pow 187 (.int j) h=if 0<=j/\j<=1000000/\i.natAbs<2 ^ 64 then .ok (.int (i ^ j.toNat)) h else .no:=rfl
@[simp] theorem bin_shl:jl .LShift 187 (.int j) h=if fits i=true/\0<=j/\j<=1000000 then .ok (.int (i*2 ^ j.toNat)) h else .no:=rfl
@[simp] theorem bin_shr:jl .RShift 187 (.int j) h=if 0<=j then .ok (.int (i/2 ^ j.toNat)) h else .no:=rfl
@[simp] theorem bin_and:jl .BitAnd 187 (.int j) h=.ok (.int (Builtin.bitAnd i j)) h:=rfl
@[simp] theorem bin_or:jl .BitOr 187 (.int j) h=.ok (.int (Builtin.bitOr i j)) h:=rfl
@[simp] theorem bin_adds:jl .Add (.str x) (.str y) h=if x.length+y.length<=1000000 then .ok (.str (x++y)) h else .no:=rfl
@[simp] theorem cmp_lt:jx .Lt 187 (.int j) h=.ok (.bl (decide (i<j))) h:=rfl
@[simp] theorem cmp_le:jx .LtE 187 (.int j) h=.ok (.bl (decide (i<=j))) h:=rfl
@[simp] theorem cmp_gt:jx .Gt 187 (.int j) h=.ok (.bl (decide (j<i))) h:=rfl
@[simp] theorem cmp_ge:jx .GtE 187 (.int j) h=.ok (.bl (decide (j<=i))) h:=rfl
@[simp] theorem cmp_eq:jx .Eq d e h=eqR false (pdT h d) (pdT h e) h:=rfl
@[simp] theorem cmp_ne:jx .NotEq d e h=eqR true (pdT h d) (pdT h e) h:=rfl
@[simp] theorem cmp_in:jx .In d e h=inD false d e h:=rfl
@[simp] theorem cmp_notin:jx .NotIn d e h=inD true d e h:=rfl
@[simp] theorem cmp_isN:jx .Is d .non h=.ok (.bl (match d with | .non=>true | _=>false)) h:=by cases d<;>rfl
@[simp] theorem cmp_isnotN:jx .IsNot d .non h=.ok (.bl (match d with | .non=>false | _=>true)) h:=by cases d<;>rfl
@[simp] theorem cmp_is:jx .Is (.bl b) (.bl c) h=.ok (.bl (b==c)) h:=rfl
@[simp] theorem cmp_isnot:jx .IsNot (.bl b) (.bl c) h=.ok (.bl (!(b==c))) h:=rfl
@[simp] theorem eqR_some {neg:Bool}{u v:PyData}:eqR neg (some u) (some v) h=if u.canLay0=true/\v.canLay0=true/\u.depth<=60 then .ok (.bl (if neg then !PyData.eqv u v else PyData.eqv u v)) h else .no:=rfl
@[simp] theorem pdT_non:pdT h .non=some .none:=rfl
@[simp] theorem pdT_bl:pdT h (.bl b)=some (.bool b):=rfl
@[simp] theorem pdT_int:pdT h 187=some 187:=rfl
@[simp] theorem pdT_str:pdT h (.str x)=some (.str x):=rfl
@[simp] theorem pdT_tup:pdT h (.tup xs)=(D.pes h xs).map .tuple:=rfl
@[simp] theorem pdT_loc {n:Nat}:pdT h 146=(rd h n).bind λ xs=>(D.pds h xs).map .list:=rfl
@[simp] theorem pds_nil:D.pds h []=some []:=by unfold D.pds;rfl
@[simp] theorem un_not:unD .Not (.bl b) h=.ok (.bl (!b)) h:=rfl
@[simp] theorem un_invert:unD .Invert 187 h=.ok (.int (Builtin.bitNot i)) h:=rfl
@[simp] theorem un_usub:unD .USub 187 h=.ok (.int (-i)) h:=rfl
@[simp] theorem pdT_fl:pdT h (.fl xs)=(D.pds h xs).map .list:=rfl
@[simp] theorem len_fl:Qz (.fl xs) h=.ok (.int xs.length) h:=rfl
@[simp] theorem sub_fl:jC (.fl xs) 187 h=match atI xs i with | some d=>.ok d h | none=>.no:=rfl
@[simp] theorem len_tup:Qz (.tup xs) h=.ok (.int xs.length) h:=rfl
@[simp] theorem len_loc {n:Nat}:Qz 146 h=match rd h n with | some xs=>.ok (.int xs.length) h | none=>.no:=rfl
@[simp] theorem len_str:Qz (.str x) h=if x.length<=1000000 then .ok (.int x.length) h else .no:=rfl
@[simp] theorem sub_tup:jC (.tup xs) 187 h=match atI xs i with | some d=>.ok d h | none=>.no:=rfl
@[simp] theorem bin_muls:jl .Mult (.str x) (.int j) h=if 0<=j/\j<=1000/\x.length<=1000 then .ok (.str (Txt.mul x j)) h else .no:=rfl
@[simp] theorem bin_addt {ys:153}:jl .Add (.tup xs) (.tup ys) h=if xs.length+ys.length<=1000000 then .ok (.tup (xs++ys)) h else .no:=rfl
@[simp] theorem bin_addl {n m:Nat}:jl .Add 146 (.loc m) h=(match h[n]?,h[m]? with
  | some (.lst xs),some (.lst ys)=>if xs.length+ys.length<=1000000 then .ok 121 (h++[.lst (xs++ys)]) else .no
  | _,_=>.no):=rfl
theorem z27:jC (.str x) 187 h=if x.length<=1000000 then (match atI x.cps.toList i with | some c=>.ok (.str ⟨#[c]⟩) h | none=>.no) else .no:=rfl
theorem Vc {n:Nat}{y:D}:jC 146 y h=(match h[n]? with
  | some (.dK kvs)=>match (jD y).bind (λ k=>zI kvs k) with | some d=>.ok d h | none=>.no
  | some (.fK kvs)=>match (jD y).bind (λ k=>zI kvs k) with | some d=>.ok d h | none=>.no
  | some (.dT kvs)=>match (yv y).bind (λ k=>zI kvs k) with | some d=>.ok d h | none=>.no
  | some (.lst xs)=>match y with
   | .int k=>match atI xs k with | some d=>.ok d h | none=>.no
   | _=>.no
  | _=>.no):=rfl
@[simp] theorem tru_bl {f:Bool->Hh->Res D}:tru (.bl b) h f=f b h:=rfl
end
theorem zb {ds:List Df}{k i:Nat}{d:Df}{as:153}{h:Hh}(hd:ds[i]?=some d)(hl:as.length=d.ps.length):callI ds (k+1) i as h=d.run (callI ds k) as h:=by
 unfold callI;rw [hd];exact if_pos hl
theorem zas {α:Type}{P:List α->Prop}(f:P [])(us:List α)(hl:us.length=0):P us:=by
 cases us with
 | nil=>exact f
 | cons=>cases hl
theorem B3 {α:Type}{n:Nat}{P:List α->Prop}(f:∀ a us,us.length=n->P (a::us))(us:List α)(hl:us.length=n+1):P us:=by
 cases us with
 | nil=>cases hl
 | cons a r=>exact f a r (Nat.succ.inj hl)
theorem Wn {α:Type}{P:List α->Prop}(f:∀ a,P [a]):∀ us:List α,us.length=1->P us:=B3 λ a=>zas (P:=λ us=>P (a::us)) (f a)
theorem wJ {α:Type}{P:List α->Prop}(f:∀ a b,P [a,b]):∀ us:List α,us.length=2->P us:=B3 λ a=>Wn (P:=λ us=>P (a::us)) (f a)
theorem J7 {α:Type}{P:List α->Prop}(f:∀ a b c,P [a,b,c]):∀ us:List α,us.length=3->P us:=B3 λ a=>wJ (P:=λ us=>P (a::us)) (f a)
theorem QD {α:Type}{P:List α->Prop}(f:∀ a b c d,P [a,b,c,d]):∀ us:List α,us.length=4->P us:=B3 λ a=>J7 (P:=λ us=>P (a::us)) (f a)
theorem z28 {α:Type}{P:List α->Prop}(f:∀ a b c d e,P [a,b,c,d,e]):∀ us:List α,us.length=5->P us:=B3 λ a=>QD (P:=λ us=>P (a::us)) (f a)
end PI
namespace PI
open PySem L2
noncomputable def Fz (K:Y00)(H:Hp)(a:Addr)(vs:157):Prop:=(∃ o,H a=some (.frz o (.lst vs)))\/∀ H',SqL K H' a vs
theorem Fz.sq {K:Y00}{H:Hp}{a:Addr}{vs:157}(h:Fz K H a vs):SqL K H a vs:=h.elim (λ ⟨o,q⟩=>.inl (.inr ⟨o,q⟩)) λ q=>q H
mutual
inductive Rep (K:Y00)(μ:XV)(H:Hp):D->V->Prop
 | non:Rep K μ H .non .non
 | bl (b:Bool):Rep K μ H (.bl b) (.bl b)
 | int (i:Int):Rep K μ H 187 187
 | str (x:Str):Rep K μ H (.str x) (.str x)
 | tup {ds:153}{vs:157}{a:Addr}:SqT K H a vs->Reps K μ H ds vs->Rep K μ H (.tup ds) 155
 | loc {n:Nat}{a:Addr}:μ[n]?=some a->Rep K μ H 146 155
 | fl {ds:153}{vs:157}{a:Addr}:Fz K H a vs->Reps K μ H ds vs->Rep K μ H (.fl ds) 155
inductive Reps (K:Y00)(μ:XV)(H:Hp):List D->List V->Prop
 | nil:Reps K μ H [] []
 | cons {d:D}{v:V}{ds:153}{vs:157}:Rep K μ H d v->Reps K μ H ds vs->Reps K μ H (d::ds) (v::vs)
end
structure Ext (K:Y00)(μ:XV)(H:Hp)(μ':XV)(H':Hp):Prop where
 loc:∀ (n:Nat) a,μ[n]?=some a->μ'[n]?=some a
 tup:∀ a xs,SqT K H a xs->SqT K H' a xs
 fz:∀ a xs,Fz K H a xs->Fz K H' a xs
 fk:∀ a o (vs:152),H a=some (.frz o (.dK vs))->H' a=some (.frz o (.dK vs))
 oth:∀ a o,H a=some o->a∉μ->H' a=some o
 new:∀ a,a∈μ'->a∈μ\/H a=none
theorem Ext.refl {K:Y00}{μ:XV}{H:Hp}:Ext K μ H μ H:=⟨λ _ _ h=>h,λ _ _ h=>h,λ _ _ h=>h,λ _ _ _ h=>h,λ _ _ h _=>h,λ _ h=>.inl h⟩
theorem Ext.sub {K:Y00}{μ μ1:XV}{H H1:Hp}(a:Ext K μ H μ1 H1){x:Addr}(h:x∈μ):x∈μ1:=by
 obtain ⟨n,hn⟩:=Y1u h;exact Y0v (a.loc n x hn)
theorem Ext.apart {K:Y00}{μ μ1:XV}{H H1:Hp}(a:Ext K μ H μ1 H1){x:Addr}{o:HO}(h:H x=some o)(n:x∉μ):x∉μ1:=λ z=>by
 rcases a.new x z with q | q
 ·exact n q
 ·rw [h] at q;cases q
theorem Ext.trans {K:Y00}{μ μ1 μ2:XV}{H H1 H2:Hp}(a:Ext K μ H μ1 H1)(b:Ext K μ1 H1 μ2 H2):Ext K μ H μ2 H2:=by
 refine ⟨λ n x h=>b.loc n x (a.loc n x h),λ x y h=>b.tup x y (a.tup x y h),λ x y h=>b.fz x y (a.fz x y h),λ x o y h=>b.fk x o y (a.fk x o y h),λ x o h n=>b.oth x o (a.oth x o h n) (a.apart h n),λ x h=>?_⟩;rcases b.new x h with z | z
 ·exact a.new x z
 ·by_cases hx:x∈μ
  ·exact .inl hx
  ·right;cases e:H x with
   | none=>rfl
   | some o=>rw [a.oth x o e hx] at z;cases z
mutual
theorem Rep.mono {K:Y00}{μ μ':XV}{H H':Hp}(e:Ext K μ H μ' H'):∀ {d:D}{v:V},Rep K μ H d v->Rep K μ' H' d v
 | _,_,.non=>.non
 | _,_,.bl b=>.bl b
 | _,_,.int i=>.int i
 | _,_,.str x=>.str x
 | _,_,.tup h r=>.tup (e.tup _ _ h) (Reps.mono e r)
 | _,_,.loc h=>.loc (e.loc _ _ h)
 | _,_,.fl h r=>.fl (e.fz _ _ h) (Reps.mono e r)
theorem Reps.mono {K:Y00}{μ μ':XV}{H H':Hp}(e:Ext K μ H μ' H'):∀ {ds:153}{vs:157},Reps K μ H ds vs->Reps K μ' H' ds vs
 | _,_,.nil=>.nil
 | _,_,.cons h r=>.cons (Rep.mono e h) (Reps.mono e r)
end
mutual
theorem Rep.mono' {K:Y00}{μ μ':XV}{H:Hp}(e:∀ (n:Nat) a,μ[n]?=some a->μ'[n]?=some a):∀ {d:D}{v:V},Rep K μ H d v->Rep K μ' H d v
 | _,_,.non=>.non
 | _,_,.bl b=>.bl b
 | _,_,.int i=>.int i
 | _,_,.str x=>.str x
 | _,_,.tup h r=>.tup h (Reps.mono' e r)
 | _,_,.loc h=>.loc (e _ _ h)
 | _,_,.fl h r=>.fl h (Reps.mono' e r)
theorem Reps.mono' {K:Y00}{μ μ':XV}{H:Hp}(e:∀ (n:Nat) a,μ[n]?=some a->μ'[n]?=some a):∀ {ds:153}{vs:157},Reps K μ H ds vs->Reps K μ' H ds vs
 | _,_,.nil=>.nil
 | _,_,.cons h r=>.cons (Rep.mono' e h) (Reps.mono' e r)
end
theorem Reps.length {K:Y00}{μ:XV}{H:Hp}:∀ {ds:153}{vs:157},Reps K μ H ds vs->ds.length=vs.length
 | _,_,.nil=>rfl
 | _,_,.cons _ r=>by rw [Y08,Y08,r.length]
theorem Reps.get {K:Y00}{μ:XV}{H:Hp}:∀ {ds:153}{vs:157}{i:Nat}{d:D},Reps K μ H ds vs->ds[i]?=some d->∃ v,vs[i]?=some v/\Rep K μ H d v
 | _,_,_,_,.nil,e=>by simp at e
 | _,_,0,_,.cons h _,e=>by simp at e;subst e;exact ⟨_,rfl,h⟩
 | _,_,i+1,d,.cons _ r,e=>by
  obtain ⟨v,h1,h2⟩:=Reps.get (i:=i) (d:=d) r (by simpa using e);exact ⟨v,by simpa using h1,h2⟩
theorem Reps.append {K:Y00}{μ:XV}{H:Hp}:∀ {ds es:153}{vs ws:157},Reps K μ H ds vs->Reps K μ H es ws->Reps K μ H (ds++es) (vs++ws)
 | _,_,_,_,.nil,r=>r
 | _,_,_,_,.cons h t,r=>.cons h (t.append r)
theorem Reps.atI {K:Y00}{μ:XV}{H:Hp}{ds:153}{vs:157}{k:Int}{d:D}(r:Reps K μ H ds vs)(e:L2.atI ds k=some d):∃ v,L2.atI vs k=some v/\Rep K μ H d v:=by
 unfold L2.atI at e ⊢;rw [<- r.length];cases h:ixN ds.length k with
 | none=>rw [h] at e;cases e
 | some j =>
  rw [h] at e;exact r.get e
theorem Reps.pick {K:Y00}{μ:XV}{H:Hp}{ds:153}{vs:157}(r:Reps K μ H ds vs):∀ is:List Nat,Reps K μ H (is.filterMap λ i=>ds[i]?) (is.filterMap λ i=>vs[i]?)
 | []=>.nil
 | i::is=>by
  have ih:=Reps.pick r is;cases e:ds[i]? with
  | none =>
   have e2:vs[i]?=none:=by
    rw [Y33] at e ⊢;rw [<- r.length];exact e
   rw [Y2i e,Y2i e2];exact ih
  | some x =>
   obtain ⟨u,e2,ru⟩:=r.get e;rw [Y2h e,Y2h e2];exact .cons ru ih
theorem Reps.cutS {K:Y00}{μ:XV}{H:Hp}{ds:153}{vs:157}(r:Reps K μ H ds vs)(lo hi:Option Int)(st:Int):Reps K μ H (L2.cutS ds lo hi st) (L2.cutS vs lo hi st):=by
 unfold L2.cutS;rw [r.length];exact r.pick _
inductive RepKs {κ:Type}(K:Y00)(μ:XV)(H:Hp):List (κ×D)->List (κ×V)->Prop
 | nil:RepKs K μ H [] []
 | cons {k:κ}{d:D}{v:V}{ds:List (κ×D)}{vs:199}:Rep K μ H d v->RepKs K μ H ds vs->RepKs K μ H ((k,d)::ds) ((k,v)::vs)
theorem RepKs.mono {κ:Type}{K:Y00}{μ μ':XV}{H H':Hp}(e:Ext K μ H μ' H'):∀ {ds:List (κ×D)}{vs:199},RepKs K μ H ds vs->RepKs K μ' H' ds vs
 | _,_,.nil=>.nil
 | _,_,.cons h r=>.cons (h.mono e) (r.mono e)
theorem RepKs.length {κ:Type}{K:Y00}{μ:XV}{H:Hp}:∀ {ds:List (κ×D)}{vs:199},RepKs K μ H ds vs->ds.length=vs.length
 | _,_,.nil=>rfl
 | _,_,.cons _ r=>by rw [Y08,Y08,r.length]
inductive RepFs (K:Y00)(μ:XV)(H:Hp):List (Str×D)->List (Str×V)->Prop
 | nil:RepFs K μ H [] []
 | cons {f:Str}{d:D}{v:V}{ds:List (Str×D)}{vs:List (Str×V)}:Rep K μ H d v->RepFs K μ H ds vs->RepFs K μ H ((f,d)::ds) ((f,v)::vs)
theorem RepFs.mono {K:Y00}{μ μ':XV}{H H':Hp}(e:Ext K μ H μ' H'):∀ {ds:List (Str×D)}{vs:List (Str×V)},RepFs K μ H ds vs->RepFs K μ' H' ds vs
 | _,_,.nil=>.nil
 | _,_,.cons h r=>.cons (h.mono e) (r.mono e)
theorem RepFs.mono' {K:Y00}{μ μ':XV}{H:Hp}(e:∀ (n:Nat) a,μ[n]?=some a->μ'[n]?=some a):∀ {ds:List (Str×D)}{vs:List (Str×V)},RepFs K μ H ds vs->RepFs K μ' H ds vs
 | _,_,.nil=>.nil
 | _,_,.cons h r=>.cons (h.mono' e) (r.mono' e)
theorem RepFs.length {K:Y00}{μ:XV}{H:Hp}:∀ {ds:List (Str×D)}{vs:List (Str×V)},RepFs K μ H ds vs->ds.length=vs.length
 | _,_,.nil=>rfl
 | _,_,.cons _ r=>by rw [Y08,Y08,r.length]
theorem RepFs.get {K:Y00}{μ:XV}{H:Hp}{f:Str}{d:D}:∀ {ds:List (Str×D)}{vs:List (Str×V)},RepFs K μ H ds vs->ds.lookup f=some d->∃ v,vs.lookup f=some v/\Rep K μ H d v
 | _,_,.nil,e=>by cases e
 | _,_,@RepFs.cons _ _ _ g _ _ _ _ h r,e=>by
  rw [List.lookup] at e ⊢;cases c:f==g with
  | true=>rw [c] at e;cases e;exact ⟨_,rfl,h⟩
  | false=>rw [c] at e;exact r.get e
theorem RepFs.put {K:Y00}{μ:XV}{H:Hp}{f:Str}{d:D}{v:V}(q:Rep K μ H d v):∀ {ds:List (Str×D)}{vs:List (Str×V)},RepFs K μ H ds vs->RepFs K μ H (QB f d ds) (wo f v vs)
 | _,_,.nil=>.cons q .nil
 | _,_,@RepFs.cons _ _ _ g _ _ _ _ h r=>by
  rw [QB,wo];by_cases c:g=f
  ·rw [if_pos c,if_pos c];exact .cons q r
  ·rw [if_neg c,if_neg c];exact .cons h (r.put q)
noncomputable def jm:List Str:=["named","clauses","bound","doing","left","standing","record","used","end","tasks","numbers","known","block","held","went","name","kept","done","uses","deeds","every","rows"]
structure ClsN (K:Y00)(x:Str)(C:Addr):Prop where
 nm:PySem.W.nsIn K mainGlobals x=some (some (.ref C))
 cl:Cls K C
 na:∀ f∈jm,NoAttr K C f
noncomputable def RepO (K:Y00)(μ:XV)(H:Hp)(a:Addr):O->Prop
 | .lst ds=>∃ vs,H a=some (.lst vs)/\Reps K μ H ds vs
 | .dK kvs=>∃ vs,H a=some (.dK vs)/\RepKs K μ H kvs vs
 | .fK kvs=>∃ ob vs,H a=some (.frz ob (.dK vs))/\RepKs K μ H kvs vs
 | .dT kvs=>∃ vs,H a=some (.dT vs)/\RepKs K μ H kvs vs
 | .obj x fs=>∃ C dx vs,H a=some (.ins C dx vs)/\ClsN K x C/\RepFs K μ H fs vs
theorem RepKs.mono' {κ:Type}{K:Y00}{μ μ':XV}{H:Hp}(e:∀ (n:Nat) a,μ[n]?=some a->μ'[n]?=some a):∀ {ds:List (κ×D)}{vs:199},RepKs K μ H ds vs->RepKs K μ' H ds vs
 | _,_,.nil=>.nil
 | _,_,.cons h r=>.cons (h.mono' e) (r.mono' e)
theorem RepO.mono' {K:Y00}{μ μ':XV}{H:Hp}{a:Addr}{o:O}(e:∀ (n:Nat) a,μ[n]?=some a->μ'[n]?=some a)(r:RepO K μ H a o):RepO K μ' H a o:=by
 cases o with
 | lst ds=>obtain ⟨vs,q,r⟩:=r;exact ⟨vs,q,r.mono' e⟩
 | dK ds=>obtain ⟨vs,q,r⟩:=r;exact ⟨vs,q,r.mono' e⟩
 | fK ds=>obtain ⟨ob,vs,q,r⟩:=r;exact ⟨ob,vs,q,r.mono' e⟩
 | dT ds=>obtain ⟨vs,q,r⟩:=r;exact ⟨vs,q,r.mono' e⟩
 | obj x fs=>obtain ⟨C,dx,vs,q,c,r⟩:=r;exact ⟨C,dx,vs,q,c,r.mono' e⟩
structure HR (K:Y00)(μ:XV)(h:Hh)(H:Hp):Prop where
 len:μ.length=h.length
 inj:∀ (n m:Nat) (a:Addr),μ[n]?=some a->μ[m]?=some a->n=m
 obj:∀ (n:Nat) (a:Addr) (o:O),μ[n]?=some a->h[n]?=some o->RepO K μ H a o
theorem HR.fresh {K:Y00}{μ:XV}{h:Hh}{H:Hp}(r:HR K μ h H){p:Addr}(hp:H p=none):p∉μ:=λ z=>by
 obtain ⟨n,hn⟩:=Y1u z;have hl:n<h.length:=by rw [<- r.len];exact (Y01.mp hn).1
 have:=r.obj n p h[n] hn (Y07 hl)
 cases e:h[n] with
 | lst ds=>rw [e] at this;obtain ⟨vs,q,_⟩:=this;rw [hp] at q;cases q
 | dK ds=>rw [e] at this;obtain ⟨vs,q,_⟩:=this;rw [hp] at q;cases q
 | fK ds=>rw [e] at this;obtain ⟨ob,vs,q,_⟩:=this;rw [hp] at q;cases q
 | dT ds=>rw [e] at this;obtain ⟨vs,q,_⟩:=this;rw [hp] at q;cases q
 | obj x fs=>rw [e] at this;obtain ⟨C,dx,vs,q,_⟩:=this;rw [hp] at q;cases q
theorem zq {K:Y00}{μ:XV}{H:Hp}{p:Addr}{u:HO}(hp:H p=none):Ext K μ H μ (upd H p u) :=
 ⟨λ _ _ h=>h,λ a xs h=>by
  rcases h with h | h
  ·left;rcases h with h | ⟨o,h⟩
   ·exact .inl (by rw [zl (λ z=>by rw [z,hp] at h;cases h)];exact h)
   ·exact .inr ⟨o,by rw [zl (λ z=>by rw [z,hp] at h;cases h)];exact h⟩
  ·exact .inr h,λ a xs h=>by
  rcases h with ⟨o,h⟩ | h
  ·exact .inl ⟨o,by rw [zl (λ z=>by rw [z,hp] at h;cases h)];exact h⟩
  ·exact .inr h,λ a o vs h=>by rw [zl (λ z=>by rw [z,hp] at h;cases h)];exact h,λ a o h _=>by rw [zl (λ z=>by rw [z,hp] at h;cases h)];exact h,λ _ h=>.inl h⟩
theorem Ext.add {K:Y00}{μ μ':XV}{H H':Hp}{p:Addr}(e:Ext K μ H μ' H')(hp:H p=none):Ext K μ H (μ'++[p]) H' :=
 ⟨λ n a h=>by rw [Y11 (Y01.mp (e.loc n a h)).1];exact e.loc n a h,e.tup,e.fz,e.fk,e.oth,
  λ a h=>by
   rcases Y0r.mp h with h | h
   ·exact e.new a h
   ·rw [Y0g.mp h];exact .inr hp⟩
theorem RepO.keep {K:Y00}{μ μ':XV}{H H':Hp}{a:Addr}{o:O}(e:Ext K μ H μ' H')(k:∀ u,H a=some u->H' a=some u)(r:RepO K μ H a o):RepO K μ' H' a o:=by
 cases o with
 | lst ds=>obtain ⟨vs,q,r⟩:=r;exact ⟨vs,k _ q,r.mono e⟩
 | dK ds=>obtain ⟨vs,q,r⟩:=r;exact ⟨vs,k _ q,r.mono e⟩
 | fK ds=>obtain ⟨ob,vs,q,r⟩:=r;exact ⟨ob,vs,k _ q,r.mono e⟩
 | dT ds=>obtain ⟨vs,q,r⟩:=r;exact ⟨vs,k _ q,r.mono e⟩
 | obj x fs=>obtain ⟨C,dx,vs,q,c,r⟩:=r;exact ⟨C,dx,vs,k _ q,c,r.mono e⟩
theorem B4 {H:Hp}{p a:Addr}{u w:HO}(hp:H p=none)(h:H a=some w):upd H p u a=some w:=by
 rw [zl (λ z=>by rw [z,hp] at h;cases h)];exact h
theorem HR.tup {K:Y00}{μ:XV}{h:Hh}{H:Hp}{p:Addr}{u:HO}(r:HR K μ h H)(hp:H p=none):HR K μ h (upd H p u) :=
 ⟨r.len,r.inj,λ n a o e1 e2=>(r.obj n a o e1 e2).keep (zq hp) λ _ q=>B4 hp q⟩
theorem HR.add {K:Y00}{μ:XV}{h:Hh}{H:Hp}{p:Addr}{o:O}(r:HR K μ h H)(hp:p∉μ)(q:∀ μ',(∀ (n:Nat) a,μ[n]?=some a->μ'[n]?=some a)->RepO K μ' H p o):HR K (μ++[p]) (h++[o]) H:=by
 have gr:∀ (n:Nat) a,μ[n]?=some a->(μ++[p])[n]?=some a:=λ n a e=>by rw [Y11 (Y01.mp e).1];exact e
 refine ⟨by rw [Y0e,Y0e,r.len];rfl,λ n m a e1 e2=>?_,λ n a o1 e1 e2=>?_⟩
 ·have key:∀ (n:Nat) (a:Addr),(μ++[p])[n]?=some a->(n<μ.length/\μ[n]?=some a)\/(n=μ.length/\a=p):=λ n a e=>by
   by_cases hn:n<μ.length
   ·rw [Y11 hn] at e;exact .inl ⟨hn,e⟩
   ·right;rw [Y0m 109] at e
    have:n-μ.length=0:=by
     cases q:n-μ.length with
     | zero=>rfl
     | succ z=>rw [q] at e;simp at e
    rw [this] at e;simp at e;exact ⟨by omega,e.symm⟩
  rcases key n a e1 with ⟨hn,q1⟩ | ⟨hn,q1⟩<;>rcases key m a e2 with ⟨hm,q2⟩ | ⟨hm,q2⟩
  ·exact r.inj n m a q1 q2
  ·exact absurd (Y0v q1) (q2▸hp)
  ·exact absurd (Y0v q2) (q1▸hp)
  ·omega
 ·by_cases hn:n<μ.length
  ·rw [Y11 hn] at e1;rw [Y11 (by rw [<- r.len];exact hn)] at e2;exact (r.obj n a o1 e1 e2).mono' gr
  ·rw [Y0m 109] at e1;have hz:n-μ.length=0:=by
    cases z:n-μ.length with
    | zero=>rfl
    | succ y=>rw [z] at e1;simp at e1
   rw [hz] at e1;simp at e1;subst e1;rw [Y0m (by rw [<- r.len];omega),<- r.len,hz] at e2;simp at e2;subst e2;exact q _ gr
theorem HR.alloc {K:Y00}{μ:XV}{h:Hh}{H:Hp}{p:Addr}{u:HO}{o:O}(r:HR K μ h H)(hp:H p=none)(hm:p∉μ)(q:∀ μ',(∀ (n:Nat) a,μ[n]?=some a->μ'[n]?=some a)->RepO K μ' (upd H p u) p o):HR K (μ++[p]) (h++[o]) (upd H p u) :=
 (r.tup hp).add hm q
theorem HR.chg {K:Y00}{μ:XV}{h:Hh}{H:Hp}{n:Nat}{a:Addr}{o o':O}{u:HO}(r:HR K μ h H)(hn:h[n]?=some o)(ha:μ[n]?=some a)
  (q:∀ H',Ext K μ H μ H'->H' a=some u->RepO K μ H' a o') (nz:∀ ks,o≠.fK ks:=by intro _ z;cases z):HR K μ (h.set n o') (upd H a u)/\Ext K μ H μ (upd H a u):=by
 obtain ⟨w,hw,nt,nf⟩:∃ w,H a=some w/\(∀ xs,w≠.tup xs)/\∀ o x,w≠.frz o x:=by
  have z:=r.obj n a o ha hn;cases o with
  | lst ds=>obtain ⟨vs,e,_⟩:=z;exact ⟨_,e,λ _ y=>(nomatch y),λ _ _ y=>(nomatch y)⟩
  | dK ds=>obtain ⟨vs,e,_⟩:=z;exact ⟨_,e,λ _ y=>(nomatch y),λ _ _ y=>(nomatch y)⟩
  | fK ds=>exact absurd rfl (nz ds)
  | dT ds=>obtain ⟨vs,e,_⟩:=z;exact ⟨_,e,λ _ y=>(nomatch y),λ _ _ y=>(nomatch y)⟩
  | obj x fs=>obtain ⟨C,dx,vs,e,_⟩:=z;exact ⟨_,e,λ _ y=>(nomatch y),λ _ _ y=>(nomatch y)⟩
 have ht:∀ b xs,SqT K H b xs->SqT K (upd H a u) b xs:=λ b xs z=>by
  rcases z with z | z
  ·left;rcases z with z | ⟨ob,z⟩
   ·exact .inl (by rw [zl (λ y=>by rw [y,hw] at z;exact nt _ (Option.some.inj z))];exact z)
   ·exact .inr ⟨ob,by rw [zl (λ y=>by rw [y,hw] at z;exact nf _ _ (Option.some.inj z))];exact z⟩
  ·exact .inr z
 have hf:∀ b xs,Fz K H b xs->Fz K (upd H a u) b xs:=λ b xs z=>by
  rcases z with ⟨ob,z⟩ | z
  ·exact .inl ⟨ob,by rw [zl (λ y=>by rw [y,hw] at z;exact nf _ _ (Option.some.inj z))];exact z⟩
  ·exact .inr z
 have ex:Ext K μ H μ (upd H a u):=⟨λ _ _ z=>z,ht,hf,λ b ob ws z=>by rw [zl (λ y=>by rw [y,hw] at z;exact nf _ _ (Option.some.inj z))];exact z,λ b v e z=>by rw [zl (λ (y:b=a)=>z (by rw [y];exact Y0v ha))];exact e,λ _ z=>.inl z⟩;have hl:n<h.length:=(Y01.mp hn).1;refine ⟨⟨by rw [Y1w];exact r.len,r.inj,λ m b v e1 e2=>?_⟩,ex⟩;by_cases hmn:m=n
 ·subst hmn;rw [Y1j hl] at e2;cases e2;rw [ha] at e1;cases e1;exact q _ ex zw
 ·rw [Y18 (Ne.symm hmn)] at e2;have nb:b≠a:=λ y=>hmn (r.inj m n a (y▸e1) ha);exact (r.obj m b v e1 e2).keep ex λ _ g=>by rw [zl nb];exact g
structure ER (K:Y00)(μ:XV)(ρ:En)(σ:St)(H:Hp):Prop where
 len:ρ.length=σ.length
 val:∀ (i:Nat) d,ρ[i]?=some (some d)->∃ v,σ[i]?=some (some v)/\Rep K μ H d v
theorem ER.mono {K:Y00}{μ μ':XV}{H H':Hp}{ρ:En}{σ:St}(r:ER K μ ρ σ H)(e:Ext K μ H μ' H'):ER K μ' ρ σ H' :=
 ⟨r.len,λ i d h=>let ⟨v,a,b⟩:=r.val i d h;⟨v,a,b.mono e⟩⟩
theorem ER.set {K:Y00}{μ:XV}{H:Hp}{ρ:En}{σ:St}{d:D}{v:V}(r:ER K μ ρ σ H)(q:Rep K μ H d v)(i:Nat):ER K μ (ρ.set i (some d)) (σ.set i (some v)) H:=by
 refine ⟨by rw [Y1w,Y1w,r.len],λ j e hj=>?_⟩;by_cases hij:i=j
 ·subst hij;rw [List.getElem?_set] at hj ⊢;have hl:i<ρ.length:=by
   by_cases hl:i<ρ.length
   ·exact hl
   ·rw [if_pos rfl,if_neg hl] at hj;cases hj
  rw [if_pos rfl,if_pos hl] at hj;rw [if_pos rfl,if_pos (by rw [<- r.len];exact hl)];cases hj;exact ⟨v,rfl,q⟩
 ·rw [Y18 hij] at hj ⊢;exact r.val j e hj
noncomputable def PostE {α β:Type}(K:Y00)(cv:XZ)(R:List Addr->Hp->α->β->Prop)(μ:XV)(H:Hp)(r:Res α)(Q:β->Hp->Prop)(Z:Value->Hp->Prop):Prop :=
 match r with
 | .ok d h'=>∀ μ' H' v,Ext K μ H μ' H'->HR K μ' h' H'->R μ' H' d v->Q v H'
 | .exc c h'=>∀ μ' H',Ext K μ H μ' H'->HR K μ' h' H'->Z (cv c) H'
 | .no=>False
noncomputable def zB {α β:Type}(K:Y00)(cv:XZ)(R:List Addr->Hp->α->β->Prop)(Z:ZK)(m:En->Hh->Res α):St->Hp->(β->Hp->Prop)->Prop :=
 λ σ H Q=>∃ μ ρ h,HR K μ h H/\ER K μ ρ σ H/\PostE K cv R μ H (m ρ h) Q (Z σ)
theorem za {α β:Type}{K:Y00}{cv:XZ}{R:List Addr->Hp->α->β->Prop}{Z:ZK}{m:En->Hh->Res α}{σ:St}{H:Hp}{Q:β->Hp->Prop}{G:Prop}(f:∀ μ ρ h,HR K μ h H->ER K μ ρ σ H->PostE K cv R μ H (m ρ h) Q (Z σ)->G)(x:zB K cv R Z m σ H Q):G:=by
 obtain ⟨μ,ρ,h,hr,er,q⟩:=x;exact f μ ρ h hr er q
theorem z9 {α β γ δ:Type}{K:Y00}{cv:XZ}{R:List Addr->Hp->α->β->Prop}{R':List Addr->Hp->γ->δ->Prop}{μ:XV}{ρ:En}{h:Hh}{σ:St}{H:Hp}{Z:ZK}{m:En->Hh->Res α}{f:α->Hh->Res γ}{Q:δ->Hp->Prop}{Q':β->Hp->Prop}
  (hr:HR K μ h H) (er:ER K μ ρ σ H) (p:PostE K cv R' μ H ((m ρ h).bind f) Q (Z σ))
  (go:∀ a h1 μ1 H1 x,m ρ h=.ok a h1->Ext K μ H μ1 H1->HR K μ1 h1 H1->ER K μ1 ρ σ H1->R μ1 H1 a x->PostE K cv R' μ1 H1 (f a h1) Q (Z σ)->Q' x H1) :
  zB K cv R Z m σ H Q':=by
 refine ⟨μ,ρ,h,hr,er,?_⟩;cases e:m ρ h with
 | ok a h1 =>
  rw [e,bind_ok] at p;intro μ1 H1 x e1 r1 q1;refine go a h1 μ1 H1 x e e1 r1 (er.mono e1) q1 ?_;unfold PostE at p ⊢;cases e2:f a h1 with
  | ok b h2=>rw [e2] at p;exact λ μ2 H2 v e3 r3 q3=>p μ2 H2 v (e1.trans e3) r3 q3
  | exc c h2=>rw [e2] at p;exact λ μ2 H2 e3 r3=>p μ2 H2 (e1.trans e3) r3
  | no=>rw [e2] at p;exact p
 | exc c h1=>rw [e,bind_exc] at p;exact p
 | no=>rw [e,bind_no] at p;exact p
theorem PostE.here {α β:Type}{K:Y00}{cv:XZ}{R:List Addr->Hp->α->β->Prop}{μ:XV}{H:Hp}{d:α}{h:Hh}{v:β}{Q:β->Hp->Prop}{Z:Value->Hp->Prop}(p:PostE K cv R μ H (.ok d h) Q Z)(hr:HR K μ h H)(r:R μ H d v):Q v H :=
 p μ H v Ext.refl hr r
end PI
namespace PI
open PySem L2 PySem.Spec
open PyProof.Rows hiding St
section
variable {X:Cx}{pins:115}{σ:St}{H:Hp}{s:130}{μ:XV}{h:Hh}
mutual
theorem w9 (I:110):∀ {d:D}{v:V}{u:Value}{p:PyData},Rep X.K μ H d v->RelV v u->D.pd h d=some p->∃ as,Reads s.heap u p as
 | .non,_,_,_,r,q,e=>by cases r;cases q;cases e;exact ⟨_,.none⟩
 | .bl b,_,_,_,r,q,e=>by cases r;cases q;cases e;exact ⟨_,.bool b⟩
 | .int i,_,_,_,r,q,e=>by cases r;obtain ⟨t,rfl⟩:=q;cases e;exact ⟨_,.int i t⟩
 | .str x,_,_,_,r,q,e=>by cases r;obtain ⟨t,rfl⟩:=q;cases e;exact ⟨_,.str x t⟩
 | .tup ds,_,_,_,r,q,e=>by
  cases r with
  | tup hs rs =>
   cases q;unfold D.pd at e;cases e1:D.pds h ds with
   | none=>rw [e1] at e;cases e
   | some ps =>
    rw [e1] at e;cases e;obtain ⟨its,rv,⟨o,g1,g2,n,g3⟩,_⟩:=I.tuple hs;obtain ⟨as,ra⟩:=readsAll_of I rs rv e1;exact ⟨_,.tuple g1 g2 g3 (by simpa using ra)⟩
 | .loc n,_,_,_,r,q,e=>by cases e
 | .fl ds,_,_,_,r,q,e=>by
  cases r with
  | fl hs rs =>
   cases q;unfold D.pd at e;cases e1:D.pds h ds with
   | none=>rw [e1] at e;cases e
   | some ps =>
    rw [e1] at e;cases e;obtain ⟨its,rv,⟨o,n,g1,g2,_,g3⟩,_⟩:=I.list hs.sq;obtain ⟨as,ra⟩:=readsAll_of I rs rv e1;exact ⟨_,.list g1 g2 g3 (by simpa using ra)⟩
theorem readsAll_of (I:110):∀ {ds:153}{vs:157}{us:XW}{ps:List PyData},Reps X.K μ H ds vs->Vals vs us->D.pds h ds=some ps->∃ as,ReadsAll s.heap us ps as
 | [],_,_,_,r,q,e=>by cases r;cases q;cases e;exact ⟨_,.nil⟩
 | d::ds,_,_,_,r,q,e=>by
  cases r with
  | cons r1 r2 =>
   cases q with
   | cons q1 q2 =>
    unfold D.pds at e;cases e1:D.pd h d with
    | none=>rw [e1] at e;cases e
    | some p =>
     cases e2:D.pds h ds with
     | none=>rw [e1,e2] at e;cases e
     | some ps =>
      rw [e1,e2] at e;cases e;obtain ⟨as,ra⟩:=w9 I r1 q1 e1;obtain ⟨bs,rb⟩:=readsAll_of I r2 q2 e2;exact ⟨_,.cons ra rb⟩
end
theorem HR.rd (hr:HR X.K μ h H){n:Nat}{ds:153}(e:rd h n=some ds){a:Addr}(m:μ[n]?=some a):∃ vs,SqL X.K H a vs/\Reps X.K μ H ds vs:=by
 unfold PI.rd at e;cases e1:h[n]? with
 | none=>rw [e1] at e;cases e
 | some o =>
  rw [e1] at e;have q:=hr.obj n a o m e1;cases o with
  | lst xs=>cases e;obtain ⟨vs,q1,q2⟩:=q;exact ⟨vs,SqL.of q1,q2⟩
  | dK xs=>cases e
  | fK xs=>cases e
  | dT xs=>cases e
  | obj _ _=>cases e
theorem Jz (I:110)(hr:HR X.K μ h H){n:Nat}{a:Addr}{p:PyData}(m:μ[n]?=some a)(e:((rd h n).bind λ xs=>(D.pds h xs).map PyData.list)=some p):∃ as,Reads s.heap 155 p as:=by
 cases e1:PI.rd h n with
 | none=>rw [e1] at e;cases e
 | some xs =>
  rw [e1] at e;cases e2:D.pds h xs with
  | none=>have e:(D.pds h xs).map PyData.list=some p:=e;rw [e2] at e;cases e
  | some ps =>
   have e:(D.pds h xs).map PyData.list=some p:=e;rw [e2] at e;cases e;obtain ⟨vs,hs,rs⟩:=hr.rd e1 m;obtain ⟨its,rv,⟨o,n,g1,g2,_,g3⟩,_⟩:=I.list hs;obtain ⟨as,ra⟩:=readsAll_of I rs rv e2;exact ⟨_,.list g1 g2 g3 (by simpa using ra)⟩
mutual
theorem qc (I:110)(hr:HR X.K μ h H):∀ {d:D}{v:V}{u:Value}{p:PyData},Rep X.K μ H d v->RelV v u->D.pe h d=some p->∃ as,Reads s.heap u p as
 | .non,_,_,_,r,q,e=>w9 (h:=h) I r q e
 | .bl b,_,_,_,r,q,e=>w9 (h:=h) I r q e
 | .int i,_,_,_,r,q,e=>w9 (h:=h) I r q e
 | .str x,_,_,_,r,q,e=>w9 (h:=h) I r q e
 | .fl ds,_,_,_,r,q,e=>w9 (h:=h) I r q (by unfold D.pe at e;exact e)
 | .loc n,_,_,_,r,q,e=>by
  cases r with
  | loc m=>cases q;exact Jz I hr m (by unfold D.pe at e;exact e)
 | .tup ds,_,_,_,r,q,e=>by
  cases r with
  | tup hs rs =>
   cases q;unfold D.pe at e;cases e1:D.pes h ds with
   | none=>rw [e1] at e;cases e
   | some ps =>
    rw [e1] at e;cases e;obtain ⟨its,rv,⟨o,g1,g2,n,g3⟩,_⟩:=I.tuple hs;obtain ⟨as,ra⟩:=readsEs_of I hr rs rv e1;exact ⟨_,.tuple g1 g2 g3 (by simpa using ra)⟩
theorem readsEs_of (I:110)(hr:HR X.K μ h H):∀ {ds:153}{vs:157}{us:XW}{ps:List PyData},Reps X.K μ H ds vs->Vals vs us->D.pes h ds=some ps->∃ as,ReadsAll s.heap us ps as
 | [],_,_,_,r,q,e=>by cases r;cases q;unfold D.pes at e;cases e;exact ⟨_,.nil⟩
 | d::ds,_,_,_,r,q,e=>by
  cases r with
  | cons r1 r2 =>
   cases q with
   | cons q1 q2 =>
    unfold D.pes at e;cases e1:D.pe h d with
    | none=>rw [e1] at e;cases e
    | some p =>
     cases e2:D.pes h ds with
     | none=>rw [e1,e2] at e;cases e
     | some ps =>
      rw [e1,e2] at e;cases e;obtain ⟨as,ra⟩:=qc I hr r1 q1 e1;obtain ⟨bs,rb⟩:=readsEs_of I hr r2 q2 e2;exact ⟨_,.cons ra rb⟩
end
theorem qe (I:110)(hr:HR X.K μ h H){d:D}{v:V}{u:Value}{p:PyData}(r:Rep X.K μ H d v)(q:RelV v u)(e:pdT h d=some p):∃ as,Reads s.heap u p as:=by
 cases d with
 | loc n =>
  cases r with
  | loc m=>cases q;exact Jz I hr m e
 | _=>exact qc I hr r q e
end
theorem ww {n:Nat}(h:n<=1000000):n<=sizeLine:=by rw [sizeLine_eq];omega
theorem Vd {n:Nat}(h:n<1000000):n<sizeLine:=by rw [sizeLine_eq];omega
section
variable {X:Cx}{cv:XZ}
noncomputable def r2 (K:Y00)(cv:XZ)(f:D->D->Hh->Res D):R2:=λ x y H Q=>∃ μ h a b Z,HR K μ h H/\Rep K μ H a x/\Rep K μ H b y/\PostE K cv (Rep K) μ H (f a b h) Q Z
noncomputable def r1 (K:Y00)(cv:XZ)(f:D->Hh->Res D):V->Hp->VK->Prop:=λ x H Q=>∃ μ h a Z,HR K μ h H/\Rep K μ H a x/\PostE K cv (Rep K) μ H (f a h) Q Z
theorem z29:OpR X (binaryOp .Mult) (rI (λ i j=>Builtin.Int.intBits i<=2 ^ 20/\Builtin.Int.intBits j<=2 ^ 20) λ i j=>.int (i*j)):=opI λ _ _ _ _ _ _ _ hc q=>mul_int q (IntMulOk.of_bits hc.1 hc.2)
theorem z2a:OpR X (binaryOp .LShift) (rI (λ i j=>Builtin.Int.intBits i<=2 ^ 20/\0<=j/\j<=1000000) λ i j=>.int (i*2 ^ j.toNat)):=opI λ _ _ _ _ _ _ _ hc q=>lshift_int hc.2.1 (by have:=hc.1;have:=hc.2.2;omega) q
theorem z66 {x:Str}{j:Int}(h:0<=j/\j<=1000/\x.length<=1000):MulOk x j:=by
 obtain ⟨h0,h1,h2⟩:=h;refine ⟨by simp;omega,λ a b c=>?_,λ a b=>?_⟩
 ·have hj:1<=j:=by omega
  have:(2 ^ 63-1)/1000<=(2 ^ 63-1:Int)/j:=Int.le_ediv_of_mul_le 109 (by
   have:((2 ^ 63-1)/1000:Int)*j<=((2 ^ 63-1)/1000)*1000:=Y2w h1 108
   have e:(((2 ^ 63-1)/1000:Int)*1000)<=2 ^ 63-1:=by decide
   omega)
  have e:(1000:Int)<(2 ^ 63-1)/1000:=by decide
  omega
 ·have hm:x.length*j.toNat<=1000*1000:=Nat.mul_le_mul h2 109;unfold PySem.Builtin.Str.tooLong;exact decide_eq_false (by rw [sizeLine_eq];omega)
theorem z2b:OpR X (binaryOp .Mult) (λ x y H Q=>∃ z j,x=.str z/\y=.int j/\(0<=j/\j<=1000/\z.length<=1000)/\Q (.str (Txt.mul z j)) H):=by
 intro pins s σ H x y v u Q I rx ry h;obtain ⟨z,j,rfl,rfl,hc,q⟩:=h;obtain ⟨t,rfl⟩:=rx;obtain ⟨t',rfl⟩:=ry;exact SB.mul (z66 hc) λ t' k=>⟨.str _,H,I.tok _,125,q⟩
theorem QE (t b:Addr)(xs ys:Array Value)(n m:Nat)(d1 d2:166)(s1 s2:171)(h0:xs.isEmpty=true) :
  Meets (Builtin.«tuple.__add__» ⟨[.ref t,.ref b],[]⟩) (λ _ R s =>
   s.heap.get? t=some ⟨.type "tuple",d1,.seq xs n,s1⟩ /\
   s.heap.get? b=some ⟨.type "tuple",d2,.seq ys m,s2⟩ /\
   R (.ok (.ret (Value.ref b))) s) :=
 .of_wp λ prog w A R s h=>by
  obtain ⟨hp,g,d,tk,os⟩:=s;obtain ⟨hl,hb,h⟩:=h;have f1:=AutoSeq1.idx_int;have f2:=AutoSeq1.sub_list_tuple;have f3:=AutoSeq1.sub_tuple_list;have f4:=AutoSeq1.sub_tuple_tuple;have f5:=AutoSeq1.sub_list_list
  wp_walk using AutoSeq1.wpAny_loadPart' hl,AutoSeq1.wpAny_loadPart' hb
  exact ⟨_,rfl,h⟩
theorem z2c {A:Around}{E:XU}{prog:156}{w:World}{s:130}{t b:Addr}{vs ws:XW}{Q:XU}(ht:IsTup s.heap t vs.toArray)(hb:IsTup s.heap b ws.toArray)(hv:vs=[])(h1:Q (.ref b) s) :
  wpAny 118 A (binaryOp .Add (.ref t) (.ref b)) Q E s:=by
 obtain ⟨⟨cls,dd,data,sl⟩,ho,hc,n,hd⟩:=id ht;obtain ⟨⟨cls2,dd2,data2,sl2⟩,ho2,hc2,n2,hd2⟩:=id hb;simp only at hc hd hc2 hd2;subst hc hd hc2 hd2;exact concat_meets ⟨_,ho,rfl⟩ ⟨_,ho2,rfl⟩ noFill_tuple_add seq_tuple_add Y3i Y38 (Y36 _ _) (QE t b vs.toArray ws.toArray n n2 dd dd2 sl sl2 (by simp [hv])) ⟨ho,ho2,h1⟩
theorem Reps.rep {K:Y00}{μ:XV}{H:Hp}{ds:153}{vs:157}(r:Reps K μ H ds vs):∀ k:Nat,Reps K μ H (List.replicate k ds).flatten (List.replicate k vs).flatten
 | 0=>.nil
 | k+1=>by rw [Y14,Y14,Y29,Y29];exact r.append (Reps.rep r k)
section
variable {K:Y00}{μ:XV}{H:Hp}{Q:VK}{Z:Value->Hp->Prop}
theorem jg {c:Prop}[Decidable c]{r:Res D}{G:Prop}(p:PostE K cv (Rep K) μ H (if c then r else .no) Q Z)(f:c->PostE K cv (Rep K) μ H r Q Z->G):G:=by
 by_cases hc:c
 ·rw [if_pos hc] at p;exact f hc p
 ·rw [if_neg hc] at p;exact p.elim
theorem jh {a b:D}{x y:V}{g:Int->Int->Res D}{G:Prop}(ra:Rep K μ H a x)(rb:Rep K μ H b y)(p:PostE K cv (Rep K) μ H (i2 a b g) Q Z)(f:∀ i j,x=.int i->y=.int j->PostE K cv (Rep K) μ H (g i j) Q Z->G):G:=by
 cases a with
 | int i =>
  cases b with
  | int j=>cases ra;cases rb;exact f i j rfl rfl p
  | _=>exact p.elim
 | _=>exact p.elim
theorem QF {neg:Bool}{u v:Option PyData}{h:Hh}{G:Prop}(p:PostE K cv (Rep K) μ H (eqR neg u v h) Q Z)(f:∀ pu pv,u=some pu->v=some pv->pu.canLay0=true->pv.canLay0=true->pu.depth<=60->PostE K cv (Rep K) μ H (.ok (.bl (if neg then !PyData.eqv pu pv else PyData.eqv pu pv)) h) Q Z->G):G:=by
 cases u with
 | none=>exact p.elim
 | some pu =>
  cases v with
  | none=>exact p.elim
  | some pv=>exact jg p λ c q=>f pu pv rfl rfl c.1 c.2.1 c.2.2 q
end
theorem z2d:OpR X (binaryOp .Add) (r2 X.K cv GD):=by
 intro pins s σ H x y v u Q I rx ry hh;obtain ⟨μ,h,a,b,Z,hr,ra,rb,p⟩:=hh;cases a with
 | int i =>
  cases b with
  | int j=>cases ra;cases rb;exact z5d pins s σ H _ _ v u Q I rx ry ⟨_,_,rfl,rfl,p.here hr (.int _)⟩
  | _=>exact p.elim
 | str i =>
  cases b with
  | str j=>cases ra;cases rb;exact jg p λ c p=>Yx pins s σ H _ _ v u Q I rx ry ⟨_,_,rfl,rfl,ww c,p.here hr (.str _)⟩
  | _=>exact p.elim
 | loc n =>
  cases b with
  | loc m =>
   cases ra with
   | loc ma =>
    cases rb with
    | loc mb =>
     have p:PostE X.K cv 142 μ H (match h[n]?,h[m]? with
      | some (.lst xs),some (.lst ys)=>if xs.length+ys.length<=1000000 then .ok 121 (h++[.lst (xs++ys)]) else .no
      | _,_=>.no) Q Z:=p
     cases e1:h[n]? with
     | none=>rw [e1] at p;exact p.elim
     | some o1 =>
      cases e2:h[m]? with
      | none=>rw [e1,e2] at p;cases o1<;>exact p.elim
      | some o2 =>
       rw [e1,e2] at p;cases o1 with
       | dK k=>exact p.elim
       | fK k=>exact p.elim
       | dT k=>exact p.elim
       | obj _ _=>exact p.elim
       | lst xs =>
        cases o2 with
        | dK k=>exact p.elim
        | fK k=>exact p.elim
        | dT k=>exact p.elim
        | obj _ _=>exact p.elim
        | lst ys =>
         refine jg p λ c p=>?_;obtain ⟨va,ha,qa⟩:=hr.obj n _ _ ma e1;obtain ⟨vb,hb,qb⟩:=hr.obj m _ _ mb e2;refine z5t pins s σ H _ _ v u Q I rx ry ⟨_,_,_,_,rfl,rfl,ha,hb,by rw [<- qa.length,<- qb.length];exact ww c,λ b hb=>?_⟩;have nb:b∉μ:=hr.fresh hb;refine p _ _ _ ((zq hb).add hb) (hr.alloc hb nb λ μ' g=>⟨_,zw,((qa.append qb).mono (zq hb)).mono' g⟩) (.loc ?_);rw [<- hr.len,Y0m 169,Y1q];rfl
  | _=>exact p.elim
 | tup ds =>
  cases b with
  | tup es =>
   refine jg p λ c p=>?_;cases ra with
   | @tup _ vs a h1 r1 =>
    cases rb with
    | @tup _ ws b h2 r2 =>
     by_cases hv:vs=[]
     ·subst hv;cases r1;cases rx;cases ry;obtain ⟨its,q1,p1,_⟩:=I.tuple h1;obtain ⟨its2,q2,p2,_⟩:=I.tuple h2;cases q1;exact z2c p1 p2 rfl ⟨.ref b,H,I,rfl,p.here hr (.tup h2 r2)⟩
     ·refine z1i pins s σ H _ _ v u Q I rx ry ⟨a,b,vs,ws,rfl,rfl,h1,h2,hv,by rw [<- r1.length,<- r2.length];exact ww c,λ hz=>?_,λ _ l hl=>?_⟩
      ·subst hz;cases r2;rw [Y13] at p;exact p.here hr (.tup h1 r1)
      ·exact p μ _ _ (zq hl) (hr.tup hl) (.tup (SqT.of zw) ((r1.append r2).mono (zq hl)))
  | _=>exact p.elim
 | _=>exact p.elim
theorem z2e:OpR X (binaryOp .Mult) (r2 X.K cv z25):=by
 intro pins s σ H x y v u Q I rx ry hh;obtain ⟨μ,h,a,b,Z,hr,ra,rb,p⟩:=hh;cases b with
 | int j =>
  cases rb;cases a with
  | int i=>cases ra;exact jg p λ c p=>z29 pins s σ H _ _ v u Q I rx ry ⟨_,_,rfl,rfl,⟨of_decide_eq_true c.1,of_decide_eq_true c.2⟩,p.here hr (.int _)⟩
  | str z=>cases ra;exact jg p λ c p=>z2b pins s σ H _ _ v u Q I rx ry ⟨_,_,rfl,rfl,c,p.here hr (.str _)⟩
  | loc n =>
   cases ra with
   | loc ma =>
    have p:PostE X.K cv 142 μ H (match h[n]? with
     | some (.lst xs)=>if 0<=j/\j<=1000/\xs.length<=1000 then .ok 121 (h++[.lst (List.replicate j.toNat xs).flatten]) else .no
     | _=>.no) Q Z:=p
    cases e1:h[n]? with
    | none=>rw [e1] at p;exact p.elim
    | some o1 =>
     rw [e1] at p;cases o1 with
     | dK k=>exact p.elim
     | fK k=>exact p.elim
     | dT k=>exact p.elim
     | obj _ _=>exact p.elim
     | lst xs =>
      refine jg p λ c p=>?_;obtain ⟨va,ha,qa⟩:=hr.obj n _ _ ma e1;refine z5u pins s σ H _ _ v u Q I rx ry ⟨_,_,va,rfl,rfl,ha,by omega,by omega,?_,λ b hb=>?_⟩
      ·have hm:va.length*j.toNat<=1000*1000:=Nat.mul_le_mul (by rw [<- qa.length];exact c.2.2) 109;rw [sizeLine_eq];omega
      ·have nb:b∉μ:=hr.fresh hb;refine p _ _ _ ((zq hb).add hb) (hr.alloc hb nb λ μ' g=>⟨_,zw,((qa.rep j.toNat).mono (zq hb)).mono' g⟩) (.loc ?_);rw [<- hr.len,Y0m 169,Y1q];rfl
  | _=>exact p.elim
 | _=>exact p.elim
theorem z67 (op:Operator):OpR X (binaryOp op) (r2 X.K cv (jl op)):=by
 cases op with
 | Add=>exact z2d
 | Mult=>exact z2e
 | Sub =>
  intro pins s σ H x y v u Q I rx ry q0;obtain ⟨μ,h,a,b,Z,hr,ra,rb,p⟩:=q0;exact jh ra rb p λ i j ex ey p=>z5e pins s σ H _ _ v u Q I rx ry ⟨i,j,ex,ey,p.here hr (.int _)⟩
 | FloorDiv =>
  intro pins s σ H x y v u Q I rx ry q0;obtain ⟨μ,h,a,b,Z,hr,ra,rb,p⟩:=q0;exact jh ra rb p λ i j ex ey p=>jg p λ c p=>OP pins s σ H _ _ v u Q I rx ry ⟨i,j,ex,ey,c,p.here hr (.int _)⟩
 | Mod =>
  intro pins s σ H x y v u Q I rx ry q0;obtain ⟨μ,h,a,b,Z,hr,ra,rb,p⟩:=q0;exact jh ra rb p λ i j ex ey p=>jg p λ c p=>z5f pins s σ H _ _ v u Q I rx ry ⟨i,j,ex,ey,c,p.here hr (.int _)⟩
 | Pow =>
  intro pins s σ H x y v u Q I rx ry q0;obtain ⟨μ,h,a,b,Z,hr,ra,rb,p⟩:=q0;exact jh ra rb p λ i j ex ey p=>jg p λ c p=>z5g pins s σ H _ _ v u Q I rx ry ⟨i,j,ex,ey,c,p.here hr (.int _)⟩
 | LShift =>
  intro pins s σ H x y v u Q I rx ry q0;obtain ⟨μ,h,a,b,Z,hr,ra,rb,p⟩:=q0;exact jh ra rb p λ i j ex ey p=>jg p λ c p=>z2a pins s σ H _ _ v u Q I rx ry ⟨i,j,ex,ey,⟨of_decide_eq_true c.1,c.2⟩,p.here hr (.int _)⟩
 | RShift =>
  intro pins s σ H x y v u Q I rx ry q0;obtain ⟨μ,h,a,b,Z,hr,ra,rb,p⟩:=q0;exact jh ra rb p λ i j ex ey p=>jg p λ c p=>z5h pins s σ H _ _ v u Q I rx ry ⟨i,j,ex,ey,c,p.here hr (.int _)⟩
 | BitAnd =>
  intro pins s σ H x y v u Q I rx ry q0;obtain ⟨μ,h,a,b,Z,hr,ra,rb,p⟩:=q0;exact jh ra rb p λ i j ex ey p=>z5i pins s σ H _ _ v u Q I rx ry ⟨i,j,ex,ey,p.here hr (.int _)⟩
 | BitOr =>
  intro pins s σ H x y v u Q I rx ry q0;obtain ⟨μ,h,a,b,Z,hr,ra,rb,p⟩:=q0;exact jh ra rb p λ i j ex ey p=>z85 pins s σ H _ _ v u Q I rx ry ⟨i,j,ex,ey,p.here hr (.int _)⟩
 | _ =>
  intro pins s σ H x y v u Q I rx ry q0;obtain ⟨μ,h,a,b,Z,hr,ra,rb,p⟩:=q0;exact p.elim
theorem QG {K:Y00}{μ:XV}{H:Hp}{d:D}{v:V}(r:Rep K μ H d v)(f:Qy d=true):v=vOf d/\jI v=true:=by
 cases r with
 | non=>exact ⟨rfl,rfl⟩
 | bl b=>exact ⟨rfl,rfl⟩
 | int i=>exact ⟨rfl,rfl⟩
 | str x=>exact ⟨rfl,rfl⟩
 | _=>cases f
theorem JA {K:Y00}{μ:XV}{H:Hp}:∀ {ds:153}{vs:157},Reps K μ H ds vs->ds.all Qy=true->vs=ds.map vOf/\vs.all jI=true
 | _,_,.nil,_=>⟨rfl,rfl⟩
 | _,_,.cons r t,f=>by
  rw [Y3a,Y0h] at f;obtain ⟨rfl,f1⟩:=QG r f.1;obtain ⟨rfl,f2⟩:=JA t f.2;exact ⟨rfl,by rw [Y3a,f1,f2];rfl⟩
theorem zat (x:D)(ds:153):inV (vOf x) (ds.map vOf)=ds.any λ y=>eqV (vOf y) (vOf x):=by unfold inV;rw [List.any_map];rfl
theorem Zq {K:Y00}{μ:XV}{H:Hp}:∀ {ds:153}{vs:157},Reps K μ H ds vs->ds.all z47=true->(∀ v∈vs,jI v=true\/∃ a ts,v=.ref a/\SqT K H a ts)/\ds.any isN=vs.any Zd
 | _,_,.nil,_=>⟨λ v hv=>(nomatch hv),rfl⟩
 | d::ds,v::vs,.cons r t,f=>by
  rw [Y3a,Y0h] at f;obtain ⟨f1,f2⟩:=Zq t f.2;have g:(jI v=true\/∃ a ts,v=.ref a/\SqT K H a ts)/\isN d=Zd v:=by
   have f0:=f.1;cases r with
   | tup h1 h2=>exact ⟨.inr ⟨_,_,rfl,h1⟩,rfl⟩
   | non=>exact ⟨.inl rfl,rfl⟩
   | bl b=>exact ⟨.inl rfl,rfl⟩
   | int i=>exact ⟨.inl rfl,rfl⟩
   | str x=>exact ⟨.inl rfl,rfl⟩
   | _=>exact absurd (show false=true from f0) Y0x
  exact ⟨λ w hw=>by rcases Y06.mp hw with rfl | hw;exact g.1;exact f1 w hw,by rw [Y0u,Y0u,g.2,f2]⟩
theorem Wp {neg:Bool}{pins:115}{s:130}{σ:St}{H:Hp}{v u:Value}{Q:VK}{μ:XV}{h:Hh}{a:D}{x:V}{Z':Value->Hp->Prop}{ds:153}{vs:157}{p':Addr}(op:CmpOp)(hop:OpR X (compareOp op) (rIn X.K neg))(hopN:neg=false->OpR X (compareOp op) (z61 X.K))
  (I:110) (rx:RelV x v) (ry:RelV (.ref p') u) (hr:HR X.K μ h H) (ra:Rep X.K μ H a x) (sq:SqL X.K H p' vs\/SqT X.K H p' vs) (rs:Reps X.K μ H ds vs) (p:PostE X.K cv 142 μ H (OZ neg a ds h) Q Z') :
  wpAny 116 X.A (compareOp op v u) (EP X pins σ Q) X.xe s:=by
 unfold OZ at p;split at p
 ·rename_i c;obtain ⟨rfl,f1⟩:=QG ra c.1;obtain ⟨rfl,f2⟩:=JA rs c.2;refine hop pins s σ H _ _ v u Q I rx ry ⟨p',_,rfl,sq,f1,f2,?_⟩;rw [zat];exact p.here hr (.bl _)
 ·split at p
  ·rename_i c;cases ra<;>first | (exact absurd c.2.1 Y0x) | skip
   obtain ⟨f1,f2⟩:=Zq rs c.2.2;refine hopN c.1 pins s σ H _ _ v u Q I rx ry ⟨p',_,rfl,rfl,sq,f1,?_⟩;rw [<- f2];exact p.here hr (.bl _)
  ·exact p.elim
theorem yh {K:Y00}{μ:XV}{H:Hp}{d:D}{v:V}{k:Key}(r:Rep K μ H d v)(e:jD d=some k):v=kV k:=by
 unfold jD at e;cases r<;>first | (cases e;rfl) | cases e
theorem JB {K:Y00}{μ:XV}{H:Hp}:∀ {ds:153}{vs:157}{ks:List Key},Reps K μ H ds vs->Qx ds=some ks->vs=ks.map kV
 | _,_,ks,.nil,e=>by cases e;rfl
 | _,_,ks,@Reps.cons _ _ _ d v ds vs h r,e=>by
  unfold Qx at e;cases e1:jD d with
  | none=>rw [e1] at e;cases e
  | some k =>
   cases e2:Qx ds with
   | none=>rw [e1,e2] at e;cases e
   | some l =>
    rw [e1,e2] at e;cases e;rw [yh h e1,JB r e2];rfl
theorem yi {K:Y00}{μ:XV}{H:Hp}{d:D}{v:V}{ks:List Key}(r:Rep K μ H d v)(e:yv d=some ks):∃ b,v=.ref b/\SqT K H b (ks.map kV):=by
 cases r with
 | tup h1 h2=>have:=JB h2 e;subst this;exact ⟨_,rfl,h1⟩
 | _=>cases e
theorem RepKs.none {κ:Type}[DecidableEq κ]{K:Y00}{μ:XV}{H:Hp}{k:κ}:∀ {ds:List (κ×D)}{vs:199},RepKs K μ H ds vs->(zI ds k).isSome=(jT vs k).isSome
 | _,_,.nil=>rfl
 | _,_,.cons (k:=k') (d:=d') (v:=v') h r=>by
  have ih:=RepKs.none (k:=k) r;by_cases hk:k'=k
  ·rw [wM (p:=(k',v')) hk];unfold zI;rw [Y22 (by simpa using hk)];rfl
  ·rw [wN (p:=(k',v')) hk,<- ih];unfold zI;rw [Y1c (by simpa using hk)]
theorem B5 (hu:X.A.units+1<cLine)(neg:Bool):OpR X (compareOp (if neg then .NotIn else .In)) (r2 X.K cv (inD neg)):=by
 intro pins s σ H x y v u Q I rx ry hh;obtain ⟨μ,h,a,b,Z',hr,ra,rb,p⟩:=hh;have hop:OpR X (compareOp (if neg then .NotIn else .In)) (rIn X.K neg):=by cases neg with | true=>exact W9 | false=>exact Gh
 have hopN:neg=false->OpR X (compareOp (if neg then .NotIn else .In)) (z61 X.K):=λ z=>by subst z;exact YQ hu
 unfold inD at p;cases rb with
 | tup h1 h2=>exact Wp _ hop hopN I rx ry hr ra (.inr h1) h2 p
 | fl h1 h2=>exact Wp _ hop hopN I rx ry hr ra (.inl h1.sq) h2 p
 | @loc nn b' m =>
  cases e1:h[nn]? with
  | none=>simp only [e1] at p;exact p.elim
  | some o =>
   have q:=hr.obj nn b' o m e1;cases o with
   | lst ds =>
    simp only [e1] at p;obtain ⟨vs,q1,q2⟩:=q;exact Wp _ hop hopN I rx ry hr ra (.inl (SqL.of q1)) q2 p
   | obj _ _=>simp only [e1] at p;exact p.elim
   | dK kvs =>
    simp only [e1] at p;obtain ⟨vs,q1,q2⟩:=q;cases e2:jD a with
    | none =>
     simp only [e2] at p;cases kvs with
     | cons _ _=>exact p.elim
     | nil =>
      cases q2;cases e3:yv a with
      | none=>simp only [e3] at p;exact p.elim
      | some k =>
       simp only [e3] at p;obtain ⟨c,rfl,hc⟩:=yi ra e3;cases rx;cases ry;have p':=p.here hr (.bl _);cases neg with
       | true=>exact V6 hu I (.inr ⟨q1,rfl⟩) hc λ s' I'=>⟨.bl _,H,I',rfl,p'⟩
       | false=>exact OQ hu I (.inr ⟨q1,rfl⟩) hc λ s' I'=>⟨.bl _,H,I',rfl,p'⟩
    | some k =>
     simp only [e2] at p;have ey:=yh ra e2;subst ey;cases ry;have p':=p.here hr (.bl _);rw [q2.none] at p';cases neg with
     | true=>exact V2 hu I (DGet.k q1) rx λ s' I'=>⟨.bl _,H,I',rfl,p'⟩
     | false=>exact z8f hu I (DGet.k q1) rx λ s' I'=>⟨.bl _,H,I',rfl,p'⟩
   | fK kvs =>
    simp only [e1] at p;obtain ⟨ob,vs,q1,q2⟩:=q;cases e2:jD a with
    | none=>simp only [e2] at p;exact p.elim
    | some k =>
     simp only [e2] at p;have ey:=yh ra e2;subst ey;cases ry;have p':=p.here hr (.bl _);rw [q2.none] at p';cases neg with
     | true=>exact V2 hu I (DGet.fk (.inr ⟨ob,q1⟩)) rx λ s' I'=>⟨.bl _,H,I',rfl,p'⟩
     | false=>exact z8f hu I (DGet.fk (.inr ⟨ob,q1⟩)) rx λ s' I'=>⟨.bl _,H,I',rfl,p'⟩
   | dT kvs =>
    simp only [e1] at p;obtain ⟨vs,q1,q2⟩:=q;cases e2:yv a with
    | none=>simp only [e2] at p;exact p.elim
    | some k =>
     simp only [e2] at p;obtain ⟨c,rfl,hc⟩:=yi ra e2;cases rx;cases ry;have p':=p.here hr (.bl _);rw [q2.none] at p';cases neg with
     | true=>exact V6 hu I (.inl q1) hc λ s' I'=>⟨.bl _,H,I',rfl,p'⟩
     | false=>exact OQ hu I (.inl q1) hc λ s' I'=>⟨.bl _,H,I',rfl,p'⟩
 | str z =>
  cases ra with
  | str w =>
   cases neg with
   | true=>exact Wa pins s σ H _ _ v u Q I rx ry ⟨w,z,rfl,rfl,p.here hr (.bl _)⟩
   | false=>exact Gd pins s σ H _ _ v u Q I rx ry ⟨w,z,rfl,rfl,p.here hr (.bl _)⟩
  | _=>exact p.elim
 | _=>exact p.elim
theorem RepKs.val {κ:Type}[DecidableEq κ]{K:Y00}{μ:XV}{H:Hp}{k:κ}{d:D}:∀ {ds:List (κ×D)}{vs:199},RepKs K μ H ds vs->zI ds k=some d->∃ v,jT vs k=some v/\Rep K μ H d v
 | _,_,.nil,e=>by unfold zI at e;simp at e
 | _,_,.cons (k:=k') (d:=d') (v:=v') h r,e=>by
  by_cases hk:k'=k
  ·rw [wM (p:=(k',v')) hk];unfold zI at e;rw [Y22 (by simpa using hk)] at e;cases e;exact ⟨_,rfl,h⟩
  ·rw [wN (p:=(k',v')) hk];unfold zI at e;rw [Y1c (by simpa using hk)] at e;exact RepKs.val r e
theorem GE {vs:152}{ws:List (Key×Value)}(r:KV vs ws)(k:Key):RelO (jT vs k) (valueAt ws k):=by
 unfold jT valueAt
 induction r with
 | nil=>exact trivial
 | @cons p q vs ws h _ ih =>
  obtain ⟨h1,h2⟩:=h;by_cases z:p.1=k
  ·rw [Y22 (by simpa using z),Y22 (by rw [<- h1];simpa using z)];exact h2
  ·rw [Y1c (by simpa using z),Y1c (by rw [<- h1];simpa using z)];exact ih
theorem B6 (I:110)(hr:HR X.K μ h H){n:Nat}{a:Addr}{ks:134}(m:μ[n]?=some a)(e:J5 h n=some ks):(a==sysModules)=false/\∃ vs ws,RepKs X.K μ H ks vs/\KV vs ws/\s.heap.DictOf (zt X.prog X.w) a ws:=by
 unfold J5 at e;cases e1:h[n]? with
 | none=>rw [e1] at e;cases e
 | some o =>
  have q:=hr.obj n a o m e1;rw [e1] at e;cases o with
  | dK kvs =>
   cases e;obtain ⟨vs,q1,q2⟩:=q;obtain ⟨_,y,ws,r,d⟩:=I.hok a _ q1;exact ⟨y,vs,ws,q2,r,d⟩
  | fK kvs =>
   cases e;obtain ⟨ob,vs,q1,q2⟩:=q;obtain ⟨_,_,y,ws,r,d⟩:=I.hok a _ q1;exact ⟨y,vs,ws,q2,r,d⟩
  | lst _=>cases e
  | dT _=>cases e
  | obj _ _=>cases e
theorem Ve (I:110)(hr:HR X.K μ h H)(hu:X.A.units+66<cLine){kb:134}{vb:152}{wb:List (Key×Value)}(rb:RepKs X.K μ H kb vb)(qb:KV vb wb):∀ {ka:134}{va:152}{wa:List (Key×Value)}{r:Bool},RepKs X.K μ H ka va->KV va wa->qH h kb ka=some r->PySem.W.KeqHits X.A.in1 s wb wa r
 | [],_,_,r,ra,qa,e=>by
  cases ra;cases qa;cases e;exact .nil
 | q::ka,_,_,r,ra,qa,e=>by
  cases ra with
  | @cons k d v _ vs h1 h2 =>
   cases qa with
   | @cons _ w _ ws g1 g2 =>
    obtain ⟨ek,ew⟩:=g1;obtain ⟨k',y⟩:=w;have ek:k=k':=ek;subst ek;rw [qH] at e;have fp:=GE qb k;cases e1:zI kb k with
    | none =>
     simp only [e1] at e;cases e
     have:=rb.none (k:=k)
     rw [e1] at this;have z:jT vb k=none:=by
      cases z:jT vb k with
      | none=>rfl
      | some x=>rw [z] at this;cases this
     rw [z] at fp;refine .miss ?_;cases z2:valueAt wb k with
     | none=>rfl
     | some x=>rw [z2] at fp;exact fp.elim
    | some u =>
     simp only [e1] at e;obtain ⟨x,e4,e5⟩:=rb.val e1;rw [e4] at fp;obtain ⟨yy,z2,fp'⟩:∃ yy,valueAt wb k=some yy/\RelV x yy:=by
      cases z2:valueAt wb k with
      | none=>rw [z2] at fp;exact fp.elim
      | some x'=>rw [z2] at fp;exact ⟨x',rfl,fp⟩
     cases g1:D.pe h d with
     | none=>simp only [g1] at e;cases e
     | some p =>
      cases g3:D.pe h u with
      | none=>simp only [g1,g3] at e;cases e
      | some t =>
       cases g4:qH h kb ka with
       | none=>simp only [g1,g3,g4] at e;cases e
       | some b =>
        simp only [g1,g3,g4] at e;split at e
        ·rename_i hs;rw [Y0h] at hs;cases e;obtain ⟨as,r1⟩:=qc I hr h1 ew g1;obtain ⟨bs,r2⟩:=qc I hr e5 fp' g3;exact .hit z2 (PySem.W.keq_at r1 r2 hs.1 hs.2 (by show X.A.units+1+64<_;omega)) (Ve I hr hu rb qb h2 g2 g4)
        ·cases e
theorem B7 (hu:X.A.units+66<cLine)(neg:Bool):OpR X (compareOp (if neg then .NotEq else .Eq)) (r2 X.K cv (YX neg)):=by
 intro pins s σ H x y v u Q I rx ry hh;obtain ⟨μ,h,a,b,Z,hr,ra,rb,p⟩:=hh;unfold YX at p;cases ra with
 | @loc n a' ma =>
  cases rb with
  | @loc m b' mb =>
   cases rx;cases ry;cases e1:J5 h n with
   | none=>simp only [e1] at p;exact p.elim
   | some ka =>
    cases e2:J5 h m with
    | none=>simp only [e1,e2] at p;exact p.elim
    | some kb =>
     simp only [e1,e2] at p;obtain ⟨y1,va,wa,q1,q2,q3⟩:=B6 I hr ma e1;obtain ⟨y2,vb,wb,g1,g2,g3⟩:=B6 I hr mb e2;have la:ka.length=wa.length:=q1.length.trans (jB q2);have lb:kb.length=wb.length:=g1.length.trans (jB g2);by_cases z:ka.length=kb.length
     ·rw [if_pos z] at p;cases e3:qH h kb ka with
      | none=>simp only [e3] at p;exact p.elim
      | some r =>
       simp only [e3] at p;have hk:=Ve I hr hu g1 g2 q1 q2 e3;have el:(wa.length==wb.length&&r)=r:=by rw [<- la,<- lb,z,beq_self_eq_true,Bool.true_and]
       cases neg with
       | true=>exact PySem.W.keq_ne y1 y2 q3 g3 109 (λ _=>hk) ⟨.bl _,H,I,rfl,by rw [el];exact p.here hr (.bl _)⟩
       | false=>exact PySem.W.keq_eq y1 y2 q3 g3 109 (λ _=>hk) ⟨.bl _,H,I,rfl,by rw [el];exact p.here hr (.bl _)⟩
     ·rw [if_neg z] at p;have el:(wa.length==wb.length&&true)=false:=by rw [<- la,<- lb,beq_eq_false_iff_ne.mpr z];rfl
      have nk:wa.length=wb.length->PySem.W.KeqHits X.A.in1 s wb wa true:=λ w=>absurd (la.trans (w.trans lb.symm)) z;cases neg with
      | true=>exact PySem.W.keq_ne y1 y2 q3 g3 109 nk ⟨.bl _,H,I,rfl,by rw [el];exact p.here hr (.bl _)⟩
      | false=>exact PySem.W.keq_eq y1 y2 q3 g3 109 nk ⟨.bl _,H,I,rfl,by rw [el];exact p.here hr (.bl _)⟩
  | _=>exact p.elim
 | _=>exact p.elim
theorem B8 (hu:X.A.units+64<cLine)(op:CmpOp):OpR X (compareOp op) (r2 X.K cv (jx op)):=by
 intro pins s σ H x y v u Q I rx ry hh;obtain ⟨μ,h,a,b,Z,hr,ra,rb,p⟩:=hh;cases op with
 | Lt=>exact jh ra rb p λ i j ex ey p=>z86 pins s σ H _ _ v u Q I rx ry ⟨i,j,ex,ey,p.here hr (.bl _)⟩
 | LtE=>exact jh ra rb p λ i j ex ey p=>z87 pins s σ H _ _ v u Q I rx ry ⟨i,j,ex,ey,p.here hr (.bl _)⟩
 | Gt=>exact jh ra rb p λ i j ex ey p=>z88 pins s σ H _ _ v u Q I rx ry ⟨i,j,ex,ey,p.here hr (.bl _)⟩
 | GtE=>exact jh ra rb p λ i j ex ey p=>z89 pins s σ H _ _ v u Q I rx ry ⟨i,j,ex,ey,p.here hr (.bl _)⟩
 | Eq =>
  refine QF p λ pu pv e1 e2 c1 c2 c3 p=>?_;obtain ⟨as,q1⟩:=qe I hr ra rx e1;obtain ⟨bs,q2⟩:=qe I hr rb ry e2;exact SeqAt.compareEq_reads q1 q2 c1 c2 (by have:=Nat.min_le_left pu.depth pv.depth;omega) ⟨.bl _,H,I,rfl,p.here hr (.bl _)⟩
 | NotEq =>
  refine QF p λ pu pv e1 e2 c1 c2 c3 p=>?_;obtain ⟨as,q1⟩:=qe I hr ra rx e1;obtain ⟨bs,q2⟩:=qe I hr rb ry e2;exact SeqAt.compareNe_reads q1 q2 c1 c2 (by have:=Nat.min_le_left pu.depth pv.depth;omega) ⟨.bl _,H,I,rfl,p.here hr (.bl _)⟩
 | In=>exact B5 (cv:=cv) 109 false pins s σ H _ _ v u Q I rx ry ⟨μ,h,_,_,Z,hr,ra,rb,p⟩
 | NotIn=>exact B5 (cv:=cv) 109 true pins s σ H _ _ v u Q I rx ry ⟨μ,h,_,_,Z,hr,ra,rb,p⟩
 | Is =>
  cases b with
  | non =>
   cases rb;cases ry;refine wpAny_is_plain (by cases ra<;>first | (cases rx;rfl) | (obtain ⟨t,rfl⟩:=rx;rfl)) (yY I (p.here hr (.bl _)) ?_);cases ra<;>first | (cases rx;rfl) | (obtain ⟨t,rfl⟩:=rx;rfl)
  | bl y =>
   cases a with
   | bl x =>
    cases ra;cases rb;cases rx;cases ry;exact wpAny_is_plain rfl (yY I (p.here hr (.bl _)) (by cases x<;>cases y<;>rfl))
   | _=>exact p.elim
  | _=>exact p.elim
 | IsNot =>
  cases b with
  | non =>
   cases rb;cases ry;refine wpAny_isNot_plain (by cases ra<;>first | (cases rx;rfl) | (obtain ⟨t,rfl⟩:=rx;rfl)) (yY I (p.here hr (.bl _)) ?_);cases ra<;>first | (cases rx;rfl) | (obtain ⟨t,rfl⟩:=rx;rfl)
  | bl y =>
   cases a with
   | bl x =>
    cases ra;cases rb;cases rx;cases ry;exact wpAny_isNot_plain rfl (yY I (p.here hr (.bl _)) (by cases x<;>cases y<;>rfl))
   | _=>exact p.elim
  | _=>exact p.elim
end
noncomputable def RB:List Addr->Hp->Bool->Bool->Prop:=λ _ _ b c=>b=c
noncomputable def spI (K:Y00)(cv:XZ)(np:Nat)(c:List D->Hh->Res D):Sp:=λ vs H Q E =>
 vs.length=np/\∃ μ h ds,HR K μ h H/\Reps K μ H ds vs/\PostE K cv (Rep K) μ H (c ds h) Q (λ C H'=>E C none H')
noncomputable def Wq:List Str:=["len","isinstance","int","bool","str","tuple","list","range","max","min","sum","all","any","zip","reversed","sorted","set","enumerate","dict","abs","ValueError"]
noncomputable def gOf (sc:Scope)(x:Str):Bool:=decide (sc.names.lookup x=some .globalImplicit)
noncomputable def Vf (scope osc:Scope):Scope :=
  { scope with names:=scope.names.map λ (n,k)=>if (k==.free&&osc.kind==.function&&osc.names.lookup n==some .cell) then (n,.cell) else (n,k) }
noncomputable def Tg.idx:Tg->List Nat
 | .one i _=>[i]
 | .tup is _=>is.map (·.1)
noncomputable def Tg.ok (sc:Scope)(N:XQ)(t:Tg):Bool:=t.idx.all λ i=>decide (i<N.length)&&decide (sc.names.lookup (N.getD i "")=some .local\/sc.names.lookup (N.getD i "")=some .cell)
noncomputable def Tg.okS (N:XQ)(t:Tg):Bool:=t.idx.all λ i=>decide (i<N.length)
noncomputable def yw (x:Str):Bool:=!143&&!(x==("__classdict__":Str))
noncomputable def Tg.forI (t:Tg):I->Bool
 | _=>true
mutual
noncomputable def E.ok (sc:Scope)(n:Nm):E->Bool
 | .non _ | .bl _ _ | .int _ _ | .str _ _=>true
 | .var i _=>decide (i<n.N.length)
 | .bin _ a b _=>a.ok sc n&&b.ok sc n
 | .un op a _=>a.ok sc n&&(match op with | .Not=>a.okT | _=>true)
 | .cmp op a b _=>a.ok sc n&&b.ok sc n&&!behindInMarks op (b.py n)
 | .and a b r _=>a.ok sc n&&b.ok sc n&&r.ok sc n&&a.okT&&b.okT&&r.okT
 | .or a b r _=>a.ok sc n&&b.ok sc n&&r.ok sc n&&a.okT&&b.okT&&r.okT
 | .ite c a b _=>c.ok sc n&&a.ok sc n&&b.ok sc n&&c.okT
 | .callD f a r _ _=>decide (f<n.F.length)&&!(n.G.any λ q=>decide (q.2=Cn.cls f))&&gOf sc (n.F.getD f "")&&a.ok sc n&&r.ok sc n&&decide ((n.F.getD f "",Cn.dfl)∈n.G)
 | .call f a r _ _=>decide (f<n.F.length)&&!(n.G.any λ q=>decide (q.2=Cn.cls f))&&gOf sc (n.F.getD f "")&&a.ok sc n&&r.ok sc n
 | .len a _ _=>gOf sc "len"&&a.ok sc n
 | .isi T a _ _ _=>gOf sc "isinstance"&&gOf sc (qx T)&&decide (T<6)&&a.ok sc n
 | .sub a i _=>a.ok sc n&&i.ok sc n
 | .tup es _=>es.ok sc n
 | .ofL l=>l.ok sc n
 | .tupL l _ _=>gOf sc "tuple"&&l.ok sc n
 | .tupE e _ _=>gOf sc "tuple"&&e.ok sc n
 | .listE e _ _=>gOf sc "list"&&e.ok sc n
 | .dicP e _ _=>gOf sc "dict"&&e.ok sc n
 | .cut a lo hi _ _=>a.ok sc n&&lo.ok sc n&&hi.ok sc n
 | .cutS a lo hi st _ _=>a.ok sc n&&lo.ok sc n&&hi.ok sc n&&st.ok sc n
 | .dic _=>true
 | .m0 _ o p1 p=>o.ok sc n&&decide (p1.endLine=p.line)
 | .m1 _ o a p1 p=>o.ok sc n&&a.ok sc n&&decide (p1.endLine=p.line)
 | .c1 f a _ _=>gOf sc f.name&&a.ok sc n
 | .cmpN _ a _ _=>a.ok sc n
 | .neK neg a b _=>a.ok sc n&&b.ok sc n&&!(behindInMarks (if neg then .NotEq else .Eq) (b.py n))
 | .sset e _ _ _ _=>gOf sc "sorted"&&gOf sc "set"&&e.ok sc n
 | .gsub x kvs i _ _=>gOf sc x&&decide ((x,Cn.dic kvs)∈n.G)&&i.ok sc n
 | .fld a f _=>a.ok sc n&&decide (f∈jm)
 | .mk i x a r _ _=>gOf sc x&&decide ((x,Cn.cls i)∈n.G)&&a.ok sc n&&r.ok sc n
noncomputable def Eo.ok (sc:Scope)(n:Nm):Eo->Bool
 | .none=>true
 | .some e=>e.ok sc n
noncomputable def L.ok (sc:Scope)(n:Nm):L->Bool
 | .disp es _=>es.ok sc n
 | .comp elt t it c NC cap csc _=>(it.ok sc n&&t.forI it)&&jj sc csc n.N NC cap&&decide NC.Nodup&&NC.all yw&&t.ok csc NC&&elt.ok (Vf csc sc) ⟨NC,n.F,n.G⟩&&c.ok (Vf csc sc) ⟨NC,n.F,n.G⟩&&c.okT&&c.short
noncomputable def I.ok (sc:Scope)(n:Nm):I->Bool
 | .seq e=>e.ok sc n
 | .lst l=>l.ok sc n
 | .rng a _ _=>gOf sc "range"&&a.ok sc n
 | .keys e=>e.ok sc n
noncomputable def Es.ok (sc:Scope)(n:Nm):Es->Bool
 | .nil=>true
 | .cons e r=>e.ok sc n&&r.ok sc n
noncomputable def E.okT:E->Bool
 | .non _ | .bl _ _ | .int _ _ | .str _ _=>false
 | .ite _ _ _ _=>false
 | .ofL _=>false
 | .dic _=>false
 | .un op a _=>match op with | .Not=>a.okT | _=>true
 | _=>true
noncomputable def Es.okT:Es->Bool
 | .nil=>true
 | .cons e r=>e.okT&&r.okT
noncomputable def Es.short:Es->Bool
 | .nil=>true
 | .cons _ .nil=>true
 | .cons _ (.cons _ _)=>false
end
noncomputable def TupK (K:Y00)(a:Addr)(xs:XQ):Prop:=∃ (o:Obj) (its:Array Value) (n:Nat),K.lookup a=some o/\o.cls=.type "tuple"/\o.data=.seq its n/\its.size<=sizeLine/\Vals (xs.map V.str) its.toList
noncomputable def CvOk (K:Y00)(v:Value):Cv->Prop
 | .tup xs=>∃ a,v=.ref a/\TupK K a xs
 | .int i=>∃ t,v=.int i t
 | .fn _ x=>∃ f,v=.ref f/\PySem.W.nsIn K mainGlobals x=some (some (.ref f))
 | .oth=>∃ f,v=.ref f
noncomputable def DicV (K:Y00):List (Str×Cv)->List (Key×Value)->Prop
 | [],[]=>True
 | kx::r,qv::s=>qv.1=.inr kx.1/\CvOk K qv.2 kx.2/\DicV K r s
 | _,_=>False
structure IsK (K:Y00)(C:Addr):Prop where
 ha:PySem.W.findIn K (.ref C) "__class__"=some (some (.builtin "object.__class__"))
 hn:PySem.W.specialIn K (.builtin "object.__class__") "__get__"=some (some (.builtin "getset_descriptor.__get__"))
 ht:PySem.W.takesIn K (.builtin "object.__class__")=some true
 hm:PySem.W.mroIn K C (.type "object")=some true
noncomputable def z2f (P:156)(w:World)(K:Y00)(v:Value):Cn->Prop
 | .int i=>∃ t,v=.int i t
 | .str x=>∃ t,v=.str x t
 | .tup xs=>∃ a,v=.ref a/\TupK K a xs
 | .cls _=>∃ a,v=.ref a
 | .dfl=>∃ a,v=.ref a
 | .isc x ys=>∃ D,v=.ref D/\∀ y∈ys,∃ C,PySem.W.nsIn K mainGlobals y=some (some (.ref C))/\IsK K C/\PySem.W.kitOne K (.ref C) (.ref D)=some (decide (y=x))
 | .exc _ _=>∃ a bmB newId initId B,v=.ref a/\PySem.W.excIn K a bmB newId=true/\ExcBaseFacts B newId initId bmB/\bmB.contains (.type "BaseException")=true
 | .dic kvs=>∃ a o es ep vs,v=.ref a/\K.lookup a=some o/\o.ExactDict/\o.data=.dict es ep/\KeysOf (zt P w) es/\Pairs (zt P w) es.toList vs/\(vs.map (·.1)).Nodup/\DicV K kvs vs
structure TstK (K:Y00)(G:List (Str×Cn))(cv:XZ)(C:Addr)(u:List Nat):Prop where
 ec:ExC K C
 ve:PySem.W.kitOne K (.ref C) (.type "ValueError")=some true
 ot:∀ y d w,(y,Cn.exc d w)∈G->PySem.W.kitOne K (.ref C) (cv d)=some (u.contains d)
structure Kx (X:Cx)(Z:ZK)(k:Nat)(n:Nm)(cv:XZ)(cl:107):Prop where
 th:Thr X Z
 rm:Room (2*k+1) X.A
 nN:X.N=n.N
 nd:X.N.Nodup
 cm:X.calm=true
 kd:X.env.scope.kind=.function
 nm:∀ x∈n.N,Vis X.env.scope x/\yw x=true
 bm:∀ x,x∈Wq->X.mg x=none
 gc:∀ x c,(x,c)∈n.G->143=false/\∃ v,X.mg x=some v/\z2f X.prog X.w X.K v c
 fn:∀ i x,n.F[i]?=some x->(n.G.any λ q=>decide (q.2=Cn.cls i))=false->143=false/\∃ f fd ps,X.mg x=some (.ref f)/\PySem.W.nsIn X.K mainGlobals x=some (some (.ref f))/\PySem.W.keepIn X.K (.ref f)=true/\(Binds X.K fd ps []/\((x,Cn.dfl)∈n.G->Binds X.K fd ps [.none]))/\(∀ ds h,cl i ds h≠.no->ds.length=ps.length) /\
  FnOk X.prog X.w X.K X.mg X.base (CXs X.prog X.w) (2*k) f fd ps (spI X.K cv ps.length (cl i))
 mc:∀ x i,(x,Cn.cls i)∈n.G->143=false/\∃ C f fd ps,X.mg x=some (.ref C)/\Mk X.K C f/\ClsN X.K x C/\Binds X.K fd ps []/\(∀ ds h,cl i ds h≠.no->ds.length=ps.length) /\
  FnOk X.prog X.w X.K X.mg X.base (CXs X.prog X.w) (2*k) f fd ps (spI X.K cv ps.length (cl i))
 xc:∀ x c u,(x,Cn.exc c u)∈n.G->X.mg x=some (cv c)/\(∀ D∈u,∃ a d,cv c=.ref a/\cv D=.ref d/\z45 X.K a d)/\∃ a,cv c=.ref a/\TstK X.K n.G cv a u
theorem Kx.gl {X:Cx}{Z:ZK}{k:Nat}{n:Nm}{cv:XZ}{cl:107}(C:Kx X Z k n cv cl){x:Str}(h:gOf X.env.scope x=true):Gl X x:=show X.env.scope.names.lookup x=some .globalImplicit from of_decide_eq_true h
theorem B9 {x:Str}(h:yw x=true):143=false/\(x==("__classdict__":Str))=false:=by unfold yw at h;simpa using h
theorem jN {α:Type}(r:Res α):(r.bind λ a h=>.ok a h)=r:=by cases r<;>rfl
theorem zp {α β γ:Type}(r:Res α)(f:α->Hh->Res β)(q:β->Hh->Res γ):(r.bind f).bind q=r.bind λ a h=>(f a h).bind q:=by cases r<;>rfl
theorem PE.mono {X:Cx}{e:Expr}{t t':TE}(p:PE X e t)(h:∀ σ H Q,t' σ H Q->t σ H Q):PE X e t':=λ pins s σ H Q I q=>p pins s σ H Q I (h σ H Q q)
theorem PT.mono {X:Cx}{e:Expr}{t t':TT}(p:PT X e t)(h:∀ σ H Q,t' σ H Q->t σ H Q):PT X e t':=λ pins s σ H Q I q=>p pins s σ H Q I (h σ H Q q)
theorem PW.mono {X:Cx}{e:Expr}{t t':TT}(p:PW X e t)(h:∀ σ H Q,t' σ H Q->t σ H Q):PW X e t':=λ wh pins s σ H Q I q=>p wh pins s σ H Q I (h σ H Q q)
theorem PA.mono {X:Cx}{e:List Expr}{t t':TA}(p:PA X e t)(h:∀ σ H Q,t' σ H Q->t σ H Q):PA X e t':=λ ps pins s σ H Q I q=>p ps pins s σ H Q I (h σ H Q q)
noncomputable def toB (d:D)(h:Hh):Res Bool:=match d with | .bl b=>.ok b h | _=>.no
theorem wx (cl:107)(e:E)(ρ:En)(h:Hh):e.evT cl ρ h=(e.ev cl ρ h).bind toB:=rfl
section
variable {X:Cx}{Z:ZK}{k:Nat}{n:Nm}{cv:XZ}{cl:107}
theorem L.py_star (l:L)(r:List Expr)(env:Env):starEach (l.py n::r) env=(false,eval (l.py n) env)::starEach r env:=by cases l<;>rfl
theorem zc (e:E)(r:List Expr)(env:Env):starEach (e.py n::r) env=(false,eval (e.py n) env)::starEach r env:=by
 cases e with
 | ofL l=>exact L.py_star l r env
 | _=>rfl
theorem wy:∀ (r:Es) (pos:Pos) (env:Env),(backTo pos (starEach (r.py n) env)).any (·.1)=false
 | .nil,_,_=>rfl
 | .cons e r,pos,env=>by
  show (backTo pos (starEach (e.py n::r.py n) env)).any (·.1)=false;rw [zc];exact wy r pos env
theorem QH (e:E):UX (e.py n):=by
 intro o i;cases e with
 | ofL l=>cases l<;>rfl
 | _=>rfl
theorem YZ (e:E)(f:Str)(env:Env)(w:Sem Value):attributeBase (e.py n) f env w=w:=by
 cases e with
 | ofL l=>cases l<;>rfl
 | _=>rfl
theorem zF {e:Expr}{m:En->Hh->Res D}(p:PE X e (zB X.K cv 142 Z m))(he:∀ whole,isTrue e X.env whole=(do let v <- whole;standAt e.pos;holding [v] (truthy v))) :
  PT X e (zB X.K cv RB Z λ ρ h=>(m ρ h).bind toB):=by
 refine PT.mono (z51 p he) λ σ H Q=>za λ μ ρ h hr er q=>?_;refine z9 (m:=m) hr er q λ a h1 μ1 H1 x _ e1 r1 er1 qa p1=>?_;unfold toB at p1;cases qa with
 | bl b=>exact ⟨b,rfl,p1.here r1 rfl⟩
 | _=>exact p1.elim
noncomputable def Es.evAndT (cl:107):Es->En->Bool->Hh->Res Bool
 | .nil,_,c,h=>.ok c h
 | .cons e r,ρ,c,h=>if c then (e.evT cl ρ h).bind λ c' h2=>r.evAndT cl ρ c' h2 else .ok false h
noncomputable def Es.evOrT (cl:107):Es->En->Bool->Hh->Res Bool
 | .nil,_,c,h=>.ok c h
 | .cons e r,ρ,c,h=>if c then .ok true h else (e.evT cl ρ h).bind λ c' h2=>r.evOrT cl ρ c' h2
theorem Vg:∀ (r:Es) (ρ:En) (d:D) (h:Hh),(r.evAnd cl ρ d h).bind toB=(toB d h).bind λ c h1=>r.evAndT cl ρ c h1
 | .nil,ρ,d,h=>(jN (r:=toB d h)).symm
 | .cons e r,ρ,d,h=>by
  cases d with
  | bl b =>
   cases b with
   | false=>rfl
   | true =>
    show (((e.ev cl ρ h).bind λ y h2=>r.evAnd cl ρ y h2).bind toB)=((e.ev cl ρ h).bind toB).bind λ c' h2=>r.evAndT cl ρ c' h2;rw [zp,zp]
    congr 1
    funext y h2
    exact Vg r ρ y h2
  | _=>rfl
theorem Ba:∀ (r:Es) (ρ:En) (d:D) (h:Hh),(r.evOr cl ρ d h).bind toB=(toB d h).bind λ c h1=>r.evOrT cl ρ c h1
 | .nil,ρ,d,h=>(jN (r:=toB d h)).symm
 | .cons e r,ρ,d,h=>by
  cases d with
  | bl b =>
   cases b with
   | true=>rfl
   | false =>
    show (((e.ev cl ρ h).bind λ y h2=>r.evOr cl ρ y h2).bind toB)=((e.ev cl ρ h).bind toB).bind λ c' h2=>r.evOrT cl ρ c' h2;rw [zp,zp]
    congr 1
    funext y h2
    exact Ba r ρ y h2
  | _=>rfl
end
section
variable {X:Cx}{Z:ZK}{k:Nat}{n:Nm}{cv:XZ}{cl:107}
structure SE (X:Cx)(Z:ZK)(n:Nm)(cv:XZ)(cl:107)(e:E):Prop where
 pe:PE X (e.py n) (zB X.K cv 142 Z (e.ev cl))
 pt:e.okT=true->PT X (e.py n) (zB X.K cv RB Z (e.evT cl))
noncomputable def z2g (X:Cx)(Z:ZK)(n:Nm)(cv:XZ)(cl:107)(r:Es):Prop:=∀ (ks:List (Str×Pos)) (pos:Pos),ks.length=(r.py n).length ->
 ∃ trs,PPs X pos (ks.map λ q=>some (.Constant (.str q.1) 0 q.2)) (r.py n) trs/\∀ σ H (Q:List (V×V)->Hp->Prop),zB X.K cv (Reps X.K) Z (r.ev cl) σ H (λ us H'=>Q ((ks.map λ q=>V.str q.1).zip us) H')->YI trs σ H Q
structure SEs (X:Cx)(Z:ZK)(n:Nm)(cv:XZ)(cl:107)(r:Es):Prop where
 pa:PA X (r.py n) (zB X.K cv (Reps X.K) Z (r.ev cl))
 an:∀ (b:E) (p:Pos),SE X Z n cv cl b->PE X (.BoolOp .And (b.py n::r.py n) p) (zB X.K cv 142 Z λ ρ h=>(b.ev cl ρ h).bind λ y h2=>r.evAnd cl ρ y h2)
 anT:∀ (b:E) (p:Pos),SE X Z n cv cl b->b.okT=true->r.okT=true->PW X (.BoolOp .And (b.py n::r.py n) p) (zB X.K cv RB Z λ ρ h=>(b.evT cl ρ h).bind λ c h2=>r.evAndT cl ρ c h2)
 orr:∀ (b:E) (p:Pos),SE X Z n cv cl b->PE X (.BoolOp .Or (b.py n::r.py n) p) (zB X.K cv 142 Z λ ρ h=>(b.ev cl ρ h).bind λ y h2=>r.evOr cl ρ y h2)
 orT:∀ (b:E) (p:Pos),SE X Z n cv cl b->b.okT=true->r.okT=true->PW X (.BoolOp .Or (b.py n::r.py n) p) (zB X.K cv RB Z λ ρ h=>(b.evT cl ρ h).bind λ c h2=>r.evOrT cl ρ c h2)
 ps:z2g X Z n cv cl r
theorem Ws {v:V}{d:D}{Q:VK}{σ:St}{H:Hp}(hv:∀ K μ H,Rep K μ H d v)(p:zB X.K cv 142 Z (λ _ h=>.ok d h) σ H Q):tC v σ H Q:=by
 obtain ⟨μ,ρ,h,hr,er,q⟩:=p;exact q.here hr (hv _ _ _)
theorem Vh {f:D->D->Hh->Res D}{a b:E}{σ:St}{H:Hp}{Q:VK}(p:zB X.K cv 142 Z (λ ρ h=>(a.ev cl ρ h).bind λ x h1=>(b.ev cl ρ h1).bind λ y h2=>f x y h2) σ H Q) :
  tOp (r2 X.K cv f) (zB X.K cv 142 Z (a.ev cl)) (zB X.K cv 142 Z (b.ev cl)) σ H Q:=by
 obtain ⟨μ,ρ,h,hr,er,q⟩:=p;refine z9 (m:=a.ev cl) hr er q λ da h1 μ1 H1 x _ e1 r1 er1 qa p1=>?_;refine z9 (m:=b.ev cl) r1 er1 p1 λ db h2 μ2 H2 y _ e2 r2 er2 qb p2=>?_;exact ⟨μ2,h2,da,db,_,r2,qa.mono e2,qb,p2⟩
theorem z48 {f:D->Hh->Res D}{a:E}{σ:St}{H:Hp}{Q:VK}(p:zB X.K cv 142 Z (λ ρ h=>(a.ev cl ρ h).bind λ x h1=>f x h1) σ H Q) :
  tUn (r1 X.K cv f) (zB X.K cv 142 Z (a.ev cl)) σ H Q:=by
 obtain ⟨μ,ρ,h,hr,er,q⟩:=p;refine z9 (m:=a.ev cl) hr er q λ da h1 μ1 H1 x _ e1 r1 er1 qa p1=>?_;exact ⟨μ1,h1,da,_,r1,qa,p1⟩
theorem z49 (op:UnaryOp)(h:op=.Invert\/op=.USub):UnR X (unaryOp op) (r1 X.K cv (unD op)):=by
 intro pins s σ H x v Q I rx hh;obtain ⟨μ,h',a,Z',hr,ra,p⟩:=hh;rcases h with rfl | rfl
 ·unfold unD at p;cases ra with
  | int i=>exact z5k pins s σ H _ v Q I rx ⟨i,rfl,p.here hr (.int _)⟩
  | _=>exact p.elim
 ·unfold unD at p;cases ra with
  | int i=>exact z5j pins s σ H _ v Q I rx ⟨i,rfl,p.here hr (.int _)⟩
  | _=>exact p.elim
theorem Vi (hu:X.A.units+1<cLine):IxR X (λ x y H Q=>∃ a v,x=.ref a/\DGet H a y (some v)/\Q v H):=by
 intro value slice pins s σ H x y v u Q I rx ry h hs;obtain ⟨a,w,rfl,g,q⟩:=h;cases rx;have ty:s.TypeIs 155 "dict":=by
  rcases g with ⟨kvs,k,e,ey,l⟩ | ⟨kvs,k,b,e,ey,eb,l⟩
  ·obtain ⟨_,_,vs,_,o,es,ep,e1,ex,_⟩:=e.ok I.hok;exact ⟨o,e1,ex.1⟩
  ·obtain ⟨_,_,xs,_,o,es,ep,e1,ex,_⟩:=e.ok I.hok;exact ⟨o,e1,ex.1⟩
 exact tail_any ty slot_dict_getitem.lookup (Gk hu I g ry λ w' s' I' r'=>⟨w,H,I',r',q⟩) hs
theorem z8s (hu:X.A.units+1<cLine):IxR X (λ x y H Q=>∃ a b kvs k v,x=.ref a/\y=.ref b/\H a=some (.dT kvs)/\SqT X.K H b (k.map kV)/\jT kvs k=some v/\Q v H):=by
 intro value slice pins s σ H x y v u Q I rx ry h hs;obtain ⟨a,b,kvs,k,w,rfl,rfl,g,hb,hv,q⟩:=h;cases rx;cases ry;have ty:s.TypeIs 155 "dict":=by
  obtain ⟨_,_,xs,_,o,es,ep,e1,ex,_⟩:=(show ObjOk X.prog X.w H s.heap a (.dT kvs) from I.hok a _ g);exact ⟨o,e1,ex.1⟩
 exact tail_any ty slot_dict_getitem.lookup (Gy hu I (.inl g) hb hv λ w' s' I' r'=>⟨w,H,I',r',q⟩) hs
theorem qK {K:Y00}{μ:XV}{H:Hp}{d:D}{v:V}{k:Key}(r:Rep K μ H d v)(e:jD d=some k):v=kV k:=by
 unfold jD at e;cases r<;>first | (cases e;rfl) | cases e
theorem DicV.at {K:Y00}{k:Str}{c:Cv}:∀ {kvs:List (Str×Cv)}{vs:List (Key×Value)},DicV K kvs vs->kvs.lookup k=some c->∃ v,valueAt vs (Sum.inr k:Key)=some v/\CvOk K v c
 | [],[],_,e=>by cases e
 | [],_::_,h,_=>h.elim
 | _::_,[],h,_=>h.elim
 | (k',ys)::r,(q,v)::s,⟨h1,h2,h4⟩,e=>by
  rw [Y2d] at e;by_cases hk:k=k'
  ·subst hk;simp only [beq_self_eq_true] at e;cases e;refine ⟨v,?_,h2⟩;unfold valueAt;rw [Y22 (by simpa using h1)];rfl
  ·have hb:(k==k')=false:=by simpa using hk
   rw [hb] at e;obtain ⟨b,e1,e2⟩:=DicV.at h4 e;refine ⟨b,?_,e2⟩;unfold valueAt at e1 ⊢;rw [Y1c (by
    have h1':q=Sum.inr k':=h1;simp only [decide_eq_true_eq];intro z;rw [h1'] at z;exact hk (Sum.inr.inj z).symm)]
   exact e1
noncomputable def CvV (K:Y00)(u:V):Cv->Prop
 | .tup xs=>∃ a,u=.ref a/\TupK K a xs
 | .int i=>u=.int i
 | .fn _ x=>∃ f,u=.ref f/\PySem.W.nsIn K mainGlobals x=some (some (.ref f))
 | .oth=>∃ f,u=.ref f
theorem CvOk.v {K:Y00}{v:Value}{c:Cv}(h:CvOk K v c):∃ u,RelV u v/\CvV K u c:=by
 cases c with
 | tup xs=>obtain ⟨a,rfl,t⟩:=h;exact ⟨.ref a,rfl,a,rfl,t⟩
 | int i=>obtain ⟨t,rfl⟩:=h;exact ⟨.int i,⟨t,rfl⟩,rfl⟩
 | fn i x=>obtain ⟨f,rfl,t⟩:=h;exact ⟨.ref f,rfl,f,rfl,t⟩
 | oth=>obtain ⟨f,rfl⟩:=h;exact ⟨.ref f,rfl,f,rfl⟩
theorem z68 {kvs:List (Str×Cv)}:IxR X (λ x y H Q=>∃ a k c,x=.ref a/\y=.str k/\z2f X.prog X.w X.K 155 (.dic kvs)/\kvs.lookup k=some c/\∀ u,CvV X.K u c->Q u H):=by
 intro value slice pins s σ H x y v u Q I rx ry h hs;obtain ⟨a,k,xs,rfl,rfl,ok,l,q⟩:=h;cases rx;obtain ⟨a',o,es,ep,vs,ea,e1,ex,ed,ks,ps,nd,dv⟩:=ok;cases ea;obtain ⟨b,e2,tk⟩:=dv.at l;obtain ⟨bu,tr,tk⟩:=tk.v;have eh:=I.kIn a o e1;have dd:s.heap.DictOf (zt X.prog X.w) a vs:=⟨o,es,ep,eh,ex,ed,ks,ps,nd⟩;exact tail_any ⟨o,eh,ex.1⟩ slot_dict_getitem.lookup (wpAny_getItem_of (yu (k:=.inr k) ry) dd.mapOf e2 ⟨bu,H,I.tok _,tr,q bu tk⟩) hs
theorem TupK.rep {K:Y00}{μ:XV}{H:Hp}{a:Addr}{xs:XQ}(h:TupK K a xs):Rep K μ H (.tup (xs.map .str)) 155:=by
 have rs:∀ ys:List Str,Reps K μ H (ys.map D.str) (ys.map V.str):=λ ys=>by
  induction ys with
  | nil=>exact .nil
  | cons y r ih=>exact .cons (.str y) ih
 exact .tup (.inr h) (rs xs)
theorem CvV.rep {K:Y00}{μ:XV}{H:Hp}{u:V}{c:Cv}(h:CvV K u c)(nf:c.isFn=false):Rep K μ H c.d u:=by
 cases c with
 | tup xs=>obtain ⟨a,rfl,t⟩:=h;exact t.rep
 | int i=>cases h;exact .int i
 | fn i x=>cases nf
 | oth=>cases nf
theorem z2h (hu:X.A.units+1<cLine):IxR X (r2 X.K cv jC):=by
 intro value slice pins s σ H x y v u Q I rx ry hh hs;obtain ⟨μ,h,a,b,Z',hr,ra,rb,p⟩:=hh;cases ra with
 | tup h1 h2 =>
  cases rb with
  | int k =>
   rw [sub_tup] at p;split at p
   ·rename_i d e;obtain ⟨w,e1,e2⟩:=h2.atI e;exact z5q value slice pins s σ H _ _ v u Q I rx ry ⟨_,_,_,w,rfl,rfl,h1,e1,p.here hr e2⟩ hs
   ·exact p.elim
  | _=>exact p.elim
 | fl h1 h2 =>
  cases rb with
  | int k =>
   rw [sub_fl] at p;split at p
   ·rename_i d e;obtain ⟨w,e1,e2⟩:=h2.atI e;exact UY value slice pins s σ H _ _ v u Q I rx ry ⟨_,_,_,w,rfl,rfl,h1.sq,e1,p.here hr e2⟩ hs
   ·exact p.elim
  | _=>exact p.elim
 | str z =>
  cases rb with
  | int k =>
   rw [z27] at p;split at p
   ·rename_i c;split at p
    ·rename_i d e;exact z5r value slice pins s σ H _ _ v u Q I rx ry ⟨_,_,_,rfl,rfl,ww c,e,p.here hr (.str _)⟩ hs
    ·exact p.elim
   ·exact p.elim
  | _=>exact p.elim
 | @loc nn a m =>
  rw [Vc] at p;cases e1:h[nn]? with
  | none=>rw [e1] at p;exact p.elim
  | some o =>
   rw [e1] at p;have q:=hr.obj nn a o m e1;cases o with
   | lst xs =>
    obtain ⟨vs,q1,q2⟩:=q;cases rb with
    | int k =>
     cases e2:atI xs k with
     | none=>simp only [e2] at p;exact p.elim
     | some d =>
      simp only [e2] at p;obtain ⟨w,e3,e4⟩:=q2.atI e2;exact UY value slice pins s σ H _ _ v u Q I rx ry ⟨_,_,_,w,rfl,rfl,SqL.of q1,e3,p.here hr e4⟩ hs
    | _=>exact p.elim
   | obj _ _=>exact p.elim
   | dK kvs =>
    obtain ⟨vs,q1,q2⟩:=q;cases e2:jD b with
    | none=>simp only [e2,Y3d] at p;exact p.elim
    | some k =>
     simp only [e2,Y2u] at p;cases e3:zI kvs k with
     | none=>simp only [e3] at p;exact p.elim
     | some d =>
      simp only [e3] at p;obtain ⟨w,e4,e5⟩:=q2.val e3;have ey:=qK rb e2;subst ey;exact Vi hu value slice pins s σ H _ _ v u Q I rx ry ⟨_,w,rfl,e4▸DGet.k q1,p.here hr e5⟩ hs
   | fK kvs =>
    obtain ⟨ob,vs,q1,q2⟩:=q;cases e2:jD b with
    | none=>simp only [e2,Y3d] at p;exact p.elim
    | some k =>
     simp only [e2,Y2u] at p;cases e3:zI kvs k with
     | none=>simp only [e3] at p;exact p.elim
     | some d =>
      simp only [e3] at p;obtain ⟨w,e4,e5⟩:=q2.val e3;have ey:=qK rb e2;subst ey;exact Vi hu value slice pins s σ H _ _ v u Q I rx ry ⟨_,w,rfl,e4▸DGet.fk (.inr ⟨ob,q1⟩),p.here hr e5⟩ hs
   | dT kvs =>
    obtain ⟨vs,q1,q2⟩:=q;cases e2:yv b with
    | none=>simp only [e2,Y3d] at p;exact p.elim
    | some k =>
     simp only [e2,Y2u] at p;cases e3:zI kvs k with
     | none=>simp only [e3] at p;exact p.elim
     | some d =>
      simp only [e3] at p;obtain ⟨w,e4,e5⟩:=q2.val e3;obtain ⟨c,rfl,hc⟩:=yi rb e2;exact z8s hu value slice pins s σ H _ _ v u Q I rx ry ⟨_,_,_,_,w,rfl,rfl,q1,hc,e4,p.here hr e5⟩ hs
 | _=>exact p.elim
noncomputable def zau (K:Y00)(cv:XZ):List V->Hp->VK->Prop:=λ xs H Q=>∃ x,xs=[x]/\r1 K cv Qz x H Q
theorem GF:j1 X (.builtin "len") (zau X.K cv):=by
 intro pins s σ H xs us Q I r hh;obtain ⟨x,rfl,μ,h,a,Z',hr,ra,p⟩:=hh;refine Oq pins s σ H _ us Q I r ⟨x,?_⟩;cases ra with
 | tup h1 h2=>exact ⟨_,rfl,.inr ⟨_,h1,h2.length⟩,p.here hr (.int _)⟩
 | @loc nn b m =>
  rw [len_loc] at p;cases e1:rd h nn with
  | none=>rw [e1] at p;exact p.elim
  | some ys =>
   rw [e1] at p;obtain ⟨vs,hs1,rs⟩:=hr.rd e1 m;exact ⟨_,rfl,.inl ⟨_,hs1,rs.length⟩,p.here hr (.int _)⟩
 | fl h1 h2=>exact ⟨_,rfl,.inl ⟨_,h1.sq,h2.length⟩,p.here hr (.int _)⟩
 | str y =>
  rw [len_str] at p;split at p
  ·rename_i c;exact ⟨_,rfl,⟨ww c,rfl⟩,p.here hr (.int _)⟩
  ·exact p.elim
 | _=>exact p.elim
noncomputable def isD (T:Nat)(d:D)(h:Hh):Res D:=match isI h d T with | some b=>.ok (.bl b) h | none=>.no
theorem Wt {P:Nat->Prop}{T:Nat}(hT:T<6)(a:P 0)(b:P 1)(c:P 2)(d:P 3)(e:P 4)(f:P 5):P T:=by
 match T,hT with | 0,_=>exact a | 1,_=>exact b | 2,_=>exact c | 3,_=>exact d | 4,_=>exact e | 5,_=>exact f
theorem Bb (T:Nat)(hT:T<6):j1 X (.builtin "isinstance") (λ xs H Q=>∃ x,xs=[x,.ty (Va T)]/\r1 X.K cv (isD T) x H Q):=by
 intro pins s σ H xs us Q I r hh;obtain ⟨x,rfl,μ,h,a,Z',hr,ra,p⟩:=hh;obtain ⟨u,w',rfl,rx,rw'⟩:=z8a r;cases (show w'=Value.type (Va T) from rw');unfold isD at p;have key:∀ (b:Bool),Q (.bl b) H->∀ tk,EP X pins σ Q (.bool b) { s with toks:=tk }:=λ b q tk=>⟨.bl b,H,I.tok _,rfl,q⟩;cases ra with
 | non =>
  have p1:Q (.bl false) H:=p.here hr (.bl _);refine jM I rx .non (b:=false) ?_ (key _ p1);apply Wt hT<;>rfl
 | bl y =>
  have p1:Q (.bl (T==0||T==1)) H:=p.here hr (.bl _);refine jM I rx (.bl y) (b:=(T==0||T==1)) ?_ (key _ p1);apply Wt hT<;>rfl
 | int y =>
  have p1:Q (.bl (T==0)) H:=p.here hr (.bl _);refine jM I rx (.int y) (b:=(T==0)) ?_ (key _ p1);apply Wt hT<;>rfl
 | str y =>
  have p1:Q (.bl (T==2)) H:=p.here hr (.bl _);refine jM I rx (.str y) (b:=(T==2)) ?_ (key _ p1);apply Wt hT<;>rfl
 | tup h1 h2 =>
  have p1:Q (.bl (T==3)) H:=p.here hr (.bl _);cases rx;obtain ⟨its,rv,⟨o,g1,g2,_⟩,_⟩:=I.tuple h1;refine Y17 PySem.W.kitx_tuple I.kIn ⟨_,g1,g2⟩ (b:=(T==3)) ?_ (λ z=>nomatch z) (key _ p1);apply Wt hT<;>rfl
 | fl h1 h2 =>
  have p1:Q (.bl (T==4)) H:=p.here hr (.bl _);cases rx;obtain ⟨its,rv,⟨o,n',g1,g2,_⟩,_⟩:=I.list h1.sq;refine Y17 Y35 I.kIn ⟨_,g1,g2⟩ (b:=(T==4)) ?_ (λ z=>nomatch z) (key _ p1);apply Wt hT<;>rfl
 | @loc nn b m =>
  have ei:isI h (.loc nn) T=match rd h nn with
    | some _=>some (T==4)
    | none=>(match h[nn]? with
     | some (.dK _)=>some (T==5)
     | some (.dT _)=>some (T==5)
     | _=>none):=rfl
  rw [ei] at p;cases e1:rd h nn with
  | none =>
   rw [e1] at p;cases e2:h[nn]? with
   | none=>rw [e2] at p;exact p.elim
   | some o =>
    have q:=hr.obj nn b o m e2;rw [e2] at p;cases o with
    | lst _=>exact p.elim
    | fK _=>exact p.elim
    | obj _ _=>exact p.elim
    | dK kvs =>
     have p1:Q (.bl (T==5)) H:=p.here hr (.bl _);obtain ⟨vs,q1,_⟩:=q;refine jM I rx (.dK q1) (b:=(T==5)) ?_ (key _ p1);apply Wt hT<;>rfl
    | dT kvs =>
     have p1:Q (.bl (T==5)) H:=p.here hr (.bl _);obtain ⟨vs,q1,_⟩:=q;refine jM I rx (.dT q1) (b:=(T==5)) ?_ (key _ p1);apply Wt hT<;>rfl
  | some ys =>
   rw [e1] at p;have p1:Q (.bl (T==4)) H:=p.here hr (.bl _);obtain ⟨vs,hs1,rs⟩:=hr.rd e1 m;cases rx;obtain ⟨its,rv,⟨o,n',g1,g2,_⟩,_⟩:=I.list hs1;refine Y17 Y35 I.kIn ⟨_,g1,g2⟩ (b:=(T==4)) ?_ (λ z=>nomatch z) (key _ p1);apply Wt hT<;>rfl
end
section
variable {X:Cx}{Z:ZK}{k:Nat}{n:Nm}{cv:XZ}{cl:107}
noncomputable def rM0 (K:Y00)(cv:XZ)(m:M0):V->List V->Hp->VK->Prop:=λ x vs H Q=>vs=[]/\r1 K cv (m0D m) x H Q
noncomputable def rM1 (K:Y00)(cv:XZ)(m:M1):V->List V->Hp->VK->Prop:=λ x vs H Q=>∃ y,vs=[y]/\r2 K cv (m1D m) x y H Q
theorem jG {K:Y00}{μ:XV}{H:Hp}{h:Hh}(hr:HR K μ h H){n:Nat}{a:Addr}{xs:153}(m:μ[n]?=some a)(e:h[n]?=some 178):∃ vs,H a=some (.lst vs)/\Reps K μ H xs vs:=hr.obj n a _ m e
theorem Reps.reverse {K:Y00}{μ:XV}{H:Hp}:∀ {ds:153}{vs:157},Reps K μ H ds vs->Reps K μ H ds.reverse vs.reverse
 | _,_,.nil=>.nil
 | _,_,.cons h r=>by rw [Y37,Y37];exact r.reverse.append (.cons h .nil)
theorem Reps.dropLast {K:Y00}{μ:XV}{H:Hp}:∀ {ds:153}{vs:157},Reps K μ H ds vs->Reps K μ H ds.dropLast vs.dropLast
 | _,_,.nil=>.nil
 | _,_,.cons h .nil=>.nil
 | _,_,.cons h (.cons h' r)=>.cons h (Reps.dropLast (.cons h' r))
theorem Reps.set {K:Y00}{μ:XV}{H:Hp}{d:D}{v:V}(q:Rep K μ H d v):∀ {ds:153}{vs:157} (i:Nat),Reps K μ H ds vs->Reps K μ H (ds.set i d) (vs.set i v)
 | _,_,_,.nil=>.nil
 | _,_,0,.cons _ r=>.cons q r
 | _,_,i+1,.cons h r=>.cons h (Reps.set q i r)
theorem Reps.take {K:Y00}{μ:XV}{H:Hp}:∀ {ds:153}{vs:157} (i:Nat),Reps K μ H ds vs->Reps K μ H (ds.take i) (vs.take i)
 | _,_,0,_=>.nil
 | _,_,_+1,.nil=>.nil
 | _,_,i+1,.cons h r=>.cons h (Reps.take i r)
theorem Reps.drop {K:Y00}{μ:XV}{H:Hp}:∀ {ds:153}{vs:157} (i:Nat),Reps K μ H ds vs->Reps K μ H (ds.drop i) (vs.drop i)
 | _,_,0,r=>r
 | _,_,_+1,.nil=>.nil
 | _,_,i+1,.cons _ r=>Reps.drop i r
theorem Reps.cut {K:Y00}{μ:XV}{H:Hp}{ds:153}{vs:157}(r:Reps K μ H ds vs)(lo hi:Option Int):Reps K μ H (wF ds lo hi) (Qj vs lo hi):=by
 unfold wF Qj;rw [<- r.length];exact (r.drop _).take _
theorem z2i:MtR X "list.pop" (rM0 X.K cv .pop):=by
 intro pins s σ H x xs v us Q I rx rs hh;obtain ⟨rfl,μ,h,a,Z',hr,ra,p⟩:=hh;unfold m0D at p;cases ra with
 | @loc nn b m =>
  cases e1:h[nn]? with
  | none=>simp only [e1] at p;exact p.elim
  | some o =>
   cases o with
   | dK _=>simp only [e1] at p;exact p.elim
   | fK _=>simp only [e1] at p;exact p.elim
   | dT _=>simp only [e1] at p;exact p.elim
   | obj _ _=>simp only [e1] at p;exact p.elim
   | lst ds =>
    simp only [e1] at p;obtain ⟨vs,q1,q2⟩:=jG hr m e1;cases e2:ds.getLast? with
    | none=>simp only [e2] at p;exact p.elim
    | some d =>
     simp only [e2] at p;rw [List.getLast?_eq_getElem?] at e2;obtain ⟨w,e3,e4⟩:=q2.get e2;rw [q2.length] at e3;obtain ⟨hr',ex⟩:=hr.chg (u:=.lst vs.dropLast) (o':=.lst ds.dropLast) e1 m λ H' ex e=>⟨_,e,(q2.mono ex).dropLast⟩;exact z5s pins s σ H _ _ v us Q I rx rs ⟨b,vs,w,rfl,rfl,q1,e3,p μ _ w ex hr' (e4.mono ex)⟩
 | _=>exact p.elim
theorem QI:MtR X "list.reverse" (rM0 X.K cv .reverse):=by
 intro pins s σ H x xs v us Q I rx rs hh;obtain ⟨rfl,μ,h,a,Z',hr,ra,p⟩:=hh;unfold m0D at p;cases ra with
 | @loc nn b m =>
  cases e1:h[nn]? with
  | none=>simp only [e1] at p;exact p.elim
  | some o =>
   cases o with
   | dK _=>simp only [e1] at p;exact p.elim
   | fK _=>simp only [e1] at p;exact p.elim
   | dT _=>simp only [e1] at p;exact p.elim
   | obj _ _=>simp only [e1] at p;exact p.elim
   | lst ds =>
    simp only [e1] at p;obtain ⟨vs,q1,q2⟩:=jG hr m e1;obtain ⟨hr',ex⟩:=hr.chg (u:=.lst vs.reverse) (o':=.lst ds.reverse) e1 m λ H' ex e=>⟨_,e,(q2.mono ex).reverse⟩;exact YH pins s σ H _ _ v us Q I rx rs ⟨b,vs,rfl,rfl,q1,p μ _ .non ex hr' .non⟩
 | _=>exact p.elim
theorem U0:MtR X "list.append" (rM1 X.K cv .append):=by
 intro pins s σ H x xs v us Q I rx rs hh;obtain ⟨y,rfl,μ,h,a,d,Z',hr,ra,rb,p⟩:=hh;unfold m1D at p;cases ra with
 | @loc nn b m =>
  cases e1:h[nn]? with
  | none=>simp only [e1] at p;exact p.elim
  | some o =>
   cases o with
   | dK _=>simp only [e1] at p;exact p.elim
   | fK _=>simp only [e1] at p;exact p.elim
   | dT _=>simp only [e1] at p;exact p.elim
   | obj _ _=>simp only [e1] at p;exact p.elim
   | lst ds =>
    simp only [e1] at p;obtain ⟨vs,q1,q2⟩:=jG hr m e1;split at p
    ·rename_i c;obtain ⟨hr',ex⟩:=hr.chg (u:=.lst (vs++[y])) (o':=.lst (ds++[d])) e1 m λ H' ex e=>⟨_,e,(q2.mono ex).append (.cons (rb.mono ex) .nil)⟩;exact Gi pins s σ H _ _ v us Q I rx rs ⟨b,vs,y,rfl,rfl,q1,by rw [<- q2.length];exact Vd c,p μ _ .non ex hr' .non⟩
    ·exact p.elim
 | _=>exact p.elim
theorem U1 (l b:Addr)(xs ys:Array Value)(n m:Nat)(dd:166)(ss:171)(h0:¬(!xs.isEmpty&&Builtin.List.listTooLong (xs.size+ys.size))=true)(h1:xs.size<=sizeLine)(h2:xs.size+ys.size<=sizeLine+1) :
  Meets (Builtin.«list.extend» ⟨[.ref l,.ref b],[]⟩) (λ _ R s =>
   s.heap.get? l=some { cls:=.type "list",data:=.seq xs n } /\
   s.heap.get? b=some ⟨.type "tuple",dd,.seq ys m,ss⟩ /\
   R (.ok (.ret Value.none)) { s with heap:=s.heap.update l (Obj.mapSeq λ x=>x++ys),toks:=s.toks }) :=
 .of_wp λ prog w A R s h=>by
  obtain ⟨hp,g,d,tk,os⟩:=s;obtain ⟨hl,hb,h⟩:=h;have f1:=AutoSeq1.idx_int;have f2:=AutoSeq1.sub_list_tuple;have f3:=AutoSeq1.sub_tuple_list;have f4:=AutoSeq1.sub_tuple_tuple;have f5:=AutoSeq1.sub_list_list;have hz:(xs++ys).size<=sizeLine+1:=by rw [Array.size_append];exact h2
  wp_walk using (wpAny_updateSeq hl rfl (hz:=h1) (_hz':=hz)),AutoSeq1.wpAny_loadPart' hl,AutoSeq1.wpAny_loadPart' hb
  exact ⟨_,rfl,h⟩
noncomputable def z8t (K:Y00):V->List V->Hp->VK->Prop:=λ x vs H Q=>∃ l b xs zs,x=.ref l/\vs=[.ref b]/\H l=some 178/\SqT K H b zs/\xs.length+zs.length<=sizeLine/\Q .non (upd H l (.lst (xs++zs)))
theorem z2j {X:Cx}:MtM X "list.extend" (z8t X.K):=by
 intro pins s σ H x vs v us Q I rx rv h;obtain ⟨l,b,xs,zs,rfl,rfl,hH,hB,hz,q⟩:=h;cases rx;obtain ⟨u,rfl,ru⟩:=rv.one;cases ru;obtain ⟨z,its,n,r,hl,e⟩:=I.lstM hH;obtain ⟨its2,r2,⟨o,e2,oc,m,od⟩,z2⟩:=I.tuple hB;obtain ⟨oc',dd,od',ss⟩:=o;cases oc;cases od;have hl2:=r2.length;have hsz:its.toArray.size+its2.toArray.size<=sizeLine:=by simp only [Y0a];omega
 have hlong:¬ (!its.toArray.isEmpty&&Builtin.List.listTooLong (its.toArray.size+its2.toArray.size))=true:=by rw [Z3 hsz,Y3m];exact Y0x
 refine call_meets F.slot_list_extend ⟨_,e,rfl⟩ F.entry_list_extend (F.args_list_extend_2 _ _) (U1 l b its.toArray its2.toArray n m dd ss hlong (by simp only [Y0a];omega) 109) ⟨e,e2,?_⟩;refine ⟨.non,_,I.lset (its':=its++its2) hH e 111 (r.append r2) (by rw [Y0e];omega),rfl,q⟩
theorem U2:MtR X "list.extend" (rM1 X.K cv .extend):=by
 intro pins s σ H x xs v us Q I rx rs hh;obtain ⟨y,rfl,μ,h,a,d,Z',hr,ra,rb,p⟩:=hh;unfold m1D at p;cases ra with
 | @loc nn b m =>
  cases e1:h[nn]? with
  | none=>simp only [e1] at p;exact p.elim
  | some o =>
   cases o with
   | dK _=>simp only [e1] at p;exact p.elim
   | fK _=>simp only [e1] at p;exact p.elim
   | dT _=>simp only [e1] at p;exact p.elim
   | obj _ _=>simp only [e1] at p;exact p.elim
   | lst ds =>
    simp only [e1] at p;obtain ⟨vs,q1,q2⟩:=jG hr m e1;cases rb with
    | @loc nm b2 m2 =>
     cases e2:h[nm]? with
     | none=>simp only [e2] at p;exact p.elim
     | some o2 =>
      cases o2 with
      | dK _=>simp only [e2] at p;exact p.elim
      | fK _=>simp only [e2] at p;exact p.elim
      | dT _=>simp only [e2] at p;exact p.elim
      | obj _ _=>simp only [e2] at p;exact p.elim
      | lst ds2 =>
       simp only [e2] at p;obtain ⟨vs2,q3,q4⟩:=jG hr m2 e2;split at p
       ·rename_i c;obtain ⟨hr',ex⟩:=hr.chg (u:=.lst (vs++vs2)) (o':=.lst (ds++ds2)) e1 m λ H' ex e=>⟨_,e,(q2.mono ex).append (q4.mono ex)⟩;exact Gj pins s σ H _ _ v us Q I rx rs ⟨b,b2,vs,vs2,rfl,rfl,q1,q3,by rw [<- q2.length,<- q4.length];exact ww c,p μ _ .non ex hr' .non⟩
       ·exact p.elim
    | @tup ds2 vs2 b2 q3 q4 =>
     simp only at p;split at p
     ·rename_i c;obtain ⟨hr',ex⟩:=hr.chg (u:=.lst (vs++vs2)) (o':=.lst (ds++ds2)) e1 m λ H' ex e=>⟨_,e,(q2.mono ex).append (q4.mono ex)⟩;exact z2j pins s σ H _ _ v us Q I rx rs ⟨b,b2,vs,vs2,rfl,rfl,q1,q3,by rw [<- q2.length,<- q4.length];exact ww c,p μ _ .non ex hr' .non⟩
     ·exact p.elim
    | _=>exact p.elim
 | _=>exact p.elim
noncomputable def zav (K:Y00)(cv:XZ):V->Option Int->Option Int->Hp->VK->Prop:=λ x lo hi H Q=>∃ μ h a Z,HR K μ h H/\Rep K μ H a x/\PostE K cv (Rep K) μ H (yG a lo hi h) Q Z
theorem wz {K:Y00}{cv:XZ}{μ:XV}{H:Hp}{h:Hh}{ds:153}{vs:157}{Q:VK}{Z:Value->Hp->Prop}(hr:HR K μ h H)(r:Reps K μ H ds vs)(p:PostE K cv (Rep K) μ H (new (.lst ds) h) Q Z) :
  ∀ b,H b=none->Q (.ref b) (upd H b (.lst vs)):=λ b hb=>by
 refine p _ _ _ ((zq hb).add hb) (hr.alloc hb (hr.fresh hb) λ μ' g=>⟨_,zw,(r.mono (zq hb)).mono' g⟩) (.loc ?_);rw [<- hr.len,Y0m 169,Y1q];rfl
theorem z2k {xs:153}{lo hi:Option Int}{h:Hh}:yG (.tup xs) lo hi h=if HT.sIx xs.length 0 lo=0/\HT.sIx xs.length xs.length hi=xs.length then .ok (.tup xs) h else .ok (.tup (wF xs lo hi)) h:=rfl
theorem z2l {n:Nat}{lo hi:Option Int}{h:Hh}:yG 146 lo hi h=match rd h n with | some xs=>new (.lst (wF xs lo hi)) h | none=>.no:=rfl
theorem z2m:SlR X (zav X.K cv):=by
 intro pins s σ H x v vl vu lo hi sl Q I rx hs pl pu hh;obtain ⟨μ,h,a,Z',hr,ra,p⟩:=hh;cases ra with
 | tup h1 h2 =>
  rw [z2k] at p;split at p
  ·rename_i c;rw [h2.length] at c;exact z1v pins s σ H _ v vl vu lo hi sl Q I rx hs pl pu ⟨_,_,rfl,h1,c.1,c.2,p.here hr (.tup h1 h2)⟩
  ·rename_i c;rw [h2.length] at c;exact z5p pins s σ H _ v vl vu lo hi sl Q I rx hs pl pu ⟨_,_,rfl,h1,c,λ b hb=>p μ _ _ (zq hb) (hr.tup hb) (.tup (SqT.of zw) ((h2.cut lo hi).mono (zq hb)))⟩
 | fl h1 h2=>exact UZ pins s σ H _ v vl vu lo hi sl Q I rx hs pl pu ⟨_,_,rfl,h1.sq,wz hr (h2.cut lo hi) p⟩
 | str x =>
  simp only [yG] at p;split at p
  ·rename_i c;exact z60 pins s σ H _ v vl vu lo hi sl Q I rx hs pl pu ⟨x,rfl,Y0n c 108,p.here hr (.str _)⟩
  ·exact p.elim
 | @loc nn b m =>
  rw [z2l] at p;cases e1:rd h nn with
  | none=>simp only [e1] at p;exact p.elim
  | some xs =>
   simp only [e1] at p;obtain ⟨vs,hs1,rs⟩:=hr.rd e1 m;exact UZ pins s σ H _ v vl vu lo hi sl Q I rx hs pl pu ⟨_,_,rfl,hs1,wz hr (rs.cut lo hi) p⟩
 | _=>exact p.elim
theorem JC {K:Y00}{μ:XV}{H:Hp}{h:Hh}{d:D}{v:V}{xs:153}(hr:HR K μ h H)(r:Rep K μ H d v)(e:qo d h=some xs):∃ a vs,v=.ref a/\((SqL K H a vs/\(∀ ys,d≠.tup ys))\/(SqT K H a vs/\d=.tup xs))/\Reps K μ H xs vs:=by
 unfold qo at e;cases r with
 | tup h1 h2=>cases e;exact ⟨_,_,rfl,.inr ⟨h1,rfl⟩,h2⟩
 | fl h1 h2=>cases e;exact ⟨_,_,rfl,.inl ⟨h1.sq,λ _ z=>nomatch z⟩,h2⟩
 | @loc nn b m =>
  unfold PI.rd at e;cases e1:h[nn]? with
  | none=>simp only [e1] at e;cases e
  | some o =>
   cases o with
   | dK _=>simp only [e1] at e;cases e
   | fK _=>simp only [e1] at e;cases e
   | dT _=>simp only [e1] at e;cases e
   | obj _ _=>simp only [e1] at e;cases e
   | lst ds =>
    simp only [e1] at e;cases e;obtain ⟨vs,q1,q2⟩:=jG hr m e1;exact ⟨_,_,rfl,.inl ⟨SqL.of q1,λ _ z=>nomatch z⟩,q2⟩
 | _=>cases e
noncomputable def z4a (d:D)(h:Hh):Res D:=match qo d h with | some xs=>new (.lst xs) h | none=>.no
noncomputable def z8u (d:D)(h:Hh):Res D:=match qo d h with | some xs=>.ok (.tup xs) h | none=>.no
theorem U4:j1 X (.type "list") (λ xs H Q=>∃ x,xs=[x]/\r1 X.K cv z4a x H Q):=by
 intro pins s σ H xs us Q I r hh;obtain ⟨x,rfl,μ,h,a,Z',hr,ra,p⟩:=hh;unfold z4a at p;cases e:qo a h with
 | none=>rw [e] at p;exact p.elim
 | some ds =>
  rw [e] at p;obtain ⟨b,vs,rfl,q1,q2⟩:=JC hr ra e;exact Wb pins s σ H _ us Q I r ⟨b,vs,rfl,q1.elim (λ z=>.inl z.1) (λ z=>.inr z.1),wz hr q2 p⟩
theorem GG:j1 X (.type "tuple") (λ xs H Q=>∃ x,xs=[x]/\r1 X.K cv z8u x H Q):=by
 intro pins s σ H xs us Q I r hh;obtain ⟨x,rfl,μ,h,a,Z',hr,ra,p⟩:=hh;unfold z8u at p;cases e:qo a h with
 | none=>rw [e] at p;exact p.elim
 | some ds =>
  rw [e] at p;obtain ⟨b,vs,rfl,q1,q2⟩:=JC hr ra e;refine qk pins s σ H _ us Q I r ⟨b,vs,rfl,?_⟩;rcases q1 with ⟨q1,_⟩ | ⟨q1,rfl⟩
  ·exact .inl ⟨q1,λ l hl=>p μ _ _ (zq hl) (hr.tup hl) (.tup (SqT.of zw) (q2.mono (zq hl)))⟩
  ·exact .inr ⟨q1,p.here hr ra⟩
theorem Zr {K:Y00}{μ:XV}{H:Hp}:∀ {ds:153}{vs:157}{bs:List Bool},Reps K μ H ds vs->QA ds=some bs->vs=bs.map V.bl
 | _,_,_,.nil,e=>by cases e;rfl
 | _,_,_,.cons r t,e=>by
  cases r with
  | bl b =>
   unfold QA at e;obtain ⟨bs',e1,rfl⟩:=Y21.mp e;rw [Zr t e1];rfl
  | _=>cases e
theorem strs_reps {K:Y00}{μ:XV}{H:Hp}:∀ {ds:153}{vs:157}{bs:XQ},Reps K μ H ds vs->wu ds=some bs->vs=bs.map V.str
 | _,_,_,.nil,e=>by cases e;rfl
 | _,_,_,.cons r t,e=>by
  cases r with
  | str b =>
   unfold wu at e;obtain ⟨bs',e1,rfl⟩:=Y21.mp e;rw [strs_reps t e1];rfl
  | _=>cases e
theorem qf {K:Y00}{μ:XV}{H:Hp}{h:Hh}{n:Nat}{a:Addr}{ds:153}(hr:HR K μ h H)(m:μ[n]?=some a)(e:PI.rd h n=some ds):∃ vs,H a=some (.lst vs)/\Reps K μ H ds vs:=by
 unfold PI.rd at e;cases e1:h[n]? with
 | none=>simp only [e1] at e;cases e
 | some o =>
  cases o with
  | dK _=>simp only [e1] at e;cases e
  | fK _=>simp only [e1] at e;cases e
  | dT _=>simp only [e1] at e;cases e
  | obj _ _=>simp only [e1] at e;cases e
  | lst xs =>
   simp only [e1] at e;cases e;exact jG hr m e1
theorem GH:j1 X (.type "str") (λ xs H Q=>∃ x,xs=[x]/\r1 X.K cv (c1D .str) x H Q):=by
 intro pins s σ H xs us Q I r hh;obtain ⟨x,rfl,μ,h,a,Z',hr,ra,p⟩:=hh;unfold c1D at p;cases ra with
 | int i =>
  simp only at p;split at p
  ·rename_i c;exact W3 pins s σ H _ us Q I r ⟨i,rfl,c,p.here hr (.str _)⟩
  ·exact p.elim
 | str z =>
  obtain ⟨u,rfl,t,rfl⟩:=jV r;exact PySem.P.str_of_str ⟨.str z,H,I,125,p.here hr (.str _)⟩
 | _=>exact p.elim
theorem GI:j1 X (.type "int") (λ xs H Q=>∃ x,xs=[x]/\r1 X.K cv (c1D .int) x H Q):=by
 intro pins s σ H xs us Q I r hh;obtain ⟨x,rfl,μ,h,a,Z',hr,ra,p⟩:=hh;unfold c1D at p;cases ra with
 | int i=>exact Jj pins s σ H _ us Q I r (.inl ⟨i,rfl,p.here hr (.int _)⟩)
 | bl b=>exact Jj pins s σ H _ us Q I r (.inr ⟨b,rfl,p.here hr (.int _)⟩)
 | str z =>
  simp only at p;split at p
  ·rename_i n e;split at p
   ·rename_i c;exact Gq pins s σ H _ us Q I r ⟨z,n,rfl,e,c,p.here hr (.int _)⟩
   ·exact p.elim
  ·exact p.elim
 | _=>exact p.elim
theorem GJ:j1 X (.builtin "abs") (λ xs H Q=>∃ x,xs=[x]/\r1 X.K cv (c1D .abs) x H Q):=by
 intro pins s σ H xs us Q I r hh;obtain ⟨x,rfl,μ,h,a,Z',hr,ra,p⟩:=hh;unfold c1D at p;cases ra with
 | int i=>exact Oo pins s σ H _ us Q I r ⟨i,rfl,p.here hr (.int _)⟩
 | _=>exact p.elim
theorem GK (hc:X.calm=true):j1 X (.builtin "all") (λ xs H Q=>∃ x,xs=[x]/\r1 X.K cv (c1D .all) x H Q):=by
 intro pins s σ H xs us Q I r hh;obtain ⟨x,rfl,μ,h,a,Z',hr,ra,p⟩:=hh;unfold c1D at p;cases ra with
 | @loc nn b m =>
  simp only at p;split at p
  ·rename_i bs e;obtain ⟨ds,e1,e2⟩:=Y2k.mp e;obtain ⟨vs,q1,q2⟩:=qf hr m e1;have ev:=Zr q2 e2;subst ev;exact OK hc pins s σ H _ us Q I r ⟨b,bs,rfl,SqL.of q1,p.here hr (.bl _)⟩
  ·exact p.elim
 | _=>exact p.elim
theorem Bc (hc:X.calm=true):j1 X (.builtin "any") (λ xs H Q=>∃ (p:Addr) (bs:List Bool),xs=[.ref p]/\SqL X.K H p (bs.map V.bl)/\Q (.bl (bs.any id)) H):=by
 intro pins s σ H xs us Q I r h;obtain ⟨p,bs,rfl,hq,q⟩:=h;obtain ⟨u,rfl,ru⟩:=jV r;cases ru;obtain ⟨its,rv,pl,hz⟩:=I.list hq;have hb:=Zb rv;have hl:s.heap.IsList p its.toArray:=pl.isList;have hlt:p<s.heap.objs.size:=by obtain ⟨_,e,_⟩:=hl;exact Y0f e
 refine call_any_walk (wpAny_pyIter_list hl ?_);refine ⟨s.heap.objs.size,[s.heap.objs.size,p],[s.heap.objs.size],its.toArray.size,_,_,λ i=>(bs[i]?).getD false,rfl,Walks.list (A:=X.A.in1) (I.ok.hd hc) _ p (Y0i hlt) its.toArray,
  ⟨172,hl.push _⟩,λ i v s' Q' E' hP hQ=>?_,λ h' tk hk=>?_⟩
 ·obtain ⟨b,e,rfl⟩:=hb.get i v (by simpa using hP);simp only [e,Y3c] at hQ;exact wpAny_truthy_bool hQ
 ·have e:((List.range its.toArray.size).any λ i=>(bs[i]?).getD false)=bs.any id:=by
   rw [Y0a,hb.length];exact PyProof.Rows.LSm.range_any bs
  rw [e];exact ⟨.bl (bs.any id),H,I.kept (PyProof.Rows.LSm.kept_iter hk),rfl,q⟩
theorem GL (hc:X.calm=true):j1 X (.builtin "any") (λ xs H Q=>∃ x,xs=[x]/\r1 X.K cv (c1D .any) x H Q):=by
 intro pins s σ H xs us Q I r hh;obtain ⟨x,rfl,μ,h,a,Z',hr,ra,p⟩:=hh;unfold c1D at p;cases ra with
 | @loc nn b m =>
  simp only at p;split at p
  ·rename_i bs e;obtain ⟨ds,e1,e2⟩:=Y2k.mp e;obtain ⟨vs,q1,q2⟩:=qf hr m e1;have ev:=Zr q2 e2;subst ev;exact Bc hc pins s σ H _ us Q I r ⟨b,bs,rfl,SqL.of q1,p.here hr (.bl _)⟩
  ·exact p.elim
 | _=>exact p.elim
theorem JD {K:Y00}{μ:XV}{H:Hp}:∀ {ds:153}{vs:157}{is:195},Reps K μ H ds vs->wR ds=some is->vs=is.map V.int
 | _,_,_,.nil,e=>by cases e;rfl
 | _,_,_,.cons q r,e=>by
  cases q with
  | int i =>
   unfold wR at e;obtain ⟨b,e1,rfl⟩:=Y21.mp e;rw [JD r e1];rfl
  | _=>cases e
theorem GM (hc:X.calm=true):j1 X (.builtin "sum") (λ xs H Q=>∃ x,xs=[x]/\r1 X.K cv (c1D .sum) x H Q):=by
 intro pins s σ H xs us Q I r hh;obtain ⟨x,rfl,μ,h,a,Z',hr,ra,p⟩:=hh;unfold c1D at p;cases ra with
 | @loc nn b m =>
  simp only at p;split at p
  ·rename_i bs e;obtain ⟨ds,e1,e2⟩:=Y2k.mp e;obtain ⟨vs,q1,q2⟩:=qf hr m e1;have ev:=JD q2 e2;subst ev;exact Gv hc pins s σ H _ us Q I r ⟨b,bs,rfl,SqL.of q1,p.here hr (.int _)⟩
  ·exact p.elim
 | _=>exact p.elim
theorem QJ {K:Y00}{μ:XV}{H:Hp}(ys:XQ):Reps K μ H (ys.map D.str) (ys.map V.str):=by
 induction ys with
 | nil=>exact .nil
 | cons y r ih=>exact .cons (.str y) ih
noncomputable def zaw (K:Y00):z17:=λ o i v H Q=>∃ μ h a b c h',HR K μ h H/\Rep K μ H a o/\Rep K μ H b i/\Rep K μ H c v/\Zl a b c h=some h'/\∀ μ' H',Ext K μ H μ' H'->HR K μ' h' H'->Q H'
theorem RepKs.map {κ:Type}[DecidableEq κ]{K:Y00}{μ:XV}{H:Hp}{k:κ}{d:D}{v:V}(q:Rep K μ H d v):∀ {ds:List (κ×D)}{vs:199},RepKs K μ H ds vs ->
  RepKs K μ H (ds.map λ kv=>if kv.1=k then (kv.1,d) else kv) (vs.map λ kv=>if kv.1=k then (kv.1,v) else kv)
 | _,_,.nil=>.nil
 | _,_,.cons (k:=k') h r=>by
  rw [Y09,Y09];by_cases e:k'=k
  ·rw [if_pos e,if_pos e];exact .cons q (RepKs.map q r)
  ·rw [if_neg e,if_neg e];exact .cons h (RepKs.map q r)
theorem RepKs.any {κ:Type}[DecidableEq κ]{K:Y00}{μ:XV}{H:Hp}(k:κ):∀ {ds:List (κ×D)}{vs:199},RepKs K μ H ds vs->(ds.any λ kv=>decide (kv.1=k))=(vs.any λ kv=>decide (kv.1=k))
 | _,_,.nil=>rfl
 | _,_,.cons h r=>by rw [Y0u,Y0u,RepKs.any k r]
theorem RepKs.snoc {κ:Type}[DecidableEq κ]{K:Y00}{μ:XV}{H:Hp}{k:κ}{d:D}{v:V}(q:Rep K μ H d v):∀ {ds:List (κ×D)}{vs:199},RepKs K μ H ds vs->RepKs K μ H (ds++[(k,d)]) (vs++[(k,v)])
 | _,_,.nil=>.cons q .nil
 | _,_,.cons h r=>.cons h (RepKs.snoc q r)
theorem RepKs.put {κ:Type}[DecidableEq κ]{K:Y00}{μ:XV}{H:Hp}{k:κ}{d:D}{v:V}{ds:List (κ×D)}{vs:199}(r:RepKs K μ H ds vs)(q:Rep K μ H d v):RepKs K μ H (Zk ds k d) (wq vs k v):=by
 unfold Zk wq;rw [<- r.any k]
 split
 ·exact r.map q
 ·exact r.snoc q
theorem Bf (hu:X.A.units+1<cLine):z56 X (zaw X.K):=by
 intro pins s σ H o i v ov iv u Q I ro ri rv hh;obtain ⟨μ,h,a,b,c,h',hr,ra,rb,rc,e,q⟩:=hh;unfold Zl at e;cases ra with
 | @loc nn p m =>
  cases e1:h[nn]? with
  | none=>simp only [e1] at e;cases e
  | some ob =>
   cases ob with
   | lst xs =>
    simp only [e1] at e;obtain ⟨vs,q1,q2⟩:=jG hr m e1;cases rb with
    | int k =>
     cases e2:ixN xs.length k with
     | none=>simp only [e2,Option.map_none] at e;cases e
     | some j =>
      simp only [e2,Y3j] at e;cases e;obtain ⟨hr',ex⟩:=hr.chg (u:=.lst (vs.set j v)) (o':=.lst (xs.set j c)) e1 m λ H' ex e=>⟨_,e,(q2.mono ex).set (rc.mono ex) j⟩;exact Ov pins s σ H _ _ v ov iv u Q I ro ri rv ⟨p,vs,k,j,rfl,rfl,q1,by rw [<- q2.length];exact e2,q μ _ ex hr'⟩
    | _=>cases e
   | obj _ _=>simp only [e1] at e;cases e
   | dT _=>simp only [e1] at e;cases e
   | fK _=>simp only [e1] at e;cases e
   | dK kvs =>
    simp only [e1] at e;obtain ⟨vs,q1,q2⟩:=(hr.obj nn p _ m e1:RepO X.K μ H p 192);cases e2:jD b with
    | none=>simp only [e2,Y3d] at e;cases e
    | some k =>
     simp only [e2,Y2u] at e;split at e
     ·rename_i hl;cases e;have ey:=qK rb e2;subst ey;obtain ⟨hr',ex⟩:=hr.chg (u:=.dK (wq vs k v)) (o':=.dK (Zk kvs k c)) e1 m λ H' ex e=>⟨_,e,(q2.mono ex).put (rc.mono ex)⟩;cases ro;exact Gm hu I (DPut.k q1 (by rw [<- q2.length];exact Vd hl)) ri rv λ s' I'=>⟨_,I',q μ _ ex hr'⟩
     ·cases e
 | _=>cases e
end
theorem jn {α β γ δ:Type}{K:Y00}{cv:XZ}{R:List Addr->Hp->α->β->Prop}{R':List Addr->Hp->γ->δ->Prop}{μ0 μ:XV}{ρ:En}{h:Hh}{σ:St}{H0 H:Hp}{Z:ZK}{Zz:Value->Hp->Prop}{m:En->Hh->Res α}{f:α->Hh->Res γ}{Q:δ->Hp->Prop}{Q':β->Hp->Prop}
  (e0:Ext K μ0 H0 μ H) (hr:HR K μ h H) (er:ER K μ ρ σ H) (p:PostE K cv R' μ0 H0 ((m ρ h).bind f) Q Zz) (hz:∀ C H',Zz C H'->Z σ C H')
  (go:∀ a h1 μ1 H1 x,m ρ h=.ok a h1->Ext K μ H μ1 H1->HR K μ1 h1 H1->ER K μ1 ρ σ H1->R μ1 H1 a x->PostE K cv R' μ0 H0 (f a h1) Q Zz->Q' x H1) :
  zB K cv R Z m σ H Q':=by
 refine ⟨μ,ρ,h,hr,er,?_⟩;cases e:m ρ h with
 | ok a h1 =>
  rw [e,bind_ok] at p;exact λ μ1 H1 x e1 r1 q1=>go a h1 μ1 H1 x e e1 r1 (er.mono e1) q1 p
 | exc c h1 =>
  rw [e,bind_exc] at p;exact λ μ1 H1 e1 r1=>hz _ _ (p μ1 H1 (e0.trans e1) r1)
 | no=>rw [e,bind_no] at p;exact p
noncomputable def Src (K:Y00)(μ0:XV)(H0:Hp)(c:Ck)(ds:153)(J:It):Prop:=∀ μ h H,Ext K μ0 H0 μ H->HR K μ h H->stay c h ->
 (∀ i d,ds[i]?=some d->J.go i H/\∀ x H',J.yld i H x H'->Ext K μ H μ H'/\HR K μ h H'/\Rep K μ H' d x)/\J.stop ds.length H
noncomputable def RJ (K:Y00):List Addr->Hp->(Ck×List D)->It->Prop:=λ μ H q J=>Src K μ H q.1 q.2 J
noncomputable def RL (K:Y00)(H0:Hp):List Addr->Hp->List D->V->Prop:=λ μ H ds v=>∃ p vs,v=.ref p/\H p=some (.lst vs)/\Reps K μ H ds vs/\p∉μ/\H0 p=none
abbrev Bg (K:Y00)(cv:XZ)(Z:ZK)(m:En->Hh->Res (List D)):TE:=λ σ H Q=>zB K cv (RL K H) Z m σ H Q
section
variable {K:Y00}{μ:XV}{H:Hp}{h:Hh}{ds:153}{vs:157}{a:Addr}
theorem Zs {c:Ck}{J:It}(k:∀ μ1 h1 H1,Ext K μ H μ1 H1->HR K μ1 h1 H1->stay c h1->(∀ i d,ds[i]?=some d->J.go i H1/\∀ x H',J.yld i H1 x H'->H'=H1/\Rep K μ1 H1 d x)/\J.stop ds.length H1):Src K μ H c ds J:=λ μ1 h1 H1 ex hr st =>
 ⟨λ i d e=>⟨((k μ1 h1 H1 ex hr st).1 i d e).1,λ x H' y=>by obtain ⟨rfl,r⟩:=((k μ1 h1 H1 ex hr st).1 i d e).2 x H' y;exact ⟨Ext.refl,hr,r⟩⟩,(k μ1 h1 H1 ex hr st).2⟩
theorem U5 {c:Ck}(k:∀ μ1 h1 H1,Ext K μ H μ1 H1->HR K μ1 h1 H1->stay c h1->∃ vs,SqL K H1 a vs/\Reps K μ1 H1 ds vs):Src K μ H c ds (Itl K a):=Zs λ μ1 h1 H1 ex hr st=>by
 obtain ⟨vs,q1,q2⟩:=k μ1 h1 H1 ex hr st;refine ⟨λ i d e=>?_,⟨vs,q1,by rw [<- q2.length];exact Y0b _⟩⟩;obtain ⟨w,e1,e2⟩:=q2.get e;refine ⟨⟨vs,w,q1,e1⟩,λ x H' y=>⟨y.1,?_⟩⟩
 have:=y.2 vs q1
 rw [e1] at this;cases this;exact e2
theorem z2n {n:Nat}(m:μ[n]?=some a):Src K μ H [(n,ds)] ds (Itl K a):=U5 λ μ1 h1 H1 ex hr st=>by
 have e:rd h1 n=some ds:=st (n,ds) (Y0g.mpr rfl);have m1:=ex.loc n a m;unfold PI.rd at e;cases e1:h1[n]? with
 | none=>simp only [e1] at e;cases e
 | some o =>
  cases o with
  | dK _=>simp only [e1] at e;cases e
  | fK _=>simp only [e1] at e;cases e
  | dT _=>simp only [e1] at e;cases e
  | obj _ _=>simp only [e1] at e;cases e
  | lst xs =>
   simp only [e1] at e;cases e;obtain ⟨vs,q1,q2⟩:=jG hr m1 e1;exact ⟨vs,SqL.of q1,q2⟩
theorem z69 (f:Fz K H a vs)(r:Reps K μ H ds vs):Src K μ H [] ds (Itl K a):=U5 λ μ1 h1 H1 ex hr st=>⟨vs,(ex.fz _ _ f).sq,r.mono ex⟩
theorem z2o (e:H a=some (.lst vs))(n:a∉μ)(r:Reps K μ H ds vs):Src K μ H [] ds (Itl K a):=U5 λ μ1 h1 H1 ex hr st=>⟨vs,SqL.of (ex.oth _ _ e n),r.mono ex⟩
theorem z2p (f:SqT K H a vs)(r:Reps K μ H ds vs):Src K μ H [] ds (Itt K a):=Zs λ μ1 h1 H1 ex hr st=>by
 have q1:=ex.tup _ _ f;have q2:=r.mono ex;refine ⟨λ i d e=>?_,⟨vs,q1,by rw [<- q2.length];exact Y0b _⟩⟩;obtain ⟨w,e1,e2⟩:=q2.get e;refine ⟨⟨vs,w,q1,e1⟩,λ x H' y=>⟨y.1,?_⟩⟩
 have:=y.2 vs q1
 rw [e1] at this;cases this;exact e2
theorem z2q (z:Str):Src K μ H [] (z.cps.toList.map λ c=>.str ⟨#[c]⟩) (Its z):=Zs λ μ1 h1 H1 ex hr st=>by
 refine ⟨λ i d e=>?_,by show z.length<=_;rw [Y04];exact Y3u rfl⟩;rw [Y0l] at e;cases e1:z.cps.toList[i]? with
 | none=>rw [e1] at e;cases e
 | some c =>
  rw [e1] at e;cases e;refine ⟨?_,λ x H' y=>⟨y.1,?_⟩⟩
  ·have:=(Y01.mp e1).1
   exact (by simpa using this:i<z.cps.size)
  ·obtain ⟨c',e2,rfl⟩:=y.2;rw [e1] at e2;cases e2;exact .str _
theorem Vj (k:Key):Rep K μ H (dK1 k) (kV k):=by cases k with | inl i=>exact .int i | inr x=>exact .str x
theorem JE:∀ {ds:134}{vs:152},RepKs K μ H ds vs->∀ {i:Nat}{d:D},(ds.map λ p=>dK1 p.1)[i]?=some d->∃ k v,vs[i]?=some (k,v)/\d=dK1 k
 | _,_,.nil,i,d,e=>by simp at e
 | _,_,.cons h r,0,d,e=>by simp at e;exact ⟨_,_,rfl,e.symm⟩
 | _,_,.cons h r,i+1,d,e=>JE r (by simpa using e)
theorem QK {a:Addr}{o:Obj}{kvs:134}{vs:152}(e:H a=some (.frz o (.dK vs)))(r:RepKs K μ H kvs vs):Src K μ H [] (kvs.map λ p=>dK1 p.1) (Itk a o vs):=Zs λ μ1 h1 H1 ex hr st=>by
 have e1:=ex.fk _ _ _ e;refine ⟨λ i d ed=>?_,by rw [Y04,r.length],e1⟩;obtain ⟨k,v,ek,rfl⟩:=JE r ed;refine ⟨⟨(Y01.mp ek).1,e1⟩,λ x H' y=>⟨y.1,?_⟩⟩;obtain ⟨k',v',ek',rfl⟩:=y.2;rw [ek] at ek';cases ek';exact Vj k
theorem z2r (j:Nat):Src K μ H [] ((List.range j).map λ (k:Nat)=>.int (k:Nat)) (Itr 0 j):=Zs λ μ1 h1 H1 ex hr st=>by
 refine ⟨λ i d e=>?_,by show j<=_;rw [Y04,Y2q];exact Y0b _⟩;rw [Y0l] at e;cases e1:(List.range j)[i]? with
 | none=>rw [e1] at e;cases e
 | some c =>
  rw [e1] at e;cases e;obtain ⟨hi,e2⟩:=Y01.mp e1;rw [Y2q] at hi;rw [List.getElem_range] at e2;subst e2;refine ⟨hi,λ x H' y=>⟨y.1,?_⟩⟩;rw [y.2,Int.zero_add];exact .int _
end
section
variable {X:Cx}{Z:ZK}{k:Nat}{n:Nm}{cv:XZ}{cl:107}{tg:Expr}
theorem z6a {l:Expr}{tl:TE}(hl:PE X l tl):PI X tg l (λ σ H R=>tl σ H λ x H1=>(∃ a,x=.ref a/\(∃ xs,SqL X.K H1 a xs)/\R (Itl X.K a) H1)\/(∃ a,x=.ref a/\(∃ xs,SqT X.K H1 a xs)/\R (Itt X.K a) H1)\/∃ z,x=.str z/\R (Its z) H1):=by
 intro pins s σ H R I h;refine thn (hl pins s σ H _ I h) λ v s1 ⟨x,H1,I1,r1,q1⟩=>?_;rcases q1 with ⟨a,rfl,⟨xs,hq⟩,q⟩ | ⟨a,rfl,⟨xs,hq⟩,q⟩ | ⟨x,rfl,q⟩
 ·cases r1;obtain ⟨its,rv,p,hz⟩:=I1.list hq;refine wpAny_pyIter_list p.isList ?_;refine ⟨s1.heap.objs.size,[s1.heap.objs.size],_,_,H1,rfl,I1.kept (t':=s1.toks) λ b o e=>Y02 _ e,Jh a _,172,λ b hb=>?_,q⟩;have e:b=s1.heap.objs.size:=by simpa using hb
  subst e;exact I1.fpOk 169 (I1.hok.fresh 169)
 ·cases r1;obtain ⟨its,rv,p,hz⟩:=I1.tuple hq;refine wpAny_pyIter_tuple (show s1.heap.IsTuple a its.toArray from p) ?_;refine ⟨s1.heap.objs.size,[s1.heap.objs.size],_,_,H1,rfl,I1.kept (t':=s1.toks) λ b o e=>Y02 _ e,Yu a _,172,λ b hb=>?_,q⟩;have e:b=s1.heap.objs.size:=by simpa using hb
  subst e;exact I1.fpOk 169 (I1.hok.fresh 169)
 ·obtain ⟨t,rfl⟩:=r1;have fp:∀ b∈[s1.heap.objs.size],yA X pins H1 b:=λ b hb=>by
   have e:b=s1.heap.objs.size:=by simpa using hb
   subst e;exact I1.fpOk 169 (I1.hok.fresh 169)
  cases ha:x.cps.all (·<128) with
  | false =>
   refine wpAny_pyIter_wide ha ?_;exact ⟨s1.heap.objs.size,[s1.heap.objs.size],_,_,H1,rfl,I1.kept (t':=s1.toks) λ b o e=>Y02 _ e,Gp _ x t,172,fp,q⟩
  | true =>
   refine wpAny_pyIter_ascii ha ?_;exact ⟨s1.heap.objs.size,[s1.heap.objs.size],_,_,H1,rfl,I1.kept (t':=s1.toks) λ b o e=>Y02 _ e,YM _ x t,172,fp,q⟩
theorem PI.mono {iter:Expr}{t t':TI}(p:L2.PI X tg iter t)(h:∀ σ H R,t' σ H R->t σ H R):L2.PI X tg iter t':=λ pins s σ H R I q=>p pins s σ H R I (h σ H R q)
noncomputable def gB (K:Y00)(t:Tg):TG:=λ v σ H Q=>∃ μ ρ d ρ' h,HR K μ h H/\ER K μ ρ σ H/\Rep K μ H d v/\je t d ρ=some ρ' /\
 ∀ σ',ER K μ ρ' σ' H->σ'.length=σ.length->(∀ i,i∉t.idx->σ'[i]?=σ[i]?)->Q σ' H
theorem PG.mono {t t':TG}(p:PG X tg t)(h:∀ v σ H Q,t' v σ H Q->t v σ H Q):PG X tg t':=λ pins s σ H v u Q I r q=>p pins s σ H v u Q I r (h v σ H Q q)
noncomputable def gNs:List (Nat×Pos)->TGs
 | []=>z81
 | q::r=>z40 (UQ q.1) (gNs r)
theorem yj (hN:X.N.Nodup):∀ (is:List (Nat×Pos)),(∀ q∈is,q.1<X.N.length/\Loc X.env.scope (X.N.getD q.1 "")/\(X.fn (X.N.getD q.1 "")=true\/X.env.scope.names.lookup (X.N.getD q.1 "")=some .local)) ->
  PGs X (is.map λ q=>.Name (X.N.getD q.1 "") q.2) (gNs is)
 | [],_=>z18
 | q::r,h=>by
  have hq:=h q (Y05 ..);exact Oh (UR (i:=q.1) hN (by rw [Y0j,Y07 hq.1];rfl) hq.2.1 hq.2.2) (yj hN r λ z hz=>h z (Y03 _ hz))
theorem wc (N:XQ)(env:Env):∀ is:List (Nat×Pos),(assignEach (is.map λ q=>.Name (N.getD q.1 "") q.2) env).length=is.length/\(assignEach (is.map λ q=>.Name (N.getD q.1 "") q.2) env).findIdx? (·.1)=none
 | []=>⟨rfl,rfl⟩
 | q::r=>by
  have ih:=wc N env r;rw [Y09];refine ⟨?_,?_⟩
  ·show ((false,_)::assignEach (r.map λ q=>.Name (N.getD q.1 "") q.2) env).length=_;rw [Y08,ih.1,Y08]
  ·show ((false,_)::assignEach (r.map λ q=>.Name (N.getD q.1 "") q.2) env).findIdx? (·.1)=none;rw [List.findIdx?_cons,ih.2];rfl
theorem Wu {K:Y00}{μ:XV}{H:Hp}:∀ (is:List (Nat×Pos)) {ds:153}{vs:157}{ρ:En}{σ:St}{Q:St->Hp->Prop},Reps K μ H ds vs->ds.length=is.length->ER K μ ρ σ H ->
  (∀ σ',ER K μ ((is.zip ds).foldl (λ ρ q=>ρ.set q.1.1 (some q.2)) ρ) σ' H->σ'.length=σ.length->(∀ i,i∉is.map (·.1)->σ'[i]?=σ[i]?)->Q σ' H)->gNs is vs σ H Q
 | [],_,_,ρ,σ,Q,r,hl,er,q=>by
  cases r with
  | nil=>exact ⟨rfl,q σ er rfl λ _ _=>rfl⟩
  | cons _ _=>cases hl
 | p::is,_,_,ρ,σ,Q,r,hl,er,q=>by
  cases r with
  | nil=>cases hl
  | cons r1 r2 =>
   refine ⟨_,_,rfl,?_⟩;refine Wu is r2 (by simpa using hl) (er.set r1 p.1) λ σ' e1 e2 e3=>?_;refine q σ' e1 (e2.trans Y1w) λ i hi=>?_;rw [Y09] at hi;rw [e3 i λ z=>hi (Y03 _ z),Y18 λ z=>hi (by rw [<- z];exact Y05 ..)]
theorem z8v (hc:X.calm=true) (hN:X.N.Nodup) (t:Tg) (h:∀ i∈t.idx,i<X.N.length/\Loc X.env.scope (X.N.getD i "")/\(X.fn (X.N.getD i "")=true\/X.env.scope.names.lookup (X.N.getD i "")=some .local)):PG X (t.py X.N) (gB X.K t):=by
 cases t with
 | one i p =>
  have hq:=h i (Y0g.mpr rfl);refine PG.mono (UR (i:=i) hN (by rw [Y0j,Y07 hq.1];rfl) hq.2.1 hq.2.2) λ v σ H Q ⟨μ,ρ,d,ρ',h,hr,er,r,e,q⟩=>?_;cases e;exact q _ (er.set r i) Y1w λ j hj=>Y18 λ z=>hj (by rw [<- z];exact Y0g.mpr rfl)
 | tup is p =>
  refine PG.mono (Oi (k:=0) (pos:=p) hc (yj hN is λ q hq=>h q.1 (Y0c.mpr ⟨q,hq,rfl⟩)) (wc X.N X.env is).1 (wc X.N X.env is).2) λ v σ H Q ⟨μ,ρ,d,ρ',h,hr,er,r,e,q⟩=>?_;unfold je at e;cases r with
  | tup h1 h2 =>
   simp only at e;split at e
   ·rename_i c;cases e;exact ⟨_,_,rfl,h1,by rw [<- h2.length];exact c,Wu is h2 c er q⟩
   ·cases e
  | _=>cases e
end
theorem Vk:(1000000:Nat)<sizeLine:=by rw [sizeLine_eq];decide
section
variable {X:Cx}{Z:ZK}{k:Nat}{n:Nm}{cv:XZ}{cl:107}
theorem z8w {K:Y00}{μ:XV}{H:Hp}{ρ:En}{σ:St}(cap:147)(er:ER K μ ρ σ H):ER K μ (jE cap ρ) (wP cap σ) H:=by
 refine ⟨by unfold jE wP;rw [Y04,Y04],λ j d e=>?_⟩;unfold jE at e;unfold wP;rw [Y0l] at e ⊢;cases e1:cap[j]? with
 | none=>rw [e1] at e;cases e
 | some o =>
  rw [e1] at e;cases o with
  | none=>cases e
  | some i =>
   have e':(ρ[i]?).bind id=some d:=Option.some.inj e;cases e2:ρ[i]? with
   | none=>rw [e2] at e';cases e'
   | some o2 =>
    rw [e2] at e';have e3:o2=some d:=e';subst e3;obtain ⟨v,q1,q2⟩:=er.val i d e2;exact ⟨v,by show some ((σ[i]?).bind id)=_;rw [q1];rfl,q2⟩
theorem Bh {osc scope:Scope}{N NC:XQ}{cap:147}{t:Tg}(cok:jj osc scope N NC cap=true)(ht:t.ok scope NC=true)(σ:St):∀ i∈t.idx,(wP cap σ)[i]?=some none:=by
 intro i hi;unfold Tg.ok at ht;have h1:=Y1e.mp ht i hi;rw [Y0h] at h1;have hl:i<NC.length:=of_decide_eq_true h1.1;have hloc:scope.names.lookup (NC.getD i "")=some .local\/scope.names.lookup (NC.getD i "")=some .cell:=of_decide_eq_true h1.2;unfold jj at cok;simp only [Y0h] at cok;obtain ⟨⟨⟨⟨⟨k1,k2⟩,k3⟩,k4⟩,k5⟩,k6⟩:=cok;have hj:=Y1e.mp k6 i (Y1l.mpr hl);have hN:NC[i]?=some (NC.getD i ""):=by rw [Y0j,Y07 hl];rfl
 have hc:i<cap.length:=by rw [beq_iff_eq.mp k5];exact hl
 unfold wP;rw [Y0l];cases e:cap[i]? with
 | none=>rw [Y33] at e;omega
 | some o =>
  cases o with
  | none=>rfl
  | some m =>
   exfalso
   rw [e,hN] at hj;simp only [Y0h,beq_iff_eq] at hj;have hfree:=hj.2;rcases hloc with z | z<;>(rw [hfree] at z;cases z)
theorem JF {scope:Scope}{NC:XQ}{cap:147}{t:Tg}{mi:En->Hh->Res (Ck×List D)}{mc:En->Hh->Res Bool}{me:En->Hh->Res D}
  (cok:163) (ht:t.ok scope NC=true) {σ:St}{H:Hp}{Q:VK}
  (p:Bg X.K cv Z (λ ρ h=>(mi ρ h).bind λ q h1=>if q.2.length<=1000000 then jJ q.1 (j4 t (jE cap ρ) mc me) q.2 [] h1 else .no) σ H Q) :
  OJ Z cap (zB X.K cv (RJ X.K) Z mi) (gB X.K t) (λ Zc=>zB X.K cv RB Zc mc) (λ Zc=>zB X.K cv 142 Zc me) σ H Q:=by
 obtain ⟨μ,ρ,h,hr,er,p⟩:=p;refine jn (m:=mi) Ext.refl hr er p (λ _ _ z=>z) λ q h1 μ1 H1 J _ e1 r1 er1 src p1=>?_;split at p1;rotate_left
 ·exact p1.elim
 rename_i hlen;obtain ⟨c,ds⟩:=q;refine ⟨λ i m ys H2=>m=ds.length-i/\i<=ds.length/\∃ μ2 h2 acc,Ext X.K μ1 H1 μ2 H2/\HR X.K μ2 h2 H2/\Reps X.K μ2 H2 acc ys/\acc.length<=i/\PostE X.K cv (RL X.K H) μ H (jJ c (j4 t (jE cap ρ) mc me) (ds.drop i) acc h2) Q (Z σ),
  ⟨ds.length,by simp,Y1h _,μ1,h1,[],Ext.refl,r1,.nil,Y0b _,p1⟩,?_⟩
 rintro i m ys H2 ⟨rfl,hi',μ2,h2,acc,e2,r2,ry,ha,p2⟩
 have hyl:ys.length<=i:=by rw [<- ry.length];exact ha
 have hll:ds.length<=1000000:=hlen;by_cases hlt:i<ds.length
 ·right;rw [Y34 hlt] at p2;unfold jJ at p2;split at p2;rotate_left
  ·exact p2.elim
  rename_i st;obtain ⟨s1,s2⟩:=src μ2 h2 H2 e2 r2 st;obtain ⟨g1,g2⟩:=s1 i ds[i] (Y07 hlt);refine ⟨g1,by have:=Vk;omega,λ x H3 y=>?_⟩;obtain ⟨e2',r2',rx⟩:=g2 x H3 y;replace e2:=e2.trans e2';replace r2:=r2';replace ry:=ry.mono e2';have er2:ER X.K μ2 ρ σ H3:=er1.mono e2;unfold j4 at p2;cases eb:je t ds[i] (jE cap ρ) with
  | none=>rw [eb] at p2;exact p2.elim
  | some ρ' =>
   rw [eb] at p2;refine ⟨μ2,jE cap ρ,ds[i],ρ',h2,r2,z8w cap er2,rx,eb,λ σ4 er4 hl4 hs4=>⟨⟨hl4,λ j v ej=>?_⟩,?_⟩⟩
   ·have nj:j∉t.idx:=λ z=>by rw [Bh cok ht σ j z] at ej;cases ej
    rw [hs4 j nj];exact ej
   have p3:PostE X.K cv (RL X.K H) μ H ((mc ρ' h2).bind λ b h3=>(if b then (me ρ' h3).bind λ d h4=>Res.ok (some d) h4 else Res.ok none h3).bind λ o h'=>jJ c (j4 t (jE cap ρ) mc me) (ds.drop (i+1)) (B0 acc o) h') Q (Z σ):=by
    have p2':=p2;rw [zp] at p2';exact p2'
   refine jn (m:=mc) (R:=RB) (e1.trans e2) r2 er4 p3 (λ _ _ z=>z) λ b h3 μ3 H3' bb _ e3 r3 er5 qb p4=>?_;have qb':b=bb:=qb;subst qb';cases b with
   | false =>
    refine yC ⟨ds.length-(i+1),by omega,rfl,hlt,μ3,h3,acc,e2.trans e3,r3,ry.mono e3,Nat.le_succ_of_le ha,p4⟩
   | true =>
    refine yD ?_;have p5:PostE X.K cv (RL X.K H) μ H ((me ρ' h3).bind λ d h4=>jJ c (j4 t (jE cap ρ) mc me) (ds.drop (i+1)) (acc++[d]) h4) Q (Z σ):=by
     have p4':=p4;rw [if_pos rfl,zp] at p4';exact p4'
    refine jn (m:=me) ((e1.trans e2).trans e3) r3 er5 p5 (λ _ _ z=>z) λ d h4 μ4 H4 v _ e4 r4 er6 qd p6=>?_;exact ⟨ds.length-(i+1),by omega,rfl,hlt,μ4,h4,acc++[d],(e2.trans e3).trans e4,r4,((ry.mono e3).mono e4).append (.cons qd .nil),by rw [Y0e];exact Nat.succ_le_succ ha,p6⟩
 ·left;have ei:i=ds.length:=by omega
  subst ei;rw [List.drop_length] at p2;unfold jJ at p2;split at p2;rotate_left
  ·exact p2.elim
  rename_i st;refine ⟨(src μ2 h2 H2 e2 r2 st).2,by have:=Vk;omega,λ a ha'=>?_⟩;have ex:=(e1.trans e2);have na:=r2.fresh ha';have n0:H a=none:=by
   cases e:H a with
   | none=>rfl
   | some o=>rw [ex.oth a o e λ z=>na (ex.sub z)] at ha';cases ha'
  exact p2 μ2 _ _ (ex.trans (zq ha')) (r2.tup ha') ⟨a,ys,rfl,zw,ry.mono (zq ha'),na,n0⟩
theorem Bj {elt iter:Expr}{ifs:List Expr}{scope:Scope}{NC:XQ}{cap:147}{t:Tg}{pos:Pos}{mi:En->Hh->Res (Ck×List D)}{mc:En->Hh->Res Bool}{me:En->Hh->Res D}
  (hc:X.calm=true) (th:Thr X Z) (hi:L2.PI X (t.py NC) iter (zB X.K cv (RJ X.K) Z mi)) (cok:163) (ht:t.ok scope NC=true)
  (hg:∀ C s H fp pn xe,PG 127 (t.py NC) (gB X.K t))
  (hf:∀ C s H fp pn xe Zc,Thr 127 Zc->PF 127 ifs (zB X.K cv RB Zc mc))
  (hb:∀ C s H fp pn xe Zc,Thr 127 Zc->PE 127 elt (zB X.K cv 142 Zc me))
  (hs:∀ x,foldedSetIterable iter X.env x=pure x) :
  PE X (.ListComp elt [⟨t.py NC,iter,ifs,0⟩] scope pos) (Bg X.K cv Z λ ρ h=>(mi ρ h).bind λ q h1=>if q.2.length<=1000000 then jJ q.1 (j4 t (jE cap ρ) mc me) q.2 [] h1 else .no) :=
 PE.mono (z1q hc th hi cok hg (tf:=λ Zc=>zB X.K cv RB Zc mc) (te:=λ Zc=>zB X.K cv 142 Zc me) hf hb hs) λ σ H Q p=>JF cok ht p
theorem Kx.comp {scope:Scope}{NC:XQ}{cap:147}(C:Kx X Z k n cv cl)(cok:163)(hnd:NC.Nodup)(hgood:NC.all yw=true){Cc:Addr}{s:130}{H:Hp}{fp:XV}{pn:115}{xe:XU}{Zc:ZK}
  (th:Thr (zv X NC scope Cc s H fp pn xe) Zc):Kx (zv X NC scope Cc s H fp pn xe) Zc k ⟨NC,n.F,n.G⟩ cv cl:=by
 obtain ⟨c1,c2,c3,c4,c5,c6,c7⟩:=jd cok;refine ⟨th,C.rm,rfl,hnd,rfl,c1,λ x hx=>⟨?_,Y1e.mp hgood x hx⟩,C.bm,C.gc,C.fn,C.mc,C.xc⟩;obtain ⟨j,hj⟩:=Y1u hx;have cok':=cok;unfold jj at cok';simp only [Y0h] at cok';obtain ⟨⟨⟨⟨⟨k1,k2⟩,k3⟩,k4⟩,k5⟩,k6⟩:=cok';have hl:j<NC.length:=(Y01.mp hj).1;have hk:=Y1e.mp k6 j (Y1l.mpr hl);have rel:(relabel scope X.env).names.lookup x=(scope.names.lookup x).map λ k=>if k=.free then .cell else k:=wt (scope:=scope) C.kd λ y hy e=>c4 y hy e;rw [hj] at hk;show Vis (relabel scope X.env) x;unfold Vis;rw [rel];cases e:cap[j]? with
 | none=>rw [e] at hk;cases hk
 | some o =>
  rw [e] at hk;cases o with
  | none =>
   have hk':scope.names.lookup x=some .local\/scope.names.lookup x=some .cell:=by simpa using hk
   rcases hk' with hk' | hk'
   ·rw [hk'];exact .inl rfl
   ·rw [hk'];exact .inr (.inl rfl)
  | some m =>
   simp only [Y0h,beq_iff_eq] at hk;rw [hk.2];exact .inr (.inl rfl)
end
theorem RepKs.merge {K:Y00}{μ:XV}{H:Hp}:∀ {more:134}{mv:152}{ds:134}{vs:152},RepKs K μ H more mv->RepKs K μ H ds vs->RepKs K μ H (yg ds more) (yc vs mv)
 | _,_,_,_,.nil,r=>r
 | _,_,ds,vs,@RepKs.cons _ _ _ _ k d v ds' vs' h t,r=>by
  have z:=RepKs.merge (ds:=Zk ds k d) (vs:=wq vs k v) t (r.put h);exact z
theorem JG {K:Y00}{μ:XV}{H:Hp}:∀ {ds:153}{vs:157}{kvs:134},Reps K μ H ds vs->wv ds=some kvs ->
  ∃ mv:List (Key×V),RepKs K μ H kvs mv/\Paired (λ (x:V) (kv:Key×V)=>∃ a,x=.ref a/\SqT K H a [kV kv.1,kv.2]) vs mv
 | _,_,_,.nil,e=>by
  unfold wv at e;cases e;exact ⟨[],.nil,.nil⟩
 | _,_,kvs,@Reps.cons _ _ _ d v ds vs h t,e=>by
  unfold wv at e;cases e1:B2 d with
  | none=>rw [e1] at e;simp at e
  | some a =>
   cases e2:wv ds with
   | none=>rw [e1,e2] at e;simp at e
   | some b =>
    rw [e1,e2] at e;simp only [Option.some.injEq] at e;subst e;obtain ⟨mv,m1,m2⟩:=JG t e2;unfold B2 at e1;split at e1
    ·rename_i k x;cases ek:jD k with
     | none=>rw [ek] at e1;simp at e1
     | some q =>
      rw [ek] at e1;simp only [Y3j,Option.some.injEq] at e1;subst e1;cases h with
      | tup h1 h2 =>
       cases h2 with
       | cons hk ht =>
        cases ht with
        | cons hx hn =>
         cases hn
         have:=qK hk ek
         subst this;exact ⟨_,.cons hx m1,.cons ⟨_,rfl,h1⟩ m2⟩
    ·cases e1
theorem z6b {X:Cx}{Z:ZK}{n:Nm}{cv:XZ}{cl:107}:z2g X Z n cv cl .nil:=by
 intro ks pos hl;cases ks with
 | nil =>
  refine ⟨[],z1m,λ σ H Q=>za λ μ ρ h hr er q=>?_⟩;exact q.here hr .nil
 | cons _ _=>cases hl
theorem z2s {X:Cx}{Z:ZK}{n:Nm}{cv:XZ}{cl:107}{e:E}{r:Es}(se:PE X (e.py n) (zB X.K cv 142 Z (e.ev cl)))(sr:z2g X Z n cv cl r):z2g X Z n cv cl (.cons e r):=by
 intro ks pos hl;have hl:ks.length=(e.py n::r.py n).length:=hl;cases ks with
 | nil=>cases hl
 | cons k ks =>
  obtain ⟨trs,p1,p2⟩:=sr ks pos (by simpa using hl);refine ⟨(tC (.str k.1),zB X.K cv 142 Z (e.ev cl))::trs,OF Ob se p1,λ σ H Q=>za λ μ ρ h hr er q=>?_⟩;show zB X.K cv 142 Z (e.ev cl) σ H _;refine z9 (m:=e.ev cl) hr er q λ da h1 μ1 H1 x _ e1 r1 er1 qa p3=>?_;refine p2 σ H1 _ (z9 (m:=r.ev cl) r1 er1 p3 λ ds h2 μ2 H2 xs _ e2 r2 er2 qb p4=>?_);exact p4.here r2 (.cons (qa.mono e2) qb)
section
variable {X:Cx}{cv:XZ}
theorem U6 (hc:X.calm=true):j1 X (.type "dict") (λ xs H Q=>∃ x,xs=[x]/\r1 X.K cv QC x H Q):=by
 intro pins s σ H xs us Q I r hh;obtain ⟨x,rfl,μ,h,a,Z',hr,ra,p⟩:=hh;unfold QC at p;cases ra with
 | @loc nn b mm =>
  simp only at p;cases e:rd h nn with
  | none=>rw [e] at p;exact p.elim
  | some ds =>
   rw [e] at p;simp only at p;split at p
   ·rename_i hl;cases e2:wv ds with
    | none=>rw [e2] at p;exact p.elim
    | some kvs =>
     rw [e2] at p;have e3:h[nn]?=some (.lst ds):=by
      unfold rd at e;cases e4:h[nn]? with
      | none=>rw [e4] at e;cases e
      | some o=>cases o with
       | lst xs=>rw [e4] at e;cases e;rfl
       | dK _=>rw [e4] at e;cases e
       | fK _=>rw [e4] at e;cases e
       | dT _=>rw [e4] at e;cases e
       | obj _ _=>rw [e4] at e;cases e
     obtain ⟨vs,q1,q2⟩:=jG hr mm e3;obtain ⟨mv,m1,m2⟩:=JG q2 e2;refine YO hc pins s σ H _ us Q I r ⟨b,vs,mv,rfl,SqL.of q1,by rw [<- q2.length];exact hl,m2,λ l hb=>?_⟩;refine p _ _ _ ((zq hb).add hb) (hr.alloc hb (hr.fresh hb) λ μ' g=>⟨_,zw,((RepKs.merge m1 .nil).mono (zq hb)).mono' g⟩) (.loc ?_);rw [<- hr.len,Y0m 169,Y1q];rfl
   ·exact p.elim
 | _=>exact p.elim
theorem z8x (hc:X.calm=true) (hN:X.N.Nodup) (is:List (Nat×Pos)) (p1:Pos) (h:∀ i∈(Tg.tup is p1).idx,i<X.N.length/\Loc X.env.scope (X.N.getD i "")/\(X.fn (X.N.getD i "")=true\/X.env.scope.names.lookup (X.N.getD i "")=some .local)) :
  PG X ((Tg.tup is p1).py X.N) (λ v σ H Q=>∃ μ ρ d ρ' h,HR X.K μ h H/\ER X.K μ ρ σ H/\Rep X.K μ H d v/\je (.tup is p1) (Wm d h) ρ=some ρ'/\∀ σ',ER X.K μ ρ' σ' H->Q σ' H):=by
 refine PG.mono (z1w (k:=0) (pos:=p1) hc (yj hN is λ q hq=>h q.1 (Y0c.mpr ⟨q,hq,rfl⟩)) (wc X.N X.env is).1 (wc X.N X.env is).2) λ v σ H Q ⟨μ,ρ,d,ρ',h,hr,er,r,e,q⟩=>?_;have fin:∀ (ds:153) (vs:157),Reps X.K μ H ds vs->je (.tup is p1) (.tup ds) ρ=some ρ'->vs.length=is.length/\gNs is vs σ H Q:=λ ds vs h2 e=>by
  unfold je at e;simp only at e;split at e
  ·rename_i c;cases e;exact ⟨by rw [<- h2.length];exact c,Wu is h2 c er λ σ' e1 _ _=>q σ' e1⟩
  ·cases e
 cases r with
 | tup h1 h2 =>
  obtain ⟨a,b⟩:=fin _ _ h2 e;exact ⟨_,_,rfl,.inl h1,a,b⟩
 | @loc nn b mm =>
  unfold Wm at e;simp only at e;cases e1:rd h nn with
  | none=>rw [e1] at e;simp [je] at e
  | some ds =>
   rw [e1] at e;obtain ⟨vs,hs1,rs⟩:=hr.rd e1 mm;obtain ⟨a,b⟩:=fin _ _ rs e;exact ⟨_,_,rfl,.inr hs1,a,b⟩
 | _=>simp [je,Wm] at e
end
end PI
namespace PI
open PySem L2
theorem Zt (x z:Str):∀ l:List Str,z∈yH x l ↔ z=x\/z∈l
 | []=>by simp [yH]
 | y::r=>by
  unfold yH
  split
  ·rename_i e;subst e;simp
  ·split
   ·simp
   ·rw [Y06,Zt x z r,Y06];constructor
    ·rintro (h | h | h)
     ·exact .inr (.inl h)
     ·exact .inl h
     ·exact .inr (.inr h)
    ·rintro (h | h | h)
     ·exact .inr (.inl h)
     ·exact .inl h
     ·exact .inr (.inr h)
theorem jF (z:Str):∀ l:List Str,z∈j6 l ↔ z∈l
 | []=>Iff.rfl
 | x::r=>by
  show z∈yH x (j6 r) ↔ _;rw [Zt,jF z r,Y06]
theorem z6c {x y:Str}(h:x≠y)(h':¬ x.cps.toList<y.cps.toList):y.cps.toList<x.cps.toList:=by
 rcases Classical.em (y.cps.toList<x.cps.toList) with q | q
 ·exact q
 ·exact absurd (List.le_antisymm (List.not_lt.mp q) (List.not_lt.mp h')) λ e=>h (by
   obtain ⟨⟨x⟩⟩:=x;obtain ⟨⟨y⟩⟩:=y;simp only at e;rw [e])
theorem Vl (x:Str):∀ l:List Str,Up l->Up (yH x l)
 | [],_=>List.pairwise_singleton _ _
 | y::r,h=>by
  unfold yH;obtain ⟨h1,h2⟩:=Y1r.mp h
  split
  ·exact h
  ·rename_i c
   split
   ·rename_i d;refine Y1r.mpr ⟨λ z hz=>?_,h⟩;rcases Y06.mp hz with rfl | hz
    ·exact d
    ·exact List.lt_trans d (h1 z hz)
   ·rename_i d;refine Y1r.mpr ⟨λ z hz=>?_,Vl x r h2⟩;rcases (Zt x z r).mp hz with rfl | hz
    ·exact z6c c d
    ·exact h1 z hz
theorem wA:∀ l:List Str,Up (j6 l)
 | []=>List.Pairwise.nil
 | x::r=>Vl x _ (wA r)
theorem yN:∀ {l m:XQ},Up l->Up m->(∀ x,x∈l ↔ x∈m)->l=m
 | [],[],_,_,_=>rfl
 | [],y::m,_,_,h=>absurd ((h y).mpr (Y05 ..)) 111
 | x::l,[],_,_,h=>absurd ((h x).mp (Y05 ..)) 111
 | x::l,y::m,hl,hm,h=>by
  obtain ⟨a1,a2⟩:=Y1r.mp hl;obtain ⟨b1,b2⟩:=Y1r.mp hm;have e:x=y:=by
   rcases Y06.mp ((h x).mp (Y05 ..)) with e | hx
   ·exact e
   ·rcases Y06.mp ((h y).mpr (Y05 ..)) with e | hy
    ·exact e.symm
    ·exact absurd (List.lt_trans (a1 y hy) (b1 x hx)) (Y32 _)
  subst e;rw [yN a2 b2 λ z=>?_];constructor
  ·intro hz;rcases Y06.mp ((h z).mp (Y03 _ hz)) with e | hz'
   ·subst e;exact absurd (a1 z hz) (Y32 _)
   ·exact hz'
  ·intro hz;rcases Y06.mp ((h z).mpr (Y03 _ hz)) with e | hz'
   ·subst e;exact absurd (b1 z hz) (Y32 _)
   ·exact hz'
theorem z2t {K:Y00}{cv:XZ}{μ:XV}{H:Hp}{h:Hh}{d:D}{x:V}{Q:VK}{Z:Value->Hp->Prop}(hr:HR K μ h H)(qa:Rep K μ H d x)(p:PostE K cv (Rep K) μ H (ssD d h) Q Z):rSS K [x] H Q:=by
 unfold ssD at p;cases qa with
 | @loc nn b m =>
  cases e2:PI.rd h nn with
  | none=>simp only [e2] at p;exact p.elim
  | some ds =>
   simp only [e2] at p;cases e3:wu ds with
   | none=>simp only [e3] at p;exact p.elim
   | some ss =>
    simp only [e3] at p;obtain ⟨vs,q1,q2⟩:=qf hr m e2;by_cases c:ss.length<=4000/\(j6 ss).length<64
    ·rw [if_pos c] at p;have ev:=PI.strs_reps q2 e3;subst ev;refine ⟨b,ss,rfl,SqL.of q1,by unfold scanBound;omega,⟨j6 ss,c.2,λ x hx=>(jF x ss).mpr hx⟩,λ l ss' hl hu hm=>?_⟩;have e:ss'=j6 ss:=yN hu (wA ss) λ z=>by rw [hm,jF]
     rw [e];exact wz hr (QJ _) p l hl
    ·rw [if_neg c] at p;exact p.elim
 | _=>exact p.elim
theorem GN {X:Cx}{cv:XZ}:j1 X (.builtin "sorted") (λ xs H Q=>∃ x,xs=[x]/\r1 X.K cv (c1D .srt) x H Q):=by
 intro pins s σ H xs us Q I r hh;obtain ⟨x,rfl,μ,h,a,Z',hr,ra,p⟩:=hh;unfold c1D at p;cases ra with
 | @loc nn b m =>
  simp only at p;split at p
  ·rename_i ss e;obtain ⟨ds,e1,e2⟩:=Y2k.mp e;obtain ⟨vs,q1,q2⟩:=qf hr m e1;have ev:=PI.strs_reps q2 e2;subst ev;by_cases c:ss.length<64/\ss.Nodup
   ·rw [if_pos c] at p;refine OY pins s σ H _ us Q I r ⟨b,ss,rfl,SqL.of q1,c.1,c.2,λ l ss' hl hu hm=>?_⟩;have e:ss'=j6 ss:=yN hu (wA ss) λ z=>by rw [hm,jF]
    rw [e];exact wz hr (QJ _) p l hl
   ·rw [if_neg c] at p;exact p.elim
  ·exact p.elim
 | _=>exact p.elim
theorem Zu {K:Y00}{μ:XV}{H:Hp}:∀ {ds:134}{vs:152},RepKs K μ H ds vs->Reps K μ H (ds.map λ p=>dK1 p.1) (vs.map λ p=>kV p.1)
 | _,_,.nil=>.nil
 | _,_,.cons h r=>.cons (Vj _) (Zu r)
theorem GO {X:Cx}{cv:XZ}(hc:X.calm=true):j1 X (.type "list") (λ xs H Q=>∃ x,xs=[x]/\r1 X.K cv (c1D .lks) x H Q):=by
 intro pins s σ H xs us Q I r hh;obtain ⟨x,rfl,μ,h,a,Z',hr,ra,p⟩:=hh;unfold c1D at p;cases ra with
 | @loc nn b m =>
  simp only at p;split at p
  ·rename_i kvs e;obtain ⟨vs,q1,q2⟩:=hr.obj nn b _ m e;exact Zj hc pins s σ H _ us Q I r ⟨b,vs,rfl,.inl q1,wz hr (Zu q2) p⟩
  ·rename_i kvs e;obtain ⟨ob,vs,q1,q2⟩:=hr.obj nn b _ m e;exact Zj hc pins s σ H _ us Q I r ⟨b,vs,rfl,.inr ⟨ob,q1⟩,wz hr (Zu q2) p⟩
  ·exact p.elim
 | _=>exact p.elim
end PI
namespace PI
open PySem L2 PySem.Spec
open PyProof.Rows hiding St
section
variable {X:Cx}{Z:ZK}{k:Nat}{n:Nm}{cv:XZ}{cl:107}
theorem z6d (T:Nat)(h:T<6):bootBuiltins (qx T)=some (.type (Va T))/\qx T≠"__name__"/\(qx T==("__debug__":Str))=false/\qx T∈Wq:=by
 match T,h with
 | 0,_=>exact 197
 | 1,_=>exact 197
 | 2,_=>exact 197
 | 3,_=>exact 197
 | 4,_=>exact 197
 | 5,_=>exact 197
theorem getD_some {α:Type}{xs:List α}{i:Nat}{d:α}(h:i<xs.length):xs[i]?=some (xs.getD i d):=by
 rw [Y0j,Y07 h];rfl
theorem qL {α:Type}{xs:List α}{i:Nat}{d:α}(h:i<xs.length):xs.getD i d∈xs:=Y0v (getD_some h)
theorem PO.mono {X:Cx}{e:Option Expr}{t t':TO}(p:PO X e t)(h:∀ σ H Q,t' σ H Q->t σ H Q):PO X e t':=λ pins s σ H Q I q=>p pins s σ H Q I (h σ H Q q)
theorem wB (o:E)(x:Str)(env:Env):attributeBase (o.py n) x env (eval (o.py n) env)=eval (o.py n) env:=by
 cases o with
 | ofL l=>cases l<;>(rfl)
 | _=>rfl
theorem Vm (a : E)(pos : Pos)(env : Env) : ((backTo pos (starEach [a.py n] env)).all (λ x => !x.1)&&(backToKw pos (keywordEach [] env)).all (λ x => x.1.isSome)
      && decide (([a.py n]:List Expr).length+([]:List Keyword).length+(if ([]:List Keyword).isEmpty then 0 else 1)<30))=true:=by
  rw [zc];rfl
theorem z4b {K:Y00}{μ:XV}{H:Hp}{h:Hh}{m:M0}{d:D}{v:V}(hr:HR K μ h H)(r:Rep K μ H d v)(e:m0D m d h≠.no):tyV K "list" v H:=by
 unfold m0D at e;cases r with
 | @loc nn b mm =>
  cases e1:h[nn]? with
  | none=>simp only [e1] at e;exact absurd rfl e
  | some o =>
   cases o with
   | dK _=>simp only [e1] at e;exact absurd rfl e
   | fK _=>simp only [e1] at e;exact absurd rfl e
   | dT _=>simp only [e1] at e;exact absurd rfl e
   | obj _ _=>simp only [e1] at e;exact absurd rfl e
   | lst ds=>obtain ⟨vs,q1,q2⟩:=jG hr mm e1;exact .inl ⟨rfl,vs,SqL.of q1⟩
 | _=>exact absurd rfl e
theorem Reps.isEmpty {K:Y00}{μ:XV}{H:Hp}{ds:153}{vs:157}(r:Reps K μ H ds vs):ds.isEmpty=vs.isEmpty:=by cases r<;>rfl
theorem Bk {K:Y00}{cv:XZ}{R:List Addr->Hp->D->V->Prop}{μ:XV}{H:Hp}{h:Hh}{d:D}{v:V}{r:Res D}{Q:VK}{Z:Value->Hp->Prop}(hr:HR K μ h H)(q:Rep K μ H d v)(p:PostE K cv R μ H (onL d h r) Q Z):tyV K "list" v H/\PostE K cv R μ H r Q Z:=by
 unfold onL at p;cases q with
 | @loc nn b mm =>
  cases e1:h[nn]? with
  | none=>simp only [e1] at p;exact p.elim
  | some o =>
   cases o with
   | dK _=>simp only [e1] at p;exact p.elim
   | fK _=>simp only [e1] at p;exact p.elim
   | dT _=>simp only [e1] at p;exact p.elim
   | obj _ _=>simp only [e1] at p;exact p.elim
   | lst ds=>simp only [e1] at p;obtain ⟨vs,q1,q2⟩:=jG hr mm e1;exact ⟨.inl ⟨rfl,vs,SqL.of q1⟩,p⟩
 | _=>exact p.elim
theorem qA (it:I){env:Env}:∀ x,foldedSetIterable (it.py n) env x=pure x:=by
 intro x;cases it with
 | seq e =>
  cases e with
  | ofL l=>cases l<;>(rfl)
  | _=>rfl
 | lst l=>cases l<;>(rfl)
 | keys e =>
  cases e with
  | ofL l=>cases l<;>(rfl)
  | _=>rfl
 | rng a p0 p=>rfl
theorem Vn {elt:E}{t:Tg}{it:I}{c:Es}{NC:XQ}{cap:147}{csc:Scope}{p:Pos}(C:Kx X Z k n cv cl)(h:(L.comp elt t it c NC cap csc p).ok X.env.scope n=true) :
  (it.ok X.env.scope n=true/\t.forI it=true)/\jj X.env.scope csc X.N NC cap=true/\NC.Nodup/\NC.all yw=true/\t.ok csc NC=true/\elt.ok (Vf csc X.env.scope) ⟨NC,n.F,n.G⟩=true/\c.ok (Vf csc X.env.scope) ⟨NC,n.F,n.G⟩=true/\c.okT=true/\c.short=true:=by
 have h:(_&&_)=true:=h;simp only [Y0h,decide_eq_true_eq] at h;obtain ⟨⟨⟨⟨⟨⟨⟨⟨k1,k2⟩,k3⟩,k4⟩,k5⟩,k6⟩,k7⟩,k8⟩,k9⟩:=h;exact ⟨k1,by rw [C.nN];exact k2,k3,k4,k5,k6,k7,k8,k9⟩
theorem Vo {Zc:ZK}{m:Nm}:PF X (Es.nil.py m) (zB X.K cv RB Zc (Es.nil.evC cl)):=by
 refine λ pins s σ H Q I q=>z5z pins s σ H Q I ?_;obtain ⟨μ,ρ,h,hr,er,q⟩:=q;exact q.here hr rfl
theorem Vp {scope:Scope}{NC:XQ}{cap:147}{t:Tg}(kd:X.env.scope.kind=.function)(cok:163)(hnd:NC.Nodup)(ht:t.ok scope NC=true){Cc:Addr}{s:130}{H:Hp}{fp:XV}{pn:115}{xe:XU} :
  PG (zv X NC scope Cc s H fp pn xe) (t.py NC) (gB X.K t):=by
 refine z8v (X:=zv X NC scope Cc s H fp pn xe) rfl hnd t λ i hi=>?_;unfold Tg.ok at ht;have h1:=Y1e.mp ht i hi;rw [Y0h] at h1;have h2:scope.names.lookup (NC.getD i "")=some .local\/scope.names.lookup (NC.getD i "")=some .cell:=of_decide_eq_true h1.2;obtain ⟨c1,c2,c3,c4,c5,c6,c7⟩:=jd cok;have rel:∀ x,(relabel scope X.env).names.lookup x=(scope.names.lookup x).map λ k=>if k=.free then .cell else k:=λ x=>wt (scope:=scope) kd λ y hy e=>c4 y hy e;refine ⟨of_decide_eq_true h1.1,?_,?_⟩
 ·show Loc (relabel scope X.env) _;unfold L2.Loc;rw [rel];rcases h2 with h2 | h2
  ·rw [h2];exact .inl rfl
  ·rw [h2];exact .inr rfl
 ·rcases h2 with h2 | h2
  ·refine .inr ?_;show (relabel scope X.env).names.lookup _=_;rw [rel,h2];rfl
  ·refine .inl ?_;show (scope.names.lookup _==some NameKind.cell)=true;rw [h2];rfl
mutual
theorem sE:∀ (e:E) (X:Cx) (Z:ZK) (k:Nat) (n:Nm) (cv:XZ) (cl:107),Kx X Z k n cv cl->e.ok X.env.scope n=true->SE X Z n cv cl e
 | .non p,X,Z,k,n,cv,cl,C,_=>⟨PE.mono z50 λ σ H Q q=>Ws (λ _ _ _=>.non) q,λ z=>nomatch z⟩
 | .bl b p,X,Z,k,n,cv,cl,C,_=>⟨PE.mono z7v λ σ H Q q=>Ws (λ _ _ _=>.bl b) q,λ z=>nomatch z⟩
 | .int i p,X,Z,k,n,cv,cl,C,_=>⟨PE.mono z4z λ σ H Q q=>Ws (λ _ _ _=>.int i) q,λ z=>nomatch z⟩
 | .str x p,X,Z,k,n,cv,cl,C,_=>⟨PE.mono Ob λ σ H Q q=>Ws (λ _ _ _=>.str x) q,λ z=>nomatch z⟩
 | .var i p,X,Z,k,n,cv,cl,C,h=>by
  have hi:i<n.N.length:=of_decide_eq_true h;have hm:=C.nm _ (qL (d:=("":Str)) hi);have hv:=hm.1;have hg:=B9 hm.2;have pe:PE X ((E.var i p).py n) (zB X.K cv 142 Z ((E.var i p).ev cl)):=by
   refine PE.mono (Oa (i:=i) (by rw [C.nN];exact getD_some hi) hv hg.1 hg.2) λ σ H Q=>za λ μ ρ h hr er q=>?_;have q:PostE X.K cv 142 μ H (match ρ[i]? with | some (some d)=>.ok d h | _=>.no) Q (Z σ):=q
   cases e:ρ[i]? with
   | none=>rw [e] at q;exact q.elim
   | some o =>
    cases o with
    | none=>rw [e] at q;exact q.elim
    | some d =>
     rw [e] at q;obtain ⟨v,e1,r1⟩:=er.val i d e;exact ⟨v,e1,q.here hr r1⟩
  exact 117
 | .bin op a b p,X,Z,k,n,cv,cl,C,h=>by
  have h':a.ok X.env.scope n=true/\b.ok X.env.scope n=true:=by have h:(_&&_)=true:=h;simpa using h
  have sa:=sE a X Z k n cv cl C h'.1;have sb:=sE b X Z k n cv cl C h'.2;have pe:PE X ((E.bin op a b p).py n) (zB X.K cv 142 Z ((E.bin op a b p).ev cl)):=by
   refine PE.mono (z84 (z67 (cv:=cv) op) sa.pe sb.pe) λ σ H Q q=>?_;exact Vh q
  exact 117
 | .un op a p,X,Z,k,n,cv,cl,C,h=>by
  have h':a.ok X.env.scope n=true:=by have h:(_&&_)=true:=h;simp at h;exact h.1
  have sa:=sE a X Z k n cv cl C h';cases op with
  | Not =>
   refine ⟨?_,λ z=>?_⟩
   ·skip;refine PE.mono (z54 sa.pe) λ σ H Q=>za λ μ ρ h hr er q=>?_;refine z9 (m:=a.ev cl) hr er q λ d h1 μ1 H1 x _ e1 r1 er1 qa p1=>?_;unfold unD at p1;cases qa with
    | bl b=>exact ⟨b,rfl,p1.here r1 (.bl _)⟩
    | _=>exact p1.elim
   ·skip;have z':a.okT=true:=by exact z
    refine PT.mono (z53 (sa.pt z')) λ σ H Q=>za λ μ ρ h hr er q=>?_;refine ⟨μ,ρ,h,hr,er,?_⟩;have e1:(E.un .Not a p).evT cl ρ h=(a.evT cl ρ h).bind λ b h1=>.ok (!b) h1:=by
     rw [wx,wx,zp];show ((a.ev cl ρ h).bind λ x h1=>unD .Not x h1).bind toB=_;rw [zp]
     congr 1
     funext d h1
     unfold unD toB;cases d<;>rfl
    rw [e1] at q;cases e2:a.evT cl ρ h with
    | ok b h1 =>
     rw [e2] at q;intro μ1 H1 v x1 x2 x3;have x3':b=v:=x3;subst x3';exact q μ1 H1 (!b) x1 x2 rfl
    | exc c h1=>rw [e2] at q;exact q
    | no=>rw [e2] at q;exact q
  | Invert =>
   have pe:PE X ((E.un .Invert a p).py n) (zB X.K cv 142 Z ((E.un .Invert a p).ev cl)):=by
    refine PE.mono (On (z49 (cv:=cv) .Invert (.inl rfl)) sa.pe) λ σ H Q q=>?_;exact z48 q
   exact 117
  | USub =>
   have pe:PE X ((E.un .USub a p).py n) (zB X.K cv 142 Z ((E.un .USub a p).ev cl)):=by
    refine PE.mono (On (z49 (cv:=cv) .USub (.inr rfl)) sa.pe) λ σ H Q q=>?_;exact z48 q
   exact 117
  | UAdd =>
   have no:∀ {β:Type}{σ:St}{H:Hp}{R:List Addr->Hp->D->β->Prop}{Q:β->Hp->Prop},zB X.K cv R Z ((E.un .UAdd a p).ev cl) σ H Q->zB X.K cv 142 Z (a.ev cl) σ H (λ _ _=>False):=by
    intro β σ H R Q ⟨μ,ρ,h,hr,er,q⟩;refine z9 (m:=a.ev cl) hr er q λ d h1 μ1 H1 x _ e1 r1 er1 qa p1=>?_;unfold unD at p1;cases d<;>exact p1.elim
   have pe:PE X ((E.un .UAdd a p).py n) (zB X.K cv 142 Z ((E.un .UAdd a p).ev cl)):=by
    refine PE.mono (On (r:=λ _ _ _=>False) (λ _ _ _ _ _ _ _ _ _ z=>z.elim) sa.pe) λ σ H Q q=>no q
   exact 117
 | .cmp op a b p,X,Z,k,n,cv,cl,C,h=>by
  have h':(a.ok X.env.scope n=true/\b.ok X.env.scope n=true)/\behindInMarks op (b.py n)=false:=by have h:(_&&_)=true:=h;simpa using h
  have sa:=sE a X Z k n cv cl C h'.1.1;have sb:=sE b X Z k n cv cl C h'.1.2;refine ⟨?_,λ _=>?_⟩
  ·skip;refine PE.mono (W1 (B8 (cv:=cv) C.rm.units op) sa.pe sb.pe h'.2) λ σ H Q q=>?_;exact Vh q
  ·skip;refine PT.mono (W2 (B8 (cv:=cv) C.rm.units op) sa.pe sb.pe h'.2) λ σ H Q=>za λ μ ρ h hr er q=>?_;have q:PostE X.K cv RB μ H (((a.ev cl ρ h).bind λ x h1=>(b.ev cl ρ h1).bind λ y h2=>jx op x y h2).bind toB) Q (Z σ):=q;rw [zp] at q;unfold US;refine z9 (m:=a.ev cl) hr er q λ da h1 μ1 H1 x _ e1 r1 er1 qa p1=>?_;rw [zp] at p1;refine z9 (m:=b.ev cl) r1 er1 p1 λ db h2 μ2 H2 y _ e2 r2 er2 qb p2=>?_;refine ⟨μ2,h2,da,db,Z σ,r2,qa.mono e2,qb,?_⟩;cases e3:jx op da db h2 with
   | ok d h3 =>
    rw [e3] at p2;intro μ3 H3 v x1 x2 x3;unfold Res.bind toB at p2;cases x3 with
    | bl c=>exact ⟨c,rfl,p2 μ3 H3 c x1 x2 rfl⟩
    | _=>exact p2.elim
   | exc c h3=>rw [e3] at p2;exact p2
   | no=>rw [e3] at p2;exact p2
 | .neK neg a b p,X,Z,k,n,cv,cl,C,h=>by
  have h':(a.ok X.env.scope n=true/\b.ok X.env.scope n=true)/\behindInMarks (if neg then .NotEq else .Eq) (b.py n)=false:=by have h:(_&&_)=true:=h;simpa using h
  have sa:=sE a X Z k n cv cl C h'.1.1;have sb:=sE b X Z k n cv cl C h'.1.2;refine ⟨?_,λ _=>?_⟩
  ·skip;refine PE.mono (W1 (B7 (cv:=cv) (by have:=C.rm.un;omega) neg) sa.pe sb.pe h'.2) λ σ H Q q=>?_;exact Vh q
  ·skip;refine PT.mono (W2 (B7 (cv:=cv) (by have:=C.rm.un;omega) neg) sa.pe sb.pe h'.2) λ σ H Q=>za λ μ ρ h hr er q=>?_;have q:PostE X.K cv RB μ H (((a.ev cl ρ h).bind λ x h1=>(b.ev cl ρ h1).bind λ y h2=>YX neg x y h2).bind toB) Q (Z σ):=q;rw [zp] at q;unfold US;refine z9 (m:=a.ev cl) hr er q λ da h1 μ1 H1 x _ e1 r1 er1 qa p1=>?_;rw [zp] at p1;refine z9 (m:=b.ev cl) r1 er1 p1 λ db h2 μ2 H2 y _ e2 r2 er2 qb p2=>?_;refine ⟨μ2,h2,da,db,Z σ,r2,qa.mono e2,qb,?_⟩;cases e3:YX neg da db h2 with
   | ok d h3 =>
    rw [e3] at p2;intro μ3 H3 v x1 x2 x3;unfold Res.bind toB at p2;cases x3 with
    | bl c=>exact ⟨c,rfl,p2 μ3 H3 c x1 x2 rfl⟩
    | _=>exact p2.elim
   | exc c h3=>rw [e3] at p2;exact p2
   | no=>rw [e3] at p2;exact p2
 | .and a b r p,X,Z,k,n,cv,cl,C,h=>by
  have h':((((a.ok X.env.scope n=true/\b.ok X.env.scope n=true)/\r.ok X.env.scope n=true)/\a.okT=true)/\b.okT=true)/\r.okT=true:=by have h:(_&&_)=true:=h;simpa using h
  have sa:=sE a X Z k n cv cl C h'.1.1.1.1.1;have sb:=sE b X Z k n cv cl C h'.1.1.1.1.2;have sr:=sEs r X Z k n cv cl C h'.1.1.1.2;refine ⟨?_,λ _=>?_⟩
  ·skip;refine PE.mono (Oe sa.pe (sr.an b p sb)) λ σ H Q=>za λ μ ρ h hr er q=>?_;refine z9 (m:=a.ev cl) hr er q λ d h1 μ1 H1 x _ e1 r1 er1 qa p1=>?_;unfold tru at p1;cases qa with
   | bl c =>
    refine ⟨c,rfl,?_⟩;cases c with
    | true=>exact yD 158
    | false=>exact yC (p1.here r1 (.bl _))
   | _=>exact p1.elim
  ·skip;refine PT.mono (PW.pt (Oc (sa.pt h'.1.1.2) (sr.anT b p sb h'.1.2 h'.2))) λ σ H Q=>za λ μ ρ h hr er q=>?_;have e0:(E.and a b r p).evT cl ρ h=(a.evT cl ρ h).bind λ c h1=>if c then (b.evT cl ρ h1).bind λ c' h2=>r.evAndT cl ρ c' h2 else .ok false h1:=by
    rw [wx,wx,zp];show ((a.ev cl ρ h).bind λ x h1=>tru x h1 λ c h1=>if c then (b.ev cl ρ h1).bind λ y h2=>r.evAnd cl ρ y h2 else .ok (.bl false) h1).bind toB=_;rw [zp]
    congr 1
    funext d h1
    unfold tru;cases d with
    | bl c =>
     cases c with
     | false=>rfl
     | true =>
      show ((b.ev cl ρ h1).bind λ y h2=>r.evAnd cl ρ y h2).bind toB=(b.evT cl ρ h1).bind λ c' h2=>r.evAndT cl ρ c' h2;rw [wx,zp,zp]
      congr 1
      funext y h2
      exact Vg r ρ y h2
    | _=>rfl
   rw [e0] at q;refine z9 (m:=a.evT cl) (R:=RB) hr er q λ c h1 μ1 H1 x _ e1 r1 er1 qa p1=>?_;have qa':c=x:=qa;subst qa';cases c with
   | true=>exact yD 158
   | false=>exact yC (p1.here r1 rfl)
 | .or a b r p,X,Z,k,n,cv,cl,C,h=>by
  have h':((((a.ok X.env.scope n=true/\b.ok X.env.scope n=true)/\r.ok X.env.scope n=true)/\a.okT=true)/\b.okT=true)/\r.okT=true:=by have h:(_&&_)=true:=h;simpa using h
  have sa:=sE a X Z k n cv cl C h'.1.1.1.1.1;have sb:=sE b X Z k n cv cl C h'.1.1.1.1.2;have sr:=sEs r X Z k n cv cl C h'.1.1.1.2;refine ⟨?_,λ _=>?_⟩
  ·skip;refine PE.mono (z3z sa.pe (sr.orr b p sb)) λ σ H Q=>za λ μ ρ h hr er q=>?_;refine z9 (m:=a.ev cl) hr er q λ d h1 μ1 H1 x _ e1 r1 er1 qa p1=>?_;unfold tru at p1;cases qa with
   | bl c =>
    refine ⟨c,rfl,?_⟩;cases c with
    | true=>exact yD (p1.here r1 (.bl _))
    | false=>exact yC 158
   | _=>exact p1.elim
  ·skip;refine PT.mono (PW.pt (z3y (sa.pt h'.1.1.2) (sr.orT b p sb h'.1.2 h'.2))) λ σ H Q=>za λ μ ρ h hr er q=>?_;have e0:(E.or a b r p).evT cl ρ h=(a.evT cl ρ h).bind λ c h1=>if c then .ok true h1 else (b.evT cl ρ h1).bind λ c' h2=>r.evOrT cl ρ c' h2:=by
    rw [wx,wx,zp];show ((a.ev cl ρ h).bind λ x h1=>tru x h1 λ c h1=>if c then .ok (.bl true) h1 else (b.ev cl ρ h1).bind λ y h2=>r.evOr cl ρ y h2).bind toB=_;rw [zp]
    congr 1
    funext d h1
    unfold tru;cases d with
    | bl c =>
     cases c with
     | true=>rfl
     | false =>
      show ((b.ev cl ρ h1).bind λ y h2=>r.evOr cl ρ y h2).bind toB=(b.evT cl ρ h1).bind λ c' h2=>r.evOrT cl ρ c' h2;rw [wx,zp,zp]
      congr 1
      funext y h2
      exact Ba r ρ y h2
    | _=>rfl
   rw [e0] at q;refine z9 (m:=a.evT cl) (R:=RB) hr er q λ c h1 μ1 H1 x _ e1 r1 er1 qa p1=>?_;have qa':c=x:=qa;subst qa';cases c with
   | true=>exact yD (p1.here r1 rfl)
   | false=>exact yC 158
 | .ite c a b p,X,Z,k,n,cv,cl,C,h=>by
  have h':((c.ok X.env.scope n=true/\a.ok X.env.scope n=true)/\b.ok X.env.scope n=true)/\c.okT=true:=by have h:(_&&_)=true:=h;simpa using h
  have sc:=sE c X Z k n cv cl C h'.1.1.1;have sa:=sE a X Z k n cv cl C h'.1.1.2;have sb:=sE b X Z k n cv cl C h'.1.2;refine ⟨?_,λ z=>nomatch z⟩;refine PE.mono (Of (sc.pt h'.2) sa.pe sb.pe) λ σ H Q=>za λ μ ρ h hr er q=>?_;have e0:((c.ev cl ρ h).bind λ x h1=>tru x h1 λ t h1=>if t then a.ev cl ρ h1 else b.ev cl ρ h1)=(c.evT cl ρ h).bind λ t h1=>if t then a.ev cl ρ h1 else b.ev cl ρ h1:=by
   rw [wx,zp]
   congr 1
   funext d h1
   unfold tru toB;cases d<;>rfl
  have q:PostE X.K cv 142 μ H ((c.ev cl ρ h).bind λ x h1=>tru x h1 λ t h1=>if t then a.ev cl ρ h1 else b.ev cl ρ h1) Q (Z σ):=q;rw [e0] at q;refine z9 (m:=c.evT cl) (R:=RB) hr er q λ t h1 μ1 H1 x _ e1 r1 er1 qa p1=>?_;have qa':t=x:=qa;subst qa';cases t with
  | true=>exact yD 158
  | false=>exact yC 158
 | .call f a r p0 p,X,Z,k,n,cv,cl,C,h=>by
  have h':((f<n.F.length/\gOf X.env.scope (n.F.getD f "")=true)/\a.ok X.env.scope n=true)/\r.ok X.env.scope n=true:=by have h:(_&&_)=true:=h;simp only [Y0h,decide_eq_true_eq] at h;exact ⟨⟨⟨h.1.1.1.1,h.1.1.2⟩,h.1.2⟩,h.2⟩
  have hnc:(n.G.any λ q=>decide (q.2=Cn.cls f))=false:=by have h:(_&&_)=true:=h;simp only [Y0h,Bool.not_eq_true'] at h;exact h.1.1.1.2
  have sa:=sE a X Z k n cv cl C h'.1.2;have sr:=sEs r X Z k n cv cl C h'.2;obtain ⟨hdb,fa,fd,ps,hm,_,hk,⟨hb,_⟩,hl,F⟩:=C.fn f _ (getD_some (d:=("":Str)) h'.1.1.1) hnc;have pe:PE X ((E.call f a r p0 p).py n) (zB X.K cv 142 Z ((E.call f a r p0 p).ev cl)):=by
   refine PE.mono (Qp F (C.rm.mono 109) (C.gl h'.1.1.2) hm hk hb .nil C.th (zG sa.pe sr.pa (zc a _ _)) hdb (zc a _ _) (wy r p X.env)) λ σ H Q=>za λ μ ρ h hr er q=>?_;unfold YK UT;refine z9 (m:=a.ev cl) hr er q λ da h1 μ1 H1 x _ e1 r1 er1 qa p1=>?_;refine z9 (m:=r.ev cl) r1 er1 p1 λ ds h2 μ2 H2 xs _ e2 r2 er2 qb p2=>?_;show spI X.K cv ps.length (cl f) ((x::xs)++[]) H2 Q λ C _ H'=>Z σ C H';rw [Y13];have z:=hl (da::ds) h2 λ z=>by rw [z] at p2;exact p2
   exact ⟨by rw [Y08,<- qb.length,<- Y08 (a:=da)];exact z,μ2,h2,da::ds,r2,.cons (qa.mono e2) qb,p2⟩
  exact 117
 | .callD f a r p0 p,X,Z,k,n,cv,cl,C,h=>by
  have h':((f<n.F.length/\gOf X.env.scope (n.F.getD f "")=true)/\a.ok X.env.scope n=true)/\r.ok X.env.scope n=true:=by have h:(_&&_)=true:=h;simp only [Y0h,decide_eq_true_eq] at h;exact ⟨⟨⟨h.1.1.1.1.1,h.1.1.1.2⟩,h.1.1.2⟩,h.1.2⟩
  have hdf:(n.F.getD f "",Cn.dfl)∈n.G:=by have h:(_&&_)=true:=h;simp only [Y0h,decide_eq_true_eq] at h;exact h.2
  have hnc:(n.G.any λ q=>decide (q.2=Cn.cls f))=false:=by have h:(_&&_)=true:=h;simp only [Y0h,Bool.not_eq_true'] at h;exact h.1.1.1.1.2
  have sa:=sE a X Z k n cv cl C h'.1.2;have sr:=sEs r X Z k n cv cl C h'.2;obtain ⟨hdb,fa,fd,ps,hm,_,hk,⟨_,hb⟩,hl,F⟩:=C.fn f _ (getD_some (d:=("":Str)) h'.1.1.1) hnc;have hb:=hb hdf;have pe:PE X ((E.callD f a r p0 p).py n) (zB X.K cv 142 Z ((E.callD f a r p0 p).ev cl)):=by
   refine PE.mono (Qp F (C.rm.mono 109) (C.gl h'.1.1.2) hm hk hb (dvs:=[.non]) (.cons (show RelV .non .none from rfl) .nil) C.th (zG sa.pe sr.pa (zc a _ _)) hdb (zc a _ _) (wy r p X.env)) λ σ H Q=>za λ μ ρ h hr er q=>?_;unfold YK UT;refine z9 (m:=a.ev cl) hr er q λ da h1 μ1 H1 x _ e1 r1 er1 qa p1=>?_;refine z9 (m:=r.ev cl) r1 er1 p1 λ ds h2 μ2 H2 xs _ e2 r2 er2 qb p2=>?_;show spI X.K cv ps.length (cl f) ((x::xs)++[.non]) H2 Q λ C _ H'=>Z σ C H';have z:=hl (da::ds++[.non]) h2 λ z=>by rw [z] at p2;exact p2
   have rr:Reps X.K μ2 H2 (da::ds++[.non]) ((x::xs)++[.non]):=Reps.append (.cons (qa.mono e2) qb) (.cons .non .nil);exact ⟨by rw [<- rr.length];exact z,μ2,h2,da::ds++[.non],r2,rr,p2⟩
  exact 117
 | .fld a f p,X,Z,k,n,cv,cl,C,h=>by
  have h':a.ok X.env.scope n=true/\f∈jm:=by have h:(_&&_)=true:=h;simpa using h
  have sa:=sE a X Z k n cv cl C h'.1;have pe:PE X ((E.fld a f p).py n) (zB X.K cv 142 Z ((E.fld a f p).ev cl)):=by
   refine PE.mono (z5l sa.pe (YZ a f _ _)) λ σ H Q=>za λ μ ρ h hr er q=>?_;refine z9 (m:=a.ev cl) hr er q λ da h1 μ1 H1 x _ e1 r1 er1 qa p1=>?_;unfold J6 at p1;cases qa with
   | @loc nn b m =>
    cases e2:h1[nn]? with
    | none=>simp only [e2] at p1;exact p1.elim
    | some o =>
     have q:=r1.obj nn b o m e2;cases o with
     | lst _=>simp only [e2] at p1;exact p1.elim
     | dK _=>simp only [e2] at p1;exact p1.elim
     | fK _=>simp only [e2] at p1;exact p1.elim
     | dT _=>simp only [e2] at p1;exact p1.elim
     | obj y fs =>
      simp only [e2] at p1;obtain ⟨Cc,dx,vs,q1,q2,q3⟩:=q;cases e3:fs.lookup f with
      | none=>rw [e3] at p1;exact p1.elim
      | some d =>
       rw [e3] at p1;obtain ⟨v,e4,e5⟩:=q3.get e3;exact ⟨b,Cc,dx,vs,v,rfl,q1,q2.cl,q2.na f h'.2,e4,p1.here r1 e5⟩
   | _=>exact p1.elim
  exact 117
 | .mk i x a r p0 p,X,Z,k,n,cv,cl,C,h=>by
  have h':((gOf X.env.scope x=true/\(x,Cn.cls i)∈n.G)/\a.ok X.env.scope n=true)/\r.ok X.env.scope n=true:=by have h:(_&&_)=true:=h;simpa using h
  have sa:=sE a X Z k n cv cl C h'.1.2;have sr:=sEs r X Z k n cv cl C h'.2;obtain ⟨hdb,Ca,f,fd,ps,hm,M,CN,hb,hl,F⟩:=C.mc x i h'.1.1.2;have pe:PE X ((E.mk i x a r p0 p).py n) (zB X.K cv 142 Z ((E.mk i x a r p0 p).ev cl)):=by
   refine PE.mono (OO M F C.rm (C.gl h'.1.1.1) hm hb C.th (zG sa.pe sr.pa (zc a _ _)) hdb (zc a _ _) (wy r p X.env)) λ σ H Q=>za λ μ ρ h hr er q=>?_;unfold ON UT;refine z9 (m:=a.ev cl) hr er q λ da h1 μ1 H1 y _ e1 r1 er1 qa p1=>?_;refine z9 (m:=r.ev cl) r1 er1 p1 λ ds h2 μ2 H2 ys _ e2 r2 er2 qb p2=>?_;intro b dx hb1 hb2 ne;have e3:Ext X.K μ2 H2 μ2 (upd H2 dx (.own b)):=zq hb2;have hb3:upd H2 dx (.own b) b=none:=by rw [zl (Ne.symm ne)];exact hb1
   have r3:HR X.K μ2 h2 (upd H2 dx (.own b)):=r2.tup hb2;have nb:b∉μ2:=r3.fresh hb3;have r4:=r3.alloc (o:=.obj x []) (u:=.ins Ca dx []) hb3 nb λ μ' _=>⟨Ca,dx,[],zw,CN,.nil⟩;have e4:Ext X.K μ2 H2 (μ2++[b]) (upd (upd H2 dx (.own b)) b (.ins Ca dx [])):=e3.trans ((zq hb3).add hb3);have lb:(μ2++[b])[h2.length]?=some b:=by rw [<- r2.len];simp
   have ne0:cl i (.loc h2.length::da::ds) (h2++[.obj x []])≠.no:=λ z=>by rw [z] at p2;exact p2
   have z:=hl _ _ ne0;refine ⟨by rw [Y08,Y08,<- qb.length,<- Y08 (a:=da),<- Y08 (a:=D.loc h2.length)];exact z,μ2++[b],h2++[.obj x []],.loc h2.length::da::ds,r4,.cons (.loc lb) (.cons ((qa.mono e2).mono e4) (qb.mono e4)),?_⟩;cases ec:cl i (.loc h2.length::da::ds) (h2++[.obj x []]) with
   | no=>exact absurd ec ne0
   | exc c h3 =>
    rw [ec] at p2;exact λ μ3 H3 e5 r5=>p2 μ3 H3 (e4.trans e5) r5
   | ok d h3 =>
    rw [ec] at p2;cases d with
    | non =>
     intro μ3 H3 v e5 r5 q5;cases q5;exact ⟨rfl,p2 μ3 H3 (.ref b) (e4.trans e5) r5 (.loc (e5.loc _ _ lb))⟩
    | _=>exact p2.elim
  exact 117
 | .len a p0 p,X,Z,k,n,cv,cl,C,h=>by
  have h':gOf X.env.scope "len"=true/\a.ok X.env.scope n=true:=by have h:(_&&_)=true:=h;simpa using h
  have sa:=sE a X Z k n cv cl C h'.2;have pe:PE X ((E.len a p0 p).py n) (zB X.K cv 142 Z ((E.len a p0 p).ev cl)):=by
   refine PE.mono (jP (GF (cv:=cv)) (C.gl h'.1) (C.bm _ 108) PySem.boot_len 164 108 108 (zc a _ _) rfl) λ σ H Q=>za λ μ ρ h hr er q=>?_;refine z9 (m:=a.ev cl) hr er q λ da h1 μ1 H1 x _ e1 r1 er1 qa p1=>?_;exact ⟨x,rfl,μ1,h1,da,_,r1,qa,p1⟩
  exact 117
 | .isi T a p0 p1 p,X,Z,k,n,cv,cl,C,h=>by
  have h':((gOf X.env.scope "isinstance"=true/\gOf X.env.scope (qx T)=true)/\T<6)/\a.ok X.env.scope n=true:=by have h:(_&&_)=true:=h;simpa using h
  have sa:=sE a X Z k n cv cl C h'.2;obtain ⟨b1,b2,b3,b4⟩:=z6d T h'.1.2;have pe:PE X ((E.isi T a p0 p1 p).py n) (zB X.K cv 142 Z ((E.isi T a p0 p1 p).ev cl)):=by
   refine PE.mono (jP (Bb (cv:=cv) T h'.1.2) (C.gl h'.1.1.1) (C.bm _ 108) PyProof.Rows.boot_isinstance (zG sa.pe (zG (z13 (v:=.ty (Va T)) (C.gl h'.1.1.2) (C.bm _ b4) b1 rfl b2 b3) zY) (zc a _ _)) 108 108 (zc a _ _) rfl) λ σ H Q=>za λ μ ρ h hr er q=>?_;refine z9 (m:=a.ev cl) hr er q λ da h1 μ1 H1 x _ e1 r1 er1 qa p1=>?_;exact ⟨x,rfl,μ1,h1,da,_,r1,qa,p1⟩
  exact 117
 | .sub a i p,X,Z,k,n,cv,cl,C,h=>by
  have h':a.ok X.env.scope n=true/\i.ok X.env.scope n=true:=by have h:(_&&_)=true:=h;simpa using h
  have sa:=sE a X Z k n cv cl C h'.1;have sb:=sE i X Z k n cv cl C h'.2;have pe:PE X ((E.sub a i p).py n) (zB X.K cv 142 Z ((E.sub a i p).ev cl)):=by
   refine PE.mono (z41 (z2h (cv:=cv) (z43 C.rm)) sa.pe sb.pe (QH i)) λ σ H Q q=>?_;exact Vh q
  exact 117
 | .tup es p,X,Z,k,n,cv,cl,C,h=>by
  have h':es.ok X.env.scope n=true:=by exact h
  have sr:=sEs es X Z k n cv cl C h';have pe:PE X ((E.tup es p).py n) (zB X.K cv 142 Z ((E.tup es p).ev cl)):=by
   refine PE.mono (z5n sr.pa) λ σ H Q=>za λ μ ρ h hr er q=>?_;refine z9 (m:=es.ev cl) hr er q λ ds h1 μ1 H1 xs _ e1 r1 er1 qa p1=>?_;split at p1
   ·rename_i c;refine ⟨by rw [<- qa.length];exact Y2g (Jq c),λ a ha=>?_⟩;exact p1 μ1 _ 155 (zq ha) (r1.tup ha) (.tup (SqT.of zw) (qa.mono (zq ha)))
   ·exact p1.elim
  exact 117
 | .ofL l,X,Z,k,n,cv,cl,C,h=>by
  have sl:=sL l X Z k n cv cl C (by exact h);refine ⟨?_,λ z=>nomatch z⟩;refine PE.mono sl λ σ H Q=>za λ μ ρ h hr er q=>?_;refine jn (m:=l.ev cl) Ext.refl hr er q (λ _ _ z=>z) λ ds h1 μ1 H1 x _ e1 r1 er1 qa p1=>?_;obtain ⟨p,vs,rfl,g1,g2,g3,g4⟩:=qa;refine p1 (μ1++[p]) H1 _ (e1.add g4) (r1.add g3 λ μ' gr=>⟨vs,g1,g2.mono' gr⟩) (.loc ?_);rw [<- r1.len,Y0m 169,Y1q];rfl
 | .tupL l p0 p,X,Z,k,n,cv,cl,C,h=>by
  have h':gOf X.env.scope "tuple"=true/\l.ok X.env.scope n=true:=by have h:(_&&_)=true:=h;simpa using h
  have sl:=sL l X Z k n cv cl C h'.2;have pe:PE X ((E.tupL l p0 p).py n) (zB X.K cv 142 Z ((E.tupL l p0 p).ev cl)):=by
   refine PE.mono (jA qk (C.gl h'.1) (C.bm _ 108) PyProof.Rows.boot_tuple (zG sl zY (L.py_star l _ _)) 108 108 (L.py_star l _ _) rfl) λ σ H Q=>za λ μ ρ h hr er q=>?_;refine jn (m:=l.ev cl) Ext.refl hr er q (λ _ _ z=>z) λ ds h1 μ1 H1 x _ e1 r1 er1 qa p1=>?_;obtain ⟨b,vs,rfl,g1,g2,g3,g4⟩:=qa;exact ⟨b,vs,rfl,.inl ⟨SqL.of g1,λ a ha=>p1 μ1 _ _ (e1.trans (zq ha)) (r1.tup ha) (.tup (SqT.of zw) (g2.mono (zq ha)))⟩⟩
  exact 117
 | .tupE e p0 p,X,Z,k,n,cv,cl,C,h=>by
  have h':gOf X.env.scope "tuple"=true/\e.ok X.env.scope n=true:=by have h:(_&&_)=true:=h;simpa using h
  have se:=sE e X Z k n cv cl C h'.2;have pe:PE X ((E.tupE e p0 p).py n) (zB X.K cv 142 Z ((E.tupE e p0 p).ev cl)):=by
   refine PE.mono (jA (GG (cv:=cv)) (C.gl h'.1) (C.bm _ 108) PyProof.Rows.boot_tuple (zG se.pe zY (zc e _ _)) 108 108 (zc e _ _) rfl) λ σ H Q=>za λ μ ρ h hr er q=>?_;refine z9 (m:=e.ev cl) hr er q λ da h1 μ1 H1 x _ e1 r1 er1 qa p1=>?_;exact ⟨x,rfl,μ1,h1,da,_,r1,qa,p1⟩
  exact 117
 | .listE e p0 p,X,Z,k,n,cv,cl,C,h=>by
  have h':gOf X.env.scope "list"=true/\e.ok X.env.scope n=true:=by have h:(_&&_)=true:=h;simpa using h
  have se:=sE e X Z k n cv cl C h'.2;have pe:PE X ((E.listE e p0 p).py n) (zB X.K cv 142 Z ((E.listE e p0 p).ev cl)):=by
   refine PE.mono (jA (U4 (cv:=cv)) (C.gl h'.1) (C.bm _ 108) PyProof.Rows.boot_list (zG se.pe zY (zc e _ _)) 108 108 (zc e _ _) rfl) λ σ H Q=>za λ μ ρ h hr er q=>?_;refine z9 (m:=e.ev cl) hr er q λ da h1 μ1 H1 x _ e1 r1 er1 qa p1=>?_;exact ⟨x,rfl,μ1,h1,da,_,r1,qa,p1⟩
  exact 117
 | .dicP e p0 p,X,Z,k,n,cv,cl,C,h=>by
  have h':gOf X.env.scope "dict"=true/\e.ok X.env.scope n=true:=by have h:(_&&_)=true:=h;simpa using h
  have se:=sE e X Z k n cv cl C h'.2;have pe:PE X ((E.dicP e p0 p).py n) (zB X.K cv 142 Z ((E.dicP e p0 p).ev cl)):=by
   refine PE.mono (jA (U6 (cv:=cv) C.cm) (C.gl h'.1) (C.bm _ 108) rfl (zG se.pe zY (zc e _ _)) 108 108 (zc e _ _) rfl) λ σ H Q=>za λ μ ρ h hr er q=>?_;refine z9 (m:=e.ev cl) hr er q λ da h1 μ1 H1 x _ e1 r1 er1 qa p1=>?_;exact ⟨x,rfl,μ1,h1,da,_,r1,qa,p1⟩
  exact 117
 | .cut a lo hi p2 p,X,Z,k,n,cv,cl,C,h=>by
  have h':(a.ok X.env.scope n=true/\lo.ok X.env.scope n=true)/\hi.ok X.env.scope n=true:=by have h:(_&&_)=true:=h;simpa using h
  have sa:=sE a X Z k n cv cl C h'.1.1;have sl:=sEo lo X Z k n cv cl C h'.1.2;have sh:=sEo hi X Z k n cv cl C h'.2;have pe:PE X ((E.cut a lo hi p2 p).py n) (zB X.K cv 142 Z ((E.cut a lo hi p2 p).ev cl)):=by
   refine PE.mono (Ou (z2m (cv:=cv)) sa.pe sl sh) λ σ H Q=>za λ μ ρ h hr er q=>?_;refine z9 (m:=a.ev cl) hr er q λ da h1 μ1 H1 x _ e1 r1 er1 qa p1=>?_;refine z9 (m:=lo.ev cl) (R:=λ _ _ a b=>a=b) r1 er1 p1 λ l h2 μ2 H2 l' _ e2 r2 er2 ql p2=>?_;have ql':l=l':=ql;subst ql';refine z9 (m:=hi.ev cl) (R:=λ _ _ a b=>a=b) r2 er2 p2 λ u h3 μ3 H3 u' _ e3 r3 er3 qu p3=>?_;have qu':u=u':=qu;subst qu';exact ⟨μ3,h3,da,_,r3,(qa.mono e2).mono e3,p3⟩
  exact 117
 | .cutS a lo hi st p2 p,X,Z,k,n,cv,cl,C,h=>by
  have h':((a.ok X.env.scope n=true/\lo.ok X.env.scope n=true)/\hi.ok X.env.scope n=true)/\st.ok X.env.scope n=true:=by have h:(_&&_)=true:=h;simpa using h
  have sa:=sE a X Z k n cv cl C h'.1.1.1;have sl:=sEo lo X Z k n cv cl C h'.1.1.2;have sh:=sEo hi X Z k n cv cl C h'.1.2;have ss:=sE st X Z k n cv cl C h'.2;have pe:PE X ((E.cutS a lo hi st p2 p).py n) (zB X.K cv 142 Z ((E.cutS a lo hi st p2 p).ev cl)):=by
   refine PE.mono (z1x sa.pe sl sh ss.pe) λ σ H Q=>za λ μ ρ h hr er q=>?_;refine z9 (m:=a.ev cl) hr er q λ da h1 μ1 H1 x _ e1 r1 er1 qa p1=>?_;refine z9 (m:=lo.ev cl) (R:=λ _ _ a b=>a=b) r1 er1 p1 λ l h2 μ2 H2 l' _ e2 r2 er2 ql p2=>?_;have ql':l=l':=ql;subst ql';refine z9 (m:=hi.ev cl) (R:=λ _ _ a b=>a=b) r2 er2 p2 λ u h3 μ3 H3 u' _ e3 r3 er3 qu p3=>?_;have qu':u=u':=qu;subst qu';refine z9 (m:=st.ev cl) r3 er3 p3 λ dy h4 μ4 H4 y _ e4 r4 er4 qy p4=>?_;have qa':=((qa.mono e2).mono e3).mono e4;unfold Vb at p4;cases qy with
   | int kk =>
    simp only at p4;split at p4
    ·rename_i c;cases qa' with
     | fl g1 g2=>exact ⟨kk,_,_,rfl,c,rfl,g1.sq,λ b hb=>p4 (μ4++[b]) _ _ ((zq hb).add hb) (r4.alloc hb (r4.fresh hb) λ μ' g=>⟨_,zw,((g2.mono (zq hb)).mono' g).cutS _ _ _⟩) (.loc (by rw [<- r4.len];simp))⟩
     | @loc nn b m =>
      cases e5:PI.rd h4 nn with
      | none=>simp only [e5] at p4;exact p4.elim
      | some ds =>
       simp only [e5] at p4;obtain ⟨vs,g1,g2⟩:=r4.rd e5 m;exact ⟨kk,_,_,rfl,c,rfl,g1,λ b hb=>p4 (μ4++[b]) _ _ ((zq hb).add hb) (r4.alloc hb (r4.fresh hb) λ μ' g=>⟨_,zw,((g2.mono (zq hb)).mono' g).cutS _ _ _⟩) (.loc (by rw [<- r4.len];simp))⟩
     | _=>exact p4.elim
    ·exact p4.elim
   | _=>exact p4.elim
  exact 117
 | .dic p,X,Z,k,n,cv,cl,C,h=>by
  refine ⟨?_,λ z=>nomatch z⟩;refine PE.mono OE λ σ H Q=>za λ μ ρ h hr er q=>?_;intro b hb;refine q _ _ _ ((zq hb).add hb) (hr.alloc hb (hr.fresh hb) λ μ' g=>⟨_,zw,.nil⟩) (.loc ?_);rw [<- hr.len,Y0m 169,Y1q];rfl
 | .m0 m o p1 p,X,Z,k,n,cv,cl,C,h=>by
  have h':o.ok X.env.scope n=true/\p1.endLine=p.line:=by have h:(_&&_)=true:=h;simpa using h
  have so:=sE o X Z k n cv cl C h'.1;have hl:(p1.endLine==p.line)=true:=beq_iff_eq.mpr h'.2;have pe:PE X ((E.m0 m o p1 p).py n) (zB X.K cv 142 Z ((E.m0 m o p1 p).ev cl)):=by
   cases m with
   | pop =>
    refine PE.mono (Oz Y2j PySem.F.slot_list_pop PySem.F.type_list_pop (z2i (cv:=cv)) so.pe (wB o _ _) hl) λ σ H Q=>za λ μ ρ h hr er q=>?_;refine z9 (m:=o.ev cl) hr er q λ da h1 μ1 H1 x _ e1 r1 er1 qa p1=>?_;exact ⟨z4b r1 qa λ z=>by rw [z] at p1;exact p1,rfl,μ1,h1,da,_,r1,qa,p1⟩
   | reverse =>
    refine PE.mono (Oz Y2j PySem.F.slot_list_reverse PySem.F.type_list_reverse (QI (cv:=cv)) so.pe (wB o _ _) hl) λ σ H Q=>za λ μ ρ h hr er q=>?_;refine z9 (m:=o.ev cl) hr er q λ da h1 μ1 H1 x _ e1 r1 er1 qa p1=>?_;exact ⟨z4b r1 qa λ z=>by rw [z] at p1;exact p1,rfl,μ1,h1,da,_,r1,qa,p1⟩
  exact 117
 | .m1 m o a p1 p,X,Z,k,n,cv,cl,C,h=>by
  have h':(o.ok X.env.scope n=true/\a.ok X.env.scope n=true)/\p1.endLine=p.line:=by have h:(_&&_)=true:=h;simpa using h
  have so:=sE o X Z k n cv cl C h'.1.1;have sa:=sE a X Z k n cv cl C h'.1.2;have hl:(p1.endLine==p.line)=true:=beq_iff_eq.mpr h'.2;have pe:PE X ((E.m1 m o a p1 p).py n) (zB X.K cv 142 Z ((E.m1 m o a p1 p).ev cl)):=by
   cases m with
   | append =>
    refine PE.mono (z42 Y2j PySem.F.slot_list_append PySem.F.type_list_append (U0 (cv:=cv)) so.pe 164 (wB o _ _) (Vm a _ _) hl (zc a _ _) rfl) λ σ H Q=>za λ μ ρ h hr er q=>?_;refine z9 (m:=o.ev cl) hr er q λ da h1 μ1 H1 x _ e1 r1 er1 qa p1=>?_;obtain ⟨ty,p1⟩:=Bk r1 qa p1;refine ⟨ty,?_⟩;refine z9 (m:=a.ev cl) r1 er1 p1 λ db h2 μ2 H2 y _ e2 r2 er2 qb p2=>?_;exact ⟨y,rfl,μ2,h2,da,db,_,r2,qa.mono e2,qb,p2⟩
   | extend =>
    refine PE.mono (z42 Y2j PySem.F.slot_list_extend PySem.F.type_list_extend (U2 (cv:=cv)) so.pe 164 (wB o _ _) (Vm a _ _) hl (zc a _ _) rfl) λ σ H Q=>za λ μ ρ h hr er q=>?_;refine z9 (m:=o.ev cl) hr er q λ da h1 μ1 H1 x _ e1 r1 er1 qa p1=>?_;obtain ⟨ty,p1⟩:=Bk r1 qa p1;refine ⟨ty,?_⟩;refine z9 (m:=a.ev cl) r1 er1 p1 λ db h2 μ2 H2 y _ e2 r2 er2 qb p2=>?_;exact ⟨y,rfl,μ2,h2,da,db,_,r2,qa.mono e2,qb,p2⟩
  exact 117
 | .gsub x kvs i p0 p,X,Z,k,n,cv,cl,C,h=>by
  have h':(gOf X.env.scope x=true/\(x,Cn.dic kvs)∈n.G)/\i.ok X.env.scope n=true:=by have h:(_&&_)=true:=h;simpa using h
  obtain ⟨hd,v,hm,ok⟩:=C.gc x _ h'.1.2;have si:=sE i X Z k n cv cl C h'.2;have pe:PE X ((E.gsub x kvs i p0 p).py n) (zB X.K cv 142 Z ((E.gsub x kvs i p0 p).ev cl)):=by
   have ok':=ok;obtain ⟨a,o,es,ep,vs,rfl,_⟩:=ok';refine PE.mono (z41 (z68 (kvs:=kvs)) (z12 (v:=.ref a) (C.gl h'.1.1) hm rfl hd) si.pe (QH i)) λ σ H Q=>za λ μ ρ h hr er q=>?_;refine z9 (m:=i.ev cl) hr er q λ d h1 μ1 H1 y _ e1 r1 er1 qa p1=>?_;unfold z26 at p1;cases qa with
   | str kk =>
    simp only at p1;split at p1
    ·rename_i xs l;split at p1
     ·exact p1.elim
     ·rename_i nf;exact ⟨a,kk,xs,rfl,rfl,ok,l,λ b tk=>p1.here r1 (tk.rep ((Bool.not_eq_true _).mp nf))⟩
    ·exact p1.elim
   | _=>exact p1.elim
  exact 117
 | .c1 f a p0 p,X,Z,k,n,cv,cl,C,h=>by
  have h':gOf X.env.scope f.name=true/\a.ok X.env.scope n=true:=by have h:(_&&_)=true:=h;simpa using h
  have sa:=sE a X Z k n cv cl C h'.2;have fin:∀ {σ H Q},zB X.K cv 142 Z ((E.c1 f a p0 p).ev cl) σ H Q->zB X.K cv 142 Z (a.ev cl) σ H λ x H1=>∃ y,[x]=[y]/\r1 X.K cv (c1D f) y H1 Q:=λ {σ H Q} ⟨μ,ρ,h,hr,er,q⟩=>by
   refine z9 (m:=a.ev cl) hr er q λ da h1 μ1 H1 x _ e1 r1 er1 qa p1=>?_;exact ⟨x,rfl,μ1,h1,da,_,r1,qa,p1⟩
  have pe:PE X ((E.c1 f a p0 p).py n) (zB X.K cv 142 Z ((E.c1 f a p0 p).ev cl)):=by
   cases f with
   | str=>exact PE.mono (jA (GH (cv:=cv)) (C.gl h'.1) (C.bm _ 108) PyProof.Rows.boot_str 164 108 108 (zc a _ _) rfl) λ σ H Q q=>fin q
   | int=>exact PE.mono (jA (GI (cv:=cv)) (C.gl h'.1) (C.bm _ 108) PyProof.Rows.boot_int 164 108 108 (zc a _ _) rfl) λ σ H Q q=>fin q
   | all=>exact PE.mono (jP (GK (cv:=cv) C.cm) (C.gl h'.1) (C.bm _ 108) PyProof.Rows.boot_all 164 108 108 (zc a _ _) rfl) λ σ H Q q=>fin q
   | any=>exact PE.mono (jP (GL (cv:=cv) C.cm) (C.gl h'.1) (C.bm _ 108) PyProof.Rows.boot_any 164 108 108 (zc a _ _) rfl) λ σ H Q q=>fin q
   | sum=>exact PE.mono (jP (GM (cv:=cv) C.cm) (C.gl h'.1) (C.bm _ 108) PyProof.Rows.boot_sum 164 108 108 (zc a _ _) rfl) λ σ H Q q=>fin q
   | srt=>exact PE.mono (jP (GN (cv:=cv)) (C.gl h'.1) (C.bm _ 108) PyProof.Rows.boot_sorted 164 108 108 (zc a _ _) rfl) λ σ H Q q=>fin q
   | lks=>exact PE.mono (jA (GO (cv:=cv) C.cm) (C.gl h'.1) (C.bm _ 108) PyProof.Rows.boot_list 164 108 108 (zc a _ _) rfl) λ σ H Q q=>fin q
   | abs=>exact PE.mono (jP (GJ (cv:=cv)) (C.gl h'.1) (C.bm _ 108) PyProof.Rows.boot_abs 164 108 108 (zc a _ _) rfl) λ σ H Q q=>fin q
  exact 117
 | .sset e p0 p1 p2 p,X,Z,k,n,cv,cl,C,h=>by
  have h':(gOf X.env.scope "sorted"=true/\gOf X.env.scope "set"=true)/\e.ok X.env.scope n=true:=by have h:(_&&_)=true:=h;simpa using h
  have se:=sE e X Z k n cv cl C h'.2;have pe:PE X ((E.sset e p0 p1 p2 p).py n) (zB X.K cv 142 Z ((E.sset e p0 p1 p2 p).ev cl)):=by
   refine PE.mono (z24 C.cm (C.gl h'.1.2) (C.bm _ 108) (C.gl h'.1.1) (C.bm _ 108) (zG se.pe zY (zc e _ _)) (zc e _ _)) λ σ H Q=>za λ μ ρ h hr er q=>?_;refine z9 (m:=e.ev cl) hr er q λ d h1 μ1 H1 x _ e1 r1 er1 qa p1=>?_;exact z2t r1 qa p1
  exact 117
 | .cmpN neg a p1 p,X,Z,k,n,cv,cl,C,h=>by
  have h':a.ok X.env.scope n=true:=by exact h
  have sa:=sE a X Z k n cv cl C h';have hu:X.A.units<cLine:=by have:=C.rm.units;omega
  have hop:OpR X (compareOp (if neg then .NotEq else .Eq)) (z1r X.K neg):=by cases neg with | true=>exact OM hu | false=>exact OL hu
  have hb:behindInMarks (if neg then .NotEq else .Eq) (.List [] p1)=false:=by cases neg<;>rfl
  have fin:∀ {μ1:XV}{h1:Hh}{H1:Hp}{x:V}{da:D}{Q:VK}{Z1:Value->Hp->Prop},HR X.K μ1 h1 H1->Rep X.K μ1 H1 da x->PostE X.K cv 142 μ1 H1 (Zo neg da h1) Q Z1->∀ b,H1 b=none->z1r X.K neg x (.ref b) (upd H1 b (.lst [])) Q:=λ {μ1 h1 H1 x da Q Z1} r1 qa p1 b hb'=>by
   unfold Zo at p1;have q2:=SqL.of (K:=X.K) (zw (H:=H1) (a:=b) (o:=.lst []));cases qa with
   | @fl ds vs a f r =>
    refine ⟨a,b,vs,rfl,rfl,((zq (μ:=μ1) hb').fz _ _ f).sq,q2,?_⟩;have z:=p1 μ1 (upd H1 b (.lst [])) _ (zq hb') (r1.tup hb') (.bl _);rw [r.isEmpty] at z;exact z
   | @loc nn a m =>
    cases e2:PI.rd h1 nn with
    | none=>simp only [e2] at p1;exact p1.elim
    | some ds =>
     simp only [e2] at p1;obtain ⟨vs,q1,r⟩:=qf r1 m e2;refine ⟨a,b,vs,rfl,rfl,SqL.of (by rw [zl (by intro z;rw [z,hb'] at q1;cases q1)];exact q1),q2,?_⟩;have z:=p1 μ1 (upd H1 b (.lst [])) _ (zq hb') (r1.tup hb') (.bl _);rw [r.isEmpty] at z;exact z
   | _=>exact p1.elim
  have pe:PE X ((E.cmpN neg a p1 p).py n) (zB X.K cv 142 Z ((E.cmpN neg a p1 p).ev cl)):=by
   refine PE.mono (W1 hop sa.pe (YC zY) hb) λ σ H Q=>za λ μ ρ h hr er q=>?_;refine z9 (m:=a.ev cl) hr er q λ da h1 μ1 H1 x _ e1 r1 er1 qa p1=>?_;exact ⟨Y1h _,λ b hb'=>fin r1 qa p1 b hb'⟩
  refine ⟨pe,λ _=>?_⟩;refine PT.mono (W2 hop sa.pe (YC zY) hb) λ σ H Q=>za λ μ ρ h hr er q=>?_;have q:PostE X.K cv RB μ H (((a.ev cl ρ h).bind λ x h1=>Zo neg x h1).bind toB) Q (Z σ):=q;rw [zp] at q;unfold US;refine z9 (m:=a.ev cl) hr er q λ da h1 μ1 H1 x _ e1 r1 er1 qa p1=>?_;refine ⟨Y1h _,λ b hb'=>fin (Z1:=Z σ) r1 qa ?_ b hb'⟩;cases e3:Zo neg da h1 with
  | ok d h3 =>
   rw [e3] at p1;intro μ3 H3 v x1 x2 x3;unfold Res.bind toB at p1;cases x3 with
   | bl c=>exact ⟨c,rfl,p1 μ3 H3 c x1 x2 rfl⟩
   | _=>exact p1.elim
  | exc c h3=>rw [e3] at p1;exact p1
  | no=>rw [e3] at p1;exact p1
theorem sEo:∀ (e:Eo) (X:Cx) (Z:ZK) (k:Nat) (n:Nm) (cv:XZ) (cl:107),Kx X Z k n cv cl->e.ok X.env.scope n=true->PO X (e.py n) (zB X.K cv (λ _ _ a b=>a=b) Z (e.ev cl))
 | .none,X,Z,k,n,cv,cl,C,h=>by
  refine PO.mono z1g λ σ H Q=>za λ μ ρ h hr er q=>?_;exact q.here hr rfl
 | .some e,X,Z,k,n,cv,cl,C,h=>by
  have se:=sE e X Z k n cv cl C (by exact h);refine PO.mono (z1h se.pe) λ σ H Q=>za λ μ ρ h hr er q=>?_;refine z9 (m:=e.ev cl) hr er q λ d h1 μ1 H1 x _ e1 r1 er1 qa p1=>?_;unfold z8r at p1;cases qa with
  | int i=>exact ⟨i,rfl,p1.here r1 rfl⟩
  | _=>exact p1.elim
theorem sL:∀ (l:L) (X:Cx) (Z:ZK) (k:Nat) (n:Nm) (cv:XZ) (cl:107),Kx X Z k n cv cl->l.ok X.env.scope n=true->PE X (l.py n) (Bg X.K cv Z (l.ev cl))
 | .disp es p,X,Z,k,n,cv,cl,C,h=>by
  have sr:=sEs es X Z k n cv cl C (by exact h);refine PE.mono (YC sr.pa) λ σ H Q=>za λ μ ρ h hr er q=>?_;refine jn (m:=es.ev cl) Ext.refl hr er q (λ _ _ z=>z) λ ds h1 μ1 H1 xs _ e1 r1 er1 qa p1=>?_;split at p1
  ·rename_i c;refine ⟨by rw [<- qa.length];exact Y2g (Jq c),λ a ha=>?_⟩;have na:=r1.fresh ha;have n0:H a=none:=by
    cases e:H a with
    | none=>rfl
    | some o=>rw [e1.oth a o e λ z=>na (e1.sub z)] at ha;cases ha
   exact p1 μ1 _ _ (e1.trans (zq ha)) (r1.tup ha) ⟨a,xs,rfl,zw,qa.mono (zq ha),na,n0⟩
  ·exact p1.elim
 | .comp elt t it c NC cap csc p,X,Z,k,n,cv,cl,C,h=>by
  obtain ⟨k1,k2',k3,k4,k5,k6,k7,k8,k9⟩:=Vn C h;have hit:=sI it X Z k n cv cl C k1.1 t k1.2 NC;exact Bj (X:=X) (Z:=Z) (cv:=cv) (mi:=it.ev cl) (mc:=c.evC cl) (me:=elt.ev cl) (pos:=p) (elt:=elt.py ⟨NC,n.F,n.G⟩) (iter:=it.py n) (ifs:=c.py ⟨NC,n.F,n.G⟩) C.cm C.th hit k2' k5
   (λ Cc s H fp pn xe=>Vp C.kd k2' k3 k5)
   (λ Cc s H fp pn xe Zc th=>by
    have Cc':=C.comp k2' k3 k4 th;cases c with
    | nil=>exact Vo
    | cons e r =>
     cases r with
     | cons _ _=>cases k9
     | nil =>
      have se:=sE e _ Zc k ⟨NC,n.F,n.G⟩ cv cl Cc' (by have k7:(_&&_)=true:=k7;simp at k7;exact k7.1);have ht:=se.pt (by have k8:(_&&_)=true:=k8;simp at k8;exact k8.1);exact OI ht)
   (λ Cc s H fp pn xe Zc th=>(sE elt _ Zc k ⟨NC,n.F,n.G⟩ cv cl (C.comp k2' k3 k4 th) k6).pe) (qA it)
theorem sI:∀ (it:I) (X:Cx) (Z:ZK) (k:Nat) (n:Nm) (cv:XZ) (cl:107),Kx X Z k n cv cl->it.ok X.env.scope n=true->∀ t:Tg,t.forI it=true->∀ N,L2.PI X (t.py N) (it.py n) (zB X.K cv (RJ X.K) Z (it.ev cl))
 | .seq e,X,Z,k,n,cv,cl,C,h=>λ t ht N=>by
  have se:=sE e X Z k n cv cl C (by exact h);refine PI.mono (z6a se.pe) λ σ H Q=>za λ μ ρ h hr er q=>?_;refine z9 (m:=e.ev cl) hr er q λ d h1 μ1 H1 x _ e1 r1 er1 qa p1=>?_;cases qa with
  | tup g1 g2=>exact .inr (.inl ⟨_,rfl,⟨_,g1⟩,p1.here r1 (z2p g1 g2)⟩)
  | fl g1 g2=>exact .inl ⟨_,rfl,⟨_,g1.sq⟩,p1.here r1 (z69 g1 g2)⟩
  | str z=>exact .inr (.inr ⟨_,rfl,p1.here r1 (z2q z)⟩)
  | @loc nn a m =>
   cases e2:rd h1 nn with
   | none=>simp only [e2] at p1;exact p1.elim
   | some xs =>
    simp only [e2] at p1;obtain ⟨vs,hs1,rs⟩:=r1.rd e2 m;exact .inl ⟨_,rfl,⟨_,hs1⟩,p1.here r1 (z2n m)⟩
  | _=>exact p1.elim
 | .lst l,X,Z,k,n,cv,cl,C,h=>λ t ht N=>by
  have sl:=sL l X Z k n cv cl C (by exact h);refine PI.mono (z19 sl) λ σ H Q=>za λ μ ρ h hr er q=>?_;refine jn (m:=l.ev cl) Ext.refl hr er q (λ _ _ z=>z) λ ds h1 μ1 H1 x _ e1 r1 er1 qa p1=>?_;obtain ⟨p,vs,rfl,g1,g2,g3,g4⟩:=qa;exact ⟨p,rfl,⟨vs,SqL.of g1⟩,p1 μ1 H1 _ e1 r1 (z2o g1 g3 g2)⟩
 | .rng a p0 p,X,Z,k,n,cv,cl,C,h=>λ t ht N=>by
  have h':gOf X.env.scope "range"=true/\a.ok X.env.scope n=true:=by have h:(_&&_)=true:=h;simpa using h
  have sa:=sE a X Z k n cv cl C h'.2;refine PI.mono (Gc (C.gl h'.1) (C.bm _ 108) 164 (zc a _ _)) λ σ H Q=>za λ μ ρ h hr er q=>?_;refine z9 (m:=a.ev cl) hr er q λ d h1 μ1 H1 x _ e1 r1 er1 qa p1=>?_;cases qa with
  | int j =>
   simp only at p1;split at p1
   ·rename_i c;exact ⟨j,rfl,by have:=c.1;omega,by have:=c.2;omega,p1.here r1 (z2r j.toNat)⟩
   ·exact p1.elim
  | _=>exact p1.elim
 | .keys e,X,Z,k,n,cv,cl,C,h=>λ t ht N=>by
  have se:=sE e X Z k n cv cl C (by exact h);refine PI.mono (z1y se.pe) λ σ H Q=>za λ μ ρ h hr er q=>?_;refine z9 (m:=e.ev cl) hr er q λ d h1 μ1 H1 x _ e1 r1 er1 qa p1=>?_;unfold Zp at p1;cases qa with
  | @loc nn a m =>
   cases g1:h1[nn]? with
   | none=>simp only [g1] at p1;exact p1.elim
   | some o =>
    have q:=r1.obj nn a o m g1;cases o with
    | dK kvs =>
     simp only [g1] at p1;obtain ⟨vs,q1,q2⟩:=q;refine ⟨a,vs,rfl,.inl ⟨q1,λ ob=>?_⟩⟩;obtain ⟨hr',ex⟩:=r1.chg (u:=.frz ob (.dK vs)) (o':=.fK kvs) g1 m λ H' ex e=>⟨ob,vs,e,q2.mono ex⟩;exact p1 μ1 _ _ ex hr' (QK zw (q2.mono ex))
    | fK kvs =>
     simp only [g1] at p1;obtain ⟨ob,vs,q1,q2⟩:=q;exact ⟨a,vs,rfl,.inr ⟨ob,q1,p1.here r1 (QK q1 q2)⟩⟩
    | lst _=>simp only [g1] at p1;exact p1.elim
    | dT _=>simp only [g1] at p1;exact p1.elim
    | obj _ _=>simp only [g1] at p1;exact p1.elim
  | _=>exact p1.elim
theorem sEs:∀ (r:Es) (X:Cx) (Z:ZK) (k:Nat) (n:Nm) (cv:XZ) (cl:107),Kx X Z k n cv cl->r.ok X.env.scope n=true->SEs X Z n cv cl r
 | .nil,X,Z,k,n,cv,cl,C,_=>by
  refine ⟨?_,λ b p sb=>?_,λ b p sb hb _=>?_,λ b p sb=>?_,λ b p sb hb _=>?_,z6b⟩
  ·skip;refine PA.mono zY λ σ H Q=>za λ μ ρ h hr er q=>?_;exact q.here hr .nil
  ·skip;refine PE.mono (Od sb.pe) λ σ H Q=>za λ μ ρ h hr er q=>⟨μ,ρ,h,hr,er,?_⟩;have q:PostE X.K cv 142 μ H ((b.ev cl ρ h).bind λ a h1=>.ok a h1) Q (Z σ):=q
   rwa [jN] at q
  ·skip;refine PW.mono (z14 (sb.pt hb)) λ σ H Q=>za λ μ ρ h hr er q=>⟨μ,ρ,h,hr,er,?_⟩;have q:PostE X.K cv RB μ H ((b.evT cl ρ h).bind λ a h1=>.ok a h1) Q (Z σ):=q
   rwa [jN] at q
  ·skip;refine PE.mono (Od sb.pe) λ σ H Q=>za λ μ ρ h hr er q=>⟨μ,ρ,h,hr,er,?_⟩;have q:PostE X.K cv 142 μ H ((b.ev cl ρ h).bind λ a h1=>.ok a h1) Q (Z σ):=q
   rwa [jN] at q
  ·skip;refine PW.mono (z52 (sb.pt hb)) λ σ H Q=>za λ μ ρ h hr er q=>⟨μ,ρ,h,hr,er,?_⟩;have q:PostE X.K cv RB μ H ((b.evT cl ρ h).bind λ a h1=>.ok a h1) Q (Z σ):=q
   rwa [jN] at q
 | .cons e r,X,Z,k,n,cv,cl,C,h=>by
  have h':e.ok X.env.scope n=true/\r.ok X.env.scope n=true:=by have h:(_&&_)=true:=h;simpa using h
  have se:=sE e X Z k n cv cl C h'.1;have sr:=sEs r X Z k n cv cl C h'.2;refine ⟨?_,λ b p sb=>?_,λ b p sb hb hr'=>?_,λ b p sb=>?_,λ b p sb hb hr'=>?_,z2s se.pe sr.ps⟩
  ·skip;refine PA.mono (zG se.pe sr.pa (zc e _ _)) λ σ H Q=>za λ μ ρ h hr er q=>?_;refine z9 (m:=e.ev cl) hr er q λ da h1 μ1 H1 x _ e1 r1 er1 qa p1=>?_;refine z9 (m:=r.ev cl) r1 er1 p1 λ ds h2 μ2 H2 xs _ e2 r2 er2 qb p2=>?_;exact p2.here r2 (.cons (qa.mono e2) qb)
  ·skip;refine PE.mono (Oe sb.pe (sr.an e p se)) λ σ H Q=>za λ μ ρ h hr er q=>?_;refine z9 (m:=b.ev cl) hr er q λ d h1 μ1 H1 x _ e1 r1 er1 qa p1=>?_;cases qa with
   | bl c =>
    refine ⟨c,rfl,?_⟩;cases c with
    | true=>exact yD 158
    | false=>exact yC (p1.here r1 (.bl _))
   | _=>exact p1.elim
  ·skip;have hr2:e.okT=true/\r.okT=true:=by have hr':(_&&_)=true:=hr';simpa using hr'
   refine PW.mono (Oc (sb.pt hb) (sr.anT e p se hr2.1 hr2.2)) λ σ H Q=>za λ μ ρ h hr er q=>?_;refine z9 (m:=b.evT cl) (R:=RB) hr er q λ c h1 μ1 H1 x _ e1 r1 er1 qa p1=>?_;have qa':c=x:=qa;subst qa';cases c with
   | true=>exact yD 158
   | false=>exact yC (p1.here r1 rfl)
  ·skip;refine PE.mono (z3z sb.pe (sr.orr e p se)) λ σ H Q=>za λ μ ρ h hr er q=>?_;refine z9 (m:=b.ev cl) hr er q λ d h1 μ1 H1 x _ e1 r1 er1 qa p1=>?_;cases qa with
   | bl c =>
    refine ⟨c,rfl,?_⟩;cases c with
    | true=>exact yD (p1.here r1 (.bl _))
    | false=>exact yC 158
   | _=>exact p1.elim
  ·skip;have hr2:e.okT=true/\r.okT=true:=by have hr':(_&&_)=true:=hr';simpa using hr'
   refine PW.mono (z3y (sb.pt hb) (sr.orT e p se hr2.1 hr2.2)) λ σ H Q=>za λ μ ρ h hr er q=>?_;refine z9 (m:=b.evT cl) (R:=RB) hr er q λ c h1 μ1 H1 x _ e1 r1 er1 qa p1=>?_;have qa':c=x:=qa;subst qa';cases c with
   | true=>exact yD (p1.here r1 rfl)
   | false=>exact yC 158
end
end
noncomputable def PostS (K:Y00)(cv:XZ)(μ:XV)(H:Hp)(r:RS)(En:Ends)(Z:ZK):Prop :=
 match r with
 | .nx ρ h'=>∀ μ' H' σ',Ext K μ H μ' H'->HR K μ' h' H'->ER K μ' ρ σ' H'->En.nx σ' H'
 | .bk ρ h'=>∀ μ' H' σ',Ext K μ H μ' H'->HR K μ' h' H'->ER K μ' ρ σ' H'->En.bk σ' H'
 | .ct ρ h'=>∀ μ' H' σ',Ext K μ H μ' H'->HR K μ' h' H'->ER K μ' ρ σ' H'->En.ct σ' H'
 | .rt d h'=>∀ μ' H' v,Ext K μ H μ' H'->HR K μ' h' H'->Rep K μ' H' d v->En.rt v H'
 | .ex c ρ h'=>∀ μ' H' σ',Ext K μ H μ' H'->HR K μ' h' H'->ER K μ' ρ σ' H'->Z σ' (cv c) H'
 | .no=>False
noncomputable def Zv (K:Y00)(cv:XZ)(Z:ZK)(m:En->Hh->RS):TS:=λ En σ H=>∃ μ ρ h,HR K μ h H/\ER K μ ρ σ H/\PostS K cv μ H (m ρ h) En Z
theorem zJ {K:Y00}{cv:XZ}{Z:ZK}{m:En->Hh->RS}{En:Ends}{σ:St}{H:Hp}{G:Prop}(f:∀ μ ρ h,HR K μ h H->ER K μ ρ σ H->PostS K cv μ H (m ρ h) En Z->G)(x:Zv K cv Z m En σ H):G:=by
 obtain ⟨μ,ρ,h,hr,er,q⟩:=x;exact f μ ρ h hr er q
theorem PostS.ext {K:Y00}{cv:XZ}{μ μ1:XV}{H H1:Hp}{r:RS}{En:Ends}{Z:ZK}(p:PostS K cv μ H r En Z)(e:Ext K μ H μ1 H1):PostS K cv μ1 H1 r En Z:=by
 unfold PostS at p ⊢;cases r with
 | nx ρ h=>exact λ μ' H' σ' e1 r1 q1=>p μ' H' σ' (e.trans e1) r1 q1
 | bk ρ h=>exact λ μ' H' σ' e1 r1 q1=>p μ' H' σ' (e.trans e1) r1 q1
 | ct ρ h=>exact λ μ' H' σ' e1 r1 q1=>p μ' H' σ' (e.trans e1) r1 q1
 | rt d h=>exact λ μ' H' σ' e1 r1 q1=>p μ' H' σ' (e.trans e1) r1 q1
 | ex c ρ h=>exact λ μ' H' σ' e1 r1 q1=>p μ' H' σ' (e.trans e1) r1 q1
 | no=>exact p
theorem zP {α β:Type}{K:Y00}{cv:XZ}{R:List Addr->Hp->α->β->Prop}{μ:XV}{ρ:En}{h:Hh}{σ:St}{H:Hp}{Z:ZK}{m:En->Hh->Res α}{f:α->Hh->RS}{En:Ends}{Q':β->Hp->Prop}
  (hr:HR K μ h H) (er:ER K μ ρ σ H) (p:PostS K cv μ H (j8 ρ (m ρ h) f) En Z)
  (go:∀ a h1 μ1 H1 x,m ρ h=.ok a h1->Ext K μ H μ1 H1->HR K μ1 h1 H1->ER K μ1 ρ σ H1->R μ1 H1 a x->PostS K cv μ1 H1 (f a h1) En Z->Q' x H1) :
  zB K cv R Z m σ H Q':=by
 refine ⟨μ,ρ,h,hr,er,?_⟩;unfold j8 at p;cases e:m ρ h with
 | ok a h1 =>
  rw [e] at p;exact λ μ1 H1 x e1 r1 q1=>go a h1 μ1 H1 x e e1 r1 (er.mono e1) q1 (PostS.ext p e1)
 | exc c h1 =>
  rw [e] at p;exact λ μ1 H1 e1 r1=>p μ1 H1 σ e1 r1 (er.mono e1)
 | no=>rw [e] at p;exact p
noncomputable def Xt.ok (sc:Scope)(n:Nm)(t:Xt):Bool:=gOf sc t.x&&!(t.x==("__debug__":Str))&&(match t.d with
 | some d=>n.G.any λ q=>q.1==t.x&&(match q.2 with | .exc d' _=>d'==d | _=>false)
 | none=>t.x==("ValueError":Str))
noncomputable def Xv.ok (sc:Scope)(n:Nm):Xv->Bool
 | .and a b r _=>a.ok sc n&&b.ok sc n&&r.all (Xt.ok sc n)
 | .lst ts _=>ts.all (Xt.ok sc n)&&decide (ts.length<=1000)
 | .one t=>t.ok sc n
structure XK' (X:Cx)(n:Nm)(cv:XZ)(j:Nat):Prop where
 is:Gl X "isinstance"
 mi:X.mg "isinstance"=none
 mv:X.mg "ValueError"=none
 hj:X.N[j]?=some (n.N.getD j "")
 vi:Vis X.env.scope (n.N.getD j "")
 nd:(n.N.getD j ""==("__debug__":Str))=false
 nc:(n.N.getD j ""==("__classdict__":Str))=false
 gc:∀ x c u,(x,Cn.exc c u)∈n.G->∃ a,X.mg x=some 155/\cv c=.ref a
noncomputable def E.noT:E->Bool
 | .tup _ _=>false
 | .ofL _=>false
 | _=>true
noncomputable def E.noC:E->Bool
 | .ofL (.comp _ _ _ _ _ _ _ _)=>false
 | _=>true
noncomputable def Fp.ok (n:Nm):Fp->Bool
 | .c _ _=>true
 | .r i _ _=>decide (i<n.N.length)
 | .v i _ _=>decide (i<n.N.length)
noncomputable def Ms.ok (n:Nm):Ms->Bool
 | .s _ _=>true
 | .f a b r _=>a.ok n&&b.ok n&&r.all (λ q=>q.ok n)
mutual
noncomputable def S.ok (sc:Scope)(n:Nm):S->Bool
 | .set i e _ _=>decide (i<n.N.length)&&e.ok sc n
 | .ret e _=>e.ok sc n
 | .iff c a b _=>c.ok sc n&&c.okT&&a.ok sc n&&b.ok sc n
 | .ex e _=>e.ok sc n&&e.noC
 | .setF o f v _ _=>o.ok sc n&&v.ok sc n&&decide (f∈jm)&&v.noC
 | .put o i v _ _=>o.ok sc n&&i.ok sc n&&v.ok sc n
 | .forr t it b _=>t.okS n.N&&(it.ok sc n&&t.forI it)&&b.ok sc n
 | .whil c b _=>c.ok sc n&&c.okT&&b.ok sc n
 | .setT is e p1 _=>(Tg.tup is p1).okS n.N&&e.ok sc n&&e.noT
noncomputable def Ss.ok (sc:Scope)(n:Nm):Ss->Bool
 | .nil=>true
 | .cons s r=>s.ok sc n&&r.ok sc n
end
theorem PS.mono {X:Cx}{e:Stmt}{t t':TS}(p:PS X e t)(h:∀ En σ H,t' En σ H->t En σ H):PS X e t':=λ pins s σ H En I q=>p pins s σ H En I (h En σ H q)
theorem PSs.mono {X:Cx}{e:List Stmt}{t t':TS}(p:PSs X e t)(h:∀ En σ H,t' En σ H->t En σ H):PSs X e t':=λ pins s σ H En I q=>p pins s σ H En I (h En σ H q)
structure KxS (X:Cx)(Z:ZK)(k:Nat)(n:Nm)(cv:XZ)(cl:107):Prop extends Kx X Z k n cv cl where
 lo:∀ x∈n.N,Loc X.env.scope x/\(X.fn x=true\/X.env.scope.names.lookup x=some .local)
theorem KxS.wish {X:Cx}{Z:ZK}{k:Nat}{n:Nm}{cv:XZ}{cl:107}(C:KxS X Z k n cv cl):KxS (X.wish (XE X Z)) Z k n cv cl :=
 ⟨⟨C.th.wished,C.rm,C.nN,C.nd,C.cm,C.kd,C.nm,C.bm,C.gc,C.fn,C.mc,C.xc⟩,C.lo⟩
section
variable {X:Cx}{Z:ZK}{k:Nat}{n:Nm}{cv:XZ}{cl:107}
theorem yx (e:E)(h:e.noC=true)(t:Option Expr)(l:Nat)(env:Env):swapsWith (e.py n) t l env=pure false:=by
 cases e with
 | ofL l =>
  cases l with
  | disp es p=>rfl
  | comp=>cases h
 | _=>rfl
theorem U7 (o i : E)(p1 : Pos)(env : Env) : ∀ v, assign (.Subscript (o.py n) (i.py n) p1) env v = (do
      let ov <- holding [v] (eval (o.py n) env)
      let iv <- holding [v,ov] (eval (i.py n) env)
      standAt p1
      holding [v,ov,iv] (setItem ov iv v)
      release [v,ov,iv] []):=by
  intro v;generalize o.py n=oo;cases i with
  | ofL l=>cases l<;>(rfl)
  | _=>rfl
theorem U8 (o i e:E)(p1:Pos)(l:Nat)(env:Env):swapsWithSole [.Subscript (o.py n) (i.py n) p1] (e.py n) l env=pure false:=by
 generalize o.py n=oo;generalize i.py n=ii;cases e with
 | ofL l=>cases l<;>(rfl)
 | _=>rfl
theorem Wv (o i e:E)(p1:Pos)(env:Env):swappedStores [.Subscript (o.py n) (i.py n) p1] (e.py n) env=pure none:=by
 generalize o.py n=oo;generalize i.py n=ii;cases e with
 | ofL l=>cases l<;>(rfl)
 | _=>rfl
theorem z2u (ts:List Expr)(e:E)(h:e.noT=true)(k:Nat)(p1:Pos)(l:Nat)(env:Env):swapsWithSole [.Tuple ts k p1] (e.py n) l env=pure false:=by
 cases e with
 | ofL l=>cases h
 | tup es p=>cases h
 | _=>rfl
theorem U9 (e:E)(h:e.noC=true)(t:Option Expr)(l:Nat)(env:Env):swapsWith (e.py n) t l env=pure false:=by
 cases e with
 | ofL l=>cases l with
  | disp es p=>rfl
  | comp _ _ _ _ _ _ _ _=>cases h
 | _=>rfl
theorem GP (ts:List Expr)(e:E)(h:e.noT=true)(k:Nat)(p1:Pos)(env:Env):swappedStores [.Tuple ts k p1] (e.py n) env=pure none:=by
 cases e with
 | ofL l=>cases h
 | tup es p=>cases h
 | _=>rfl
theorem Ua {c:E}{b:Ss}{p:Pos}{En:Ends}{σ:St}{H:Hp}{μ:XV}{ρ:PI.En}{h:Hh}(hr:HR X.K μ h H)(er:ER X.K μ ρ σ H)(q:PostS X.K cv μ H ((S.whil c b p).run cl ρ h) En Z) :
  Yt (zB X.K cv RB Z (c.evT cl)) (Zv X.K cv Z (b.run cl)) En σ H:=by
 have q:PostS X.K cv μ H (whR (λ ρ' h'=>c.evT cl ρ' h') (λ ρ' h'=>b.run cl ρ' h') ρ h) En Z:=q;have nz:whR (λ ρ' h'=>c.evT cl ρ' h') (λ ρ' h'=>b.run cl ρ' h') ρ h≠.no:=λ z=>by rw [z] at q;exact q
 obtain ⟨n0,e0⟩:=Wl nz;rw [<- e0] at q;refine ⟨λ m σ H=>∃ μ ρ h,HR X.K μ h H/\ER X.K μ ρ σ H/\PostS X.K cv μ H (whL (λ ρ' h'=>c.evT cl ρ' h') (λ ρ' h'=>b.run cl ρ' h') m ρ h) En Z,⟨n0,μ,ρ,h,hr,er,q⟩,?_⟩
 rintro m σ1 H1 ⟨μ1,ρ1,h1,hr1,er1,q1⟩
 cases m with
 | zero=>exact q1.elim
 | succ m =>
  rw [whL] at q1;refine ⟨μ1,ρ1,h1,hr1,er1,?_⟩;cases ec:c.evT cl ρ1 h1 with
  | ok t h2 =>
   rw [ec] at q1;intro μ2 H2 x e2 r2 hx;have hx':t=x:=hx;subst hx';cases t with
   | false=>exact yC (q1 μ2 H2 σ1 e2 r2 (er1.mono e2))
   | true =>
    refine yD ⟨λ σ' H'=>∃ μ ρ h,HR X.K μ h H'/\ER X.K μ ρ σ' H'/\PostS X.K cv μ H' (whL (λ ρ' h'=>c.evT cl ρ' h') (λ ρ' h'=>b.run cl ρ' h') m ρ h) En Z,λ σ' H' z=>⟨m,Y1n m,z⟩,μ2,ρ1,h2,r2,er1.mono e2,?_⟩;simp only at q1;have q2:=PostS.ext q1 e2;cases eb:b.run cl ρ1 h2 with
    | nx ρ4 h4=>simp only [eb] at q2;exact λ μ4 H4 σ4 e4 r4 er4=>⟨μ4,ρ4,h4,r4,er4,PostS.ext q2 e4⟩
    | ct ρ4 h4=>simp only [eb] at q2;exact λ μ4 H4 σ4 e4 r4 er4=>⟨μ4,ρ4,h4,r4,er4,PostS.ext q2 e4⟩
    | bk ρ4 h4=>simp only [eb] at q2;exact q2
    | rt d h4=>simp only [eb] at q2;exact q2
    | ex c' ρ4 h4=>simp only [eb] at q2;exact q2
    | no=>simp only [eb] at q2;exact q2
  | exc k h2 =>
   rw [ec] at q1;exact λ μ2 H2 e2 r2=>q1 μ2 H2 σ1 e2 r2 (er1.mono e2)
  | no=>rw [ec] at q1;exact q1
theorem GQ {c:Expr}{body:List Stmt}{tc:TT}{tb:TS}{pos:Pos}(th:Thr X Z)(hc:PT (X.wish (XE X Z)) c tc)(hb:PSs (X.wish (XE X Z)) body tb):PS X (.While c body [] pos) (Yt tc tb):=by
 intro pins s σ H D I h;refine wpAny_mono (Ol (X:=X.wish (XE X Z)) (Jt th.toXOk) hc hb pins s σ H D (I.wish _) h) (λ f s' q=>q.unwish) λ e s' x=>th.thr e s' x
theorem Bl {t:Tg}{it:I}{b:Ss}{En:Ends}{σ:St}{H:Hp}{μ:XV}{ρ:PI.En}{h:Hh}(hr:HR X.K μ h H)(er:ER X.K μ ρ σ H)(q:PostS X.K cv μ H ((S.forr t it b p).run cl ρ h) En Z) :
  z5a (zB X.K cv (RJ X.K) Z (it.ev cl)) (gB X.K t) (Zv X.K cv Z (b.run cl)) En σ H:=by
 refine zP (m:=it.ev cl) hr er q λ qq h1 μ1 H1 J _ e1 r1 er1 src p1=>?_;obtain ⟨c,ds⟩:=qq;refine ⟨λ i m σ' H'=>m=ds.length-i/\i<=ds.length/\∃ μ2 ρ2 h2,Ext X.K μ1 H1 μ2 H'/\HR X.K μ2 h2 H'/\ER X.K μ2 ρ2 σ' H'/\PostS X.K cv μ2 H' (zH c (zO t λ ρ' h'=>b.run cl ρ' h') (ds.drop i) ρ2 h2) En Z,
  ⟨ds.length,by simp,Y1h _,μ1,ρ,h1,Ext.refl,r1,er1,p1⟩,?_⟩
 rintro i m σ' H' ⟨rfl,hi,μ2,ρ2,h2,e2,r2,er2,p2⟩
 by_cases hlt:i<ds.length
 ·right;rw [Y34 hlt] at p2;unfold zH at p2;split at p2;rotate_left
  ·exact p2.elim
  rename_i st;obtain ⟨s1,s2⟩:=src μ2 h2 H' e2 r2 st;obtain ⟨g1,g2⟩:=s1 i ds[i] (Y07 hlt);refine ⟨g1,λ σ3 H3=>ds.length-(i+1)=ds.length-(i+1)/\i+1<=ds.length/\∃ μ3 ρ3 h3,Ext X.K μ1 H1 μ3 H3/\HR X.K μ3 h3 H3/\ER X.K μ3 ρ3 σ3 H3/\PostS X.K cv μ3 H3 (zH c (zO t λ ρ' h'=>b.run cl ρ' h') (ds.drop (i+1)) ρ3 h3) En Z,
   λ σ3 H3 z=>⟨ds.length-(i+1),by omega,z⟩,λ x H3 y=>?_⟩
  obtain ⟨e2',r2',rx⟩:=g2 x H3 y;replace p2:=PostS.ext p2 e2';replace e2:=e2.trans e2';replace r2:=r2';replace er2:=er2.mono e2';unfold zO at p2;cases eb:je t ds[i] ρ2 with
  | none=>rw [eb] at p2;exact p2.elim
  | some ρ3 =>
   rw [eb] at p2;refine ⟨μ2,ρ2,ds[i],ρ3,h2,r2,er2,rx,eb,λ σ3 er3 _ _=>⟨μ2,ρ3,h2,r2,er3,?_⟩⟩;cases eo:b.run cl ρ3 h2 with
   | nx ρ4 h4 =>
    simp only [eo] at p2;exact λ μ4 H4 σ4 e4 r4 er4=>⟨rfl,hlt,μ4,ρ4,h4,e2.trans e4,r4,er4,PostS.ext p2 e4⟩
   | ct ρ4 h4 =>
    simp only [eo] at p2;exact λ μ4 H4 σ4 e4 r4 er4=>⟨rfl,hlt,μ4,ρ4,h4,e2.trans e4,r4,er4,PostS.ext p2 e4⟩
   | bk ρ4 h4=>simp only [eo] at p2;exact p2
   | rt d h4=>simp only [eo] at p2;exact p2
   | ex c' ρ4 h4=>simp only [eo] at p2;exact p2
   | no=>simp only [eo] at p2;exact p2
 ·left;have ei:i=ds.length:=by omega
  subst ei;rw [List.drop_length] at p2;unfold zH at p2;split at p2;rotate_left
  ·exact p2.elim
  rename_i st;exact ⟨(src μ2 h2 H' e2 r2 st).2,p2 μ2 H' σ' Ext.refl r2 er2⟩
mutual
theorem sS:∀ (s:S) (X:Cx) (Z:ZK) (k:Nat) (n:Nm) (cv:XZ) (cl:107),KxS X Z k n cv cl->s.ok X.env.scope n=true->PS X (s.py n) (Zv X.K cv Z (s.run cl))
 | .set i e p1 p,X,Z,k,n,cv,cl,C,h=>by
  have h':i<n.N.length/\e.ok X.env.scope n=true:=by have h:(_&&_)=true:=h;simpa using h
  have hm:=C.lo _ (qL (d:=("":Str)) h'.1);have hN:X.N[i]?=some (n.N.getD i ""):=by rw [C.nN];exact getD_some h'.1
  have plain:swapsWith (e.py n) (some (.Name (n.N.getD i "") p1)) p.line X.env=pure false->PS X ((S.set i e p1 p).py n) (Zv X.K cv Z ((S.set i e p1 p).run cl)):=λ hs=>by
   have se:=sE e X Z k n cv cl C.toKx h'.2;refine PS.mono (z59 (i:=i) C.nd hN hm.1 se.pe hs hm.2) λ En σ H=>zJ λ μ ρ h hr er q=>?_;refine zP (m:=e.ev cl) hr er q λ d h1 μ1 H1 x _ e1 r1 er1 qa p1=>?_;exact p1 μ1 H1 _ Ext.refl r1 (er1.set qa i)
  cases hn:e.noC with
  | true=>exact plain (yx e hn _ _ _)
  | false =>
   cases e with
   | ofL l =>
    cases l with
    | disp es pp=>cases hn
    | comp elt t it c NC cap csc pp =>
     have hL:(L.comp elt t it c NC cap csc pp).ok X.env.scope n=true:=by exact h'.2
     obtain ⟨b,eb,hb⟩:∃ b,swapsWith ((E.ofL (.comp elt t it c NC cap csc pp)).py n) (some (.Name (n.N.getD i "") p1)) p.line X.env=pure b/\(b=true->X.env.scope.names.lookup (n.N.getD i "")=some .local):=by
      refine ⟨_,by rfl,λ z=>?_⟩;simp only [Y0h,beq_iff_eq] at z;exact z.1.1.2
     cases b with
     | false=>exact plain eb
     | true =>
      obtain ⟨k1,k2,k3,k4,k5,k6,k7,k8,k9⟩:=Vn C.toKx hL;have hit:=sI it X Z k n cv cl C.toKx k1.1 t k1.2 NC;have hff:∀ Cc s H fp pn xe Zc,Thr (zv X NC csc Cc s H fp pn xe) Zc->PF (zv X NC csc Cc s H fp pn xe) (c.py ⟨NC,n.F,n.G⟩) (zB X.K cv RB Zc (c.evC cl)):=λ Cc s H fp pn xe Zc th=>by
       have Cc':=C.toKx.comp k2 k3 k4 th;cases c with
       | nil=>exact Vo
       | cons e r =>
        cases r with
        | cons _ _=>cases k9
        | nil =>
         have se:=sE e _ Zc k ⟨NC,n.F,n.G⟩ cv cl Cc' (by have k7:(_&&_)=true:=k7;simp at k7;exact k7.1);have ht:=se.pt (by have k8:(_&&_)=true:=k8;simp at k8;exact k8.1);exact OI ht
      have key:=z1t (X:=X) (i:=i) (cap:=cap) (pos:=pp) (pos':=p1) (spos:=p) (g:=gB X.K t) (tf:=λ Zc=>zB X.K cv RB Zc (c.evC cl)) (te:=λ Zc=>zB X.K cv 142 Zc (elt.ev cl)) C.cm C.th hit k2 (λ Cc s H fp pn xe=>Vp C.kd k2 k3 k5) hff
       (λ Cc s H fp pn xe Zc th=>(sE elt _ Zc k ⟨NC,n.F,n.G⟩ cv cl (C.toKx.comp k2 k3 k4 th) k6).pe) (qA it) C.nd hN (hb rfl) eb
      refine PS.mono key λ En σ H=>zJ λ μ ρ h hr er q=>JF k2 k5 ⟨μ,ρ,h,hr,er,?_⟩;have q:PostS X.K cv μ H (j8 ρ (((L.comp elt t it c NC cap csc pp).ev cl ρ h).bind λ xs h1=>new 178 h1) λ d h1=>.nx (ρ.set i (some d)) h1) En Z:=q;show PostE X.K cv (RL X.K H) μ H ((L.comp elt t it c NC cap csc pp).ev cl ρ h) _ (Z σ);cases el:(L.comp elt t it c NC cap csc pp).ev cl ρ h with
      | ok ds h1 =>
       rw [el] at q;intro μ1 H1 x e1 r1 ⟨pa,vs,ex,g1,g2,g3,g4⟩;subst ex;have er1:ER X.K (μ1++[pa]) ρ σ H1:=er.mono (e1.add g4);refine q (μ1++[pa]) H1 _ (e1.add g4) (r1.add g3 λ μ' gr=>⟨vs,g1,g2.mono' gr⟩) (er1.set (.loc ?_) i);rw [<- r1.len,Y0m 169,Y1q];rfl
      | exc cc h1=>rw [el] at q;exact λ μ1 H1 e1 r1=>q μ1 H1 σ e1 r1 (er.mono e1)
      | no=>rw [el] at q;exact q
   | _=>cases hn
 | .ret e p,X,Z,k,n,cv,cl,C,h=>by
  have se:=sE e X Z k n cv cl C.toKx (by exact h);refine PS.mono (z55 se.pe) λ En σ H=>zJ λ μ ρ h hr er q=>?_;refine zP (m:=e.ev cl) hr er q λ d h1 μ1 H1 x _ e1 r1 er1 qa p1=>?_;exact p1 μ1 H1 x Ext.refl r1 qa
 | .iff c a b p,X,Z,k,n,cv,cl,C,h=>by
  have h':((c.ok X.env.scope n=true/\c.okT=true)/\a.ok X.env.scope n=true)/\b.ok X.env.scope n=true:=by have h:(_&&_)=true:=h;simpa using h
  have sc:=sE c X Z k n cv cl C.toKx h'.1.1.1;have sa:=sSs a X Z k n cv cl C h'.1.2;have sb:=sSs b X Z k n cv cl C h'.2;refine PS.mono (z80 (sc.pt h'.1.1.2) sa sb) λ En σ H=>zJ λ μ ρ h hr er q=>?_;refine zP (m:=c.evT cl) (R:=RB) hr er q λ t h1 μ1 H1 x _ e1 r1 er1 qa p1=>?_;have qa':t=x:=qa;subst qa';cases t with
  | true=>exact yD 158
  | false=>exact yC 158
 | .ex e p,X,Z,k,n,cv,cl,C,h=>by
  have h':e.ok X.env.scope n=true/\e.noC=true:=by have h:(_&&_)=true:=h;simpa using h
  have se:=sE e X Z k n cv cl C.toKx h'.1;refine PS.mono (z16 se.pe (yx e h'.2 _ _ _)) λ En σ H=>zJ λ μ ρ h hr er q=>?_;refine zP (m:=e.ev cl) hr er q λ d h1 μ1 H1 x _ e1 r1 er1 qa p1=>?_;exact p1 μ1 H1 _ Ext.refl r1 er1
 | .setF o f v p1 p,X,Z,k,n,cv,cl,C,h=>by
  have h':((o.ok X.env.scope n=true/\v.ok X.env.scope n=true)/\f∈jm)/\v.noC=true:=by have h:(_&&_)=true:=h;simpa using h
  have so:=sE o X Z k n cv cl C.toKx h'.1.1.1;have sv:=sE v X Z k n cv cl C.toKx h'.1.1.2;refine PS.mono (z5m so.pe sv.pe (U9 v h'.2 _ _ _)) λ En σ H=>zJ λ μ ρ h hr er q=>?_;refine zP (m:=v.ev cl) hr er q λ z h1 μ1 H1 x _ e1 r1 er1 qz p1=>?_;refine zP (m:=o.ev cl) r1 er1 p1 λ a h2 μ2 H2 y _ e2 r2 er2 qa p2=>?_;unfold qJ at p2;cases qa with
  | @loc nn b m =>
   cases e3:h2[nn]? with
   | none=>simp only [e3] at p2;exact p2.elim
   | some ob =>
    have q:=r2.obj nn b ob m e3;cases ob with
    | lst _=>simp only [e3] at p2;exact p2.elim
    | dK _=>simp only [e3] at p2;exact p2.elim
    | fK _=>simp only [e3] at p2;exact p2.elim
    | dT _=>simp only [e3] at p2;exact p2.elim
    | obj w fs =>
     simp only [e3] at p2;obtain ⟨Cc,dx,vs,q1,q2,q3⟩:=q;split at p2
     ·rename_i hlt e4;split at e4
      ·rename_i hl;cases e4;obtain ⟨hr',ex⟩:=r2.chg (u:=.ins Cc dx (wo f x vs)) (o':=.obj w (QB f z fs)) e3 m λ H' ex e=>⟨Cc,dx,_,e,q2,(q3.mono ex).put ((qz.mono e2).mono ex)⟩;exact ⟨b,Cc,dx,vs,rfl,q1,q2.cl,q2.na f h'.1.2,by rw [<- q3.length];exact hl,p2 μ2 _ σ ex hr' (er2.mono ex)⟩
      ·cases e4
     ·exact p2.elim
  | _=>exact p2.elim
 | .put o i v p1 p,X,Z,k,n,cv,cl,C,h=>by
  have h':(o.ok X.env.scope n=true/\i.ok X.env.scope n=true)/\v.ok X.env.scope n=true:=by have h:(_&&_)=true:=h;simpa using h
  have so:=sE o X Z k n cv cl C.toKx h'.1.1;have si:=sE i X Z k n cv cl C.toKx h'.1.2;have sv:=sE v X Z k n cv cl C.toKx h'.2;refine PS.mono (Oj sv.pe (z57 so.pe si.pe (Bf (z43 C.rm)) (U7 o i p1 _)) (U8 o i v p1 _ _) (Wv o i v p1 _) rfl) λ En σ H=>zJ λ μ ρ h hr er q=>?_;refine zP (m:=v.ev cl) hr er q λ z h1 μ1 H1 x _ e1 r1 er1 qz p1=>?_;refine zP (m:=o.ev cl) r1 er1 p1 λ a h2 μ2 H2 y _ e2 r2 er2 qa p2=>?_;refine zP (m:=i.ev cl) r2 er2 p2 λ b h3 μ3 H3 w _ e3 r3 er3 qb p3=>?_;cases e:Zl a b z h3 with
  | none=>rw [e] at p3;exact p3.elim
  | some h4 =>
   rw [e] at p3;exact ⟨μ3,h3,a,b,z,h4,r3,qa.mono e3,qb,(qz.mono e2).mono e3,e,λ μ4 H4 e4 r4=>p3 μ4 H4 σ e4 r4 (er3.mono e4)⟩
 | .forr t it b p,X,Z,k,n,cv,cl,C,h=>by
  have h':(t.okS n.N=true/\it.ok X.env.scope n=true/\t.forI it=true)/\b.ok X.env.scope n=true:=by have h:(_&&_)=true:=h;simpa using h
  have hi:=sI it _ Z k n cv cl C.wish.toKx h'.1.2.1 t h'.1.2.2 n.N;have hb:=sSs b _ Z k n cv cl C.wish h'.2;have hg:PG (X.wish (XE X Z)) (t.py n.N) (gB X.K t):=by
   have z:=z8v (X:=X.wish (XE X Z)) C.cm C.nd t λ i hi=>by
    have h1:=Y1e.mp h'.1.1 i hi;have hl:i<n.N.length:=of_decide_eq_true h1;have hm:=C.lo _ (qL (d:=("":Str)) hl);have eN:(X.wish (XE X Z)).N=n.N:=C.nN;rw [eN];exact ⟨hl,hm⟩
   rw [show (X.wish (XE X Z)).N=n.N from C.nN] at z;exact z
  exact PS.mono (z1s C.th C.cm hi hg hb (qA it)) λ En σ H=>zJ λ μ ρ h hr er q=>Bl (p:=p) hr er q
 | .whil c b p,X,Z,k,n,cv,cl,C,h=>by
  have h':(c.ok X.env.scope n=true/\c.okT=true)/\b.ok X.env.scope n=true:=by have h:(_&&_)=true:=h;simpa using h
  have sc:=sE c _ Z k n cv cl C.wish.toKx h'.1.1;have hb:=sSs b _ Z k n cv cl C.wish h'.2;exact PS.mono (GQ C.th (sc.pt h'.1.2) hb) λ En σ H=>zJ λ μ ρ h hr er q=>Ua (p:=p) hr er q
 | .setT is e p1 p,X,Z,k,n,cv,cl,C,h=>by
  have h':((Tg.tup is p1).okS n.N=true/\e.ok X.env.scope n=true)/\e.noT=true:=by have h:(_&&_)=true:=h;simpa using h
  have se:=sE e X Z k n cv cl C.toKx h'.1.2;have hg:PG X ((Tg.tup is p1).py n.N) (λ v σ H Q=>∃ μ ρ d ρ' h,HR X.K μ h H/\ER X.K μ ρ σ H/\Rep X.K μ H d v/\je (.tup is p1) (Wm d h) ρ=some ρ'/\∀ σ',ER X.K μ ρ' σ' H->Q σ' H):=by
   have z:=z8x (X:=X) C.cm C.nd is p1 λ i hi=>by
    have h1:=Y1e.mp h'.1.1 i hi;have hl:i<n.N.length:=of_decide_eq_true h1;have hm:=C.lo _ (qL (d:=("":Str)) hl);rw [C.nN];exact ⟨hl,hm⟩
   rw [C.nN] at z;exact z
  refine PS.mono (Oj se.pe hg (z2u _ e h'.2 _ _ _ _) (GP _ e h'.2 _ _ _) rfl) λ En σ H=>zJ λ μ ρ h hr er q=>?_;refine zP (m:=e.ev cl) hr er q λ d h1 μ1 H1 x _ e1 r1 er1 qa q1=>?_;cases eb:je (.tup is p1) (Wm d h1) ρ with
  | none=>rw [eb] at q1;exact q1.elim
  | some ρ' =>
   rw [eb] at q1;exact ⟨μ1,ρ,d,ρ',h1,r1,er1,qa,eb,λ σ' er'=>q1 μ1 H1 σ' Ext.refl r1 er'⟩
theorem sSs:∀ (s:Ss) (X:Cx) (Z:ZK) (k:Nat) (n:Nm) (cv:XZ) (cl:107),KxS X Z k n cv cl->s.ok X.env.scope n=true->PSs X (s.py n) (Zv X.K cv Z (s.run cl))
 | .nil,X,Z,k,n,cv,cl,C,_=>by
  refine PSs.mono z15 λ En σ H=>zJ λ μ ρ h hr er q=>?_;exact q μ H σ Ext.refl hr er
 | .cons s r,X,Z,k,n,cv,cl,C,h=>by
  have h':s.ok X.env.scope n=true/\r.ok X.env.scope n=true:=by have h:(_&&_)=true:=h;simpa using h
  have ss:=sS s X Z k n cv cl C h'.1;have sr:=sSs r X Z k n cv cl C h'.2;refine PSs.mono (Og ss sr) λ En σ H=>zJ λ μ ρ h hr er q=>?_;have q:PostS X.K cv μ H (jZ (s.run cl ρ h) λ ρ' h'=>r.run cl ρ' h') En Z:=q;refine ⟨μ,ρ,h,hr,er,?_⟩;cases e:s.run cl ρ h with
  | nx ρ' h1 =>
   rw [e] at q;exact λ μ1 H1 σ1 e1 r1 er1=>⟨μ1,ρ',h1,r1,er1,PostS.ext q e1⟩
  | bk ρ' h1=>rw [e] at q;exact q
  | ct ρ' h1=>rw [e] at q;exact q
  | rt d h1=>rw [e] at q;exact q
  | ex c ρ' h1=>rw [e] at q;exact q
  | no=>rw [e] at q;exact q
end
end
section
variable {X:Cx}{Z:ZK}{k:Nat}{n:Nm}{cv:XZ}{cl:107}
noncomputable def okD (b:Ss)(sc:Scope)(n:Nm)(ps:XQ):Bool:=b.ok sc n
end
structure DefOk (st:Stmt)(d:Df)(F:XQ)(G:List (Str×Cn))(nm q:Str):Prop where
 body:zE st=d.body.py ⟨d.N,F,G⟩
 sc:FnScope d.N d.ps (zk st)
 ok:okD d.body (zk st) ⟨d.N,F,G⟩ d.ps=true
 nms:∀ x∈d.N,((zk st).names.lookup x=some .local\/(zk st).names.lookup x=some .cell)/\yw x=true
 bd:∀ (kV doc pm:Value) (an:166) (cdv ct:Value) (us:XW),us.length=d.ps.length ->
  bindArgs (PySem.W.fnOf nm q (zK st) (zE st) (zk st) .none kV doc pm an cdv ct) ⟨us,[]⟩=pure (d.ps.zip us)
structure FunD (K:Y00)(x qual:Str)(st:Stmt)(f:Addr)(fd:FuncData)(ps:XQ)(b:Bool):Prop where
 ex:∃ (oc:Value) (od:166) (dV kV doc pm:Value) (an:166) (cdv ct:Value) (osl:171),
  fd=PySem.W.fnOf x qual (zK st) (zE st) (zk st) dV kV doc pm an cdv ct/\K.lookup f=some ⟨oc,od,.func fd,osl⟩/\PySem.W.codeIn K cdv qual=true
 kp:PySem.W.keepIn K (.ref f)=true
 b0:Binds K fd ps []
 b1:b=true->Binds K fd ps [.none]
section
variable {P:156}{w:World}{K:Y00}{mg:XJ}{base:Heap}
theorem FunD.okX {x qual:Str}{st:Stmt}{f:Addr}{fd:FuncData}{N ps:XQ}{b:Bool}{k:Nat}{sp:Sp}(F:FunD K x qual st f fd ps b)(S:FnScope N ps (zk st))(len:∀ vs H Q E,sp vs H Q E->vs.length=ps.length)
  (hbody:∀ (cdv:Value) (A:Around) (outer:List Env) (s:130) (H:Hp) (vs:157) (Q:VK) (E:XK),Room k (A.deeper (envOfC qual (zk st) s.heap.objs.size f cdv))->sp vs H Q E ->
   ∃ t,PSs (W5 (CXs P w) P w K mg base N qual (zk st) f cdv A outer s H E) (zE st) t/\t { nx:=λ _ H'=>Q .non H',rt:=Q } (start N vs) H):FnOk P w K mg base (CXs P w) (k+1) f fd ps sp:=by
 obtain ⟨oc,od,dV,kV,doc,pm,an,cdv,ct,osl,rfl,lk,hcd⟩:=F.ex;exact z8b lk hcd S len λ A outer s H vs Q E hr hsp=>hbody cdv A outer s H vs Q E hr hsp
theorem _root_.L2.Fun.toD {x qual:Str}{st:Stmt}{f:Addr}{fd:FuncData}{d:Df}{F:XQ}{G:List (Str×Cn)}(e:Fun K x qual st f fd)(o:DefOk st d F G x qual):FunD K x qual st f fd d.ps false :=
 ⟨let ⟨oc,od,kV,doc,pm,an,cdv,ct,osl,h⟩:=e.ex;⟨oc,od,.none,kV,doc,pm,an,cdv,ct,osl,h⟩,e.kp,e.binds o.bd,λ z=>by cases z⟩
theorem z2v {x qual:Str}{st:Stmt}{f T:Addr}{oc:Value}{od an:166}{osl:171}{kV doc pm cdv ct:Value}{ob:Obj}{n:Nat}{ps:XQ}(l:K.lookup f=some ⟨oc,od,.func 176,osl⟩)
  (c:PySem.W.codeIn K cdv qual=true) (k:PySem.W.keepIn K (.ref f)=true) (t:K.lookup T=some ob) (td:ob.data=.seq #[.none] n)
  (h:∀ (kV doc pm:Value) (an:166) (cdv ct:Value) (us:XW),us.length=ps.length->∃ kk,bindArgs 176 ⟨us,[]⟩=seqItems? (.ref T) >>= kk/\kk (some #[.none])=pure (ps.zip us))
  (h1:∀ (kV doc pm:Value) (an:166) (cdv ct:Value) (us:XW),us.length+1=ps.length->∃ kk,bindArgs 176 ⟨us,[]⟩=seqItems? (.ref T) >>= kk/\kk (some #[.none])=pure (ps.zip (us++[.none]))) :
  FunD K x qual st f 176 ps true :=
 ⟨⟨oc,od,_,kV,doc,pm,an,cdv,ct,osl,rfl,l,c⟩,k,
  λ s us X hl=>by
   rw [Y13] at hl ⊢;obtain ⟨kk,e1,e2⟩:=h kV doc pm an cdv ct us hl;exact .of_defaults rfl (X _ _ t) td e1 e2,
  λ _ s us X hl=>by
   obtain ⟨kk,e1,e2⟩:=h1 kV doc pm an cdv ct us (by rw [<- hl,Y0e];rfl);exact .of_defaults rfl (X _ _ t) td e1 e2⟩
end
structure Tab (P:156)(w:World)(K:Y00)(mg:XJ)(ds:List Df)(G:List (Str×Cn)):Prop where
 bm:∀ x,x∈Wq->mg x=none
 gc:∀ x c,(x,c)∈G->143=false/\∃ v,mg x=some v/\z2f P w K v c
 fn:∀ (i:Nat) d,ds[i]?=some d->(G.any λ q=>decide (q.2=Cn.cls i))=false->(d.name==("__debug__":Str))=false/\∃ st f fd,mg d.name=some (.ref f)/\PySem.W.nsIn K mainGlobals d.name=some (some (.ref f))/\FunD K d.name d.name st f fd d.ps (decide ((d.name,Cn.dfl)∈G))/\DefOk st d (ds.map (·.name)) G d.name d.name
 mc:∀ x i,(x,Cn.cls i)∈G->143=false/\∃ d st C f fd nm q,ds[i]?=some d/\mg x=some (.ref C)/\Mk K C f/\ClsN K x C/\Fun K nm q st f fd/\DefOk st d (ds.map (·.name)) G nm q
theorem Bm {K:Y00}{μ:XV}{H:Hp}{as:153}{vs:157}(N:XQ)(r:Reps K μ H as vs):ER K μ (as.map some++List.replicate (N.length-as.length) none) (L2.start N vs) H:=by
 unfold L2.start;refine ⟨by simp [r.length],λ i d h=>?_⟩;rw [List.getElem?_append] at h ⊢;rw [Y04] at h ⊢;rw [<- r.length];split at h
 ·rename_i c;rw [if_pos c];rw [Y0l] at h ⊢;cases e:as[i]? with
  | none=>rw [e] at h;cases h
  | some a =>
   rw [e] at h;cases h;obtain ⟨v,e1,e2⟩:=r.get e;rw [e1];exact ⟨v,rfl,e2⟩
 ·exfalso
  rw [List.getElem?_replicate] at h;split at h<;>cases h
theorem JH {ds:List Df}{k i:Nat}{d:Df}(hd:ds[i]?=some d):∀ as h,callI ds k i as h≠.no->as.length=d.ps.length:=by
 intro as h q;cases k with
 | zero=>exact absurd rfl q
 | succ k =>
  unfold callI at q;rw [hd] at q;by_cases c:as.length=d.ps.length
  ·exact c
  ·exact absurd (if_neg c) q
section
variable {P:156}{w:World}{K:Y00}{mg:XJ}{base:Heap}{ds:List Df}{G:List (Str×Cn)}{cv:XZ}
noncomputable def z4c (K:Y00)(mg:XJ)(cv:XZ)(G:List (Str×Cn)):Prop:=∀ x c u,(x,Cn.exc c u)∈G->mg x=some (cv c)/\(∀ D∈u,∃ a d,cv c=.ref a/\cv D=.ref d/\z45 K a d)/\∃ a,cv c=.ref a/\TstK K G cv a u
noncomputable def z8y:Cn->Bool
 | .exc _ _=>true
 | _=>false
theorem z6e (h:(G.all λ q=>!z8y q.2)=true):z4c K mg cv G:=λ x c u hm=>by
 have:=Y1e.mp h _ hm
 cases this
theorem Ub (T:Tab P w K mg ds G)(XC:z4c K mg cv G):∀ (k i:Nat) (d:Df) (nm qn:Str) (st:Stmt) (f:Addr) (fd:FuncData) (b:Bool),ds[i]?=some d->FunD K nm qn st f fd d.ps b->DefOk st d (ds.map (·.name)) G nm qn ->
  FnOk P w K mg base (CXs P w) (2*k) f fd d.ps (spI K cv d.ps.length (callI ds k i))
 | 0,i,d,nm,qn,st,f,fd,b,hd,F,o=>by
  have no:∀ vs H Q E,¬ spI K cv d.ps.length (callI ds 0 i) vs H Q E:=λ vs H Q E ⟨_,_,_,_,_,_,z⟩=>z;exact ⟨λ vs H Q E h=>absurd h (no vs H Q E),λ A outer s H args us vs Q E _ _ _ _ h=>absurd h (no vs H Q E)⟩
 | k+1,i,d,nm,qn,st,f,fd,b,hd,F,o=>by
  have KC:∀ (cdv:Value) (A:Around) (outer:List Env) (s:130) (H:Hp) (E:XK),Room (2*k+1) (A.deeper (envOfC qn (zk st) s.heap.objs.size f cdv))->KxS (W5 (CXs P w) P w K mg base d.N qn (zk st) f cdv A outer s H E) (λ _ C H'=>E C none H') k ⟨d.N,ds.map (·.name),G⟩ cv (callI ds k):=λ cdv A outer s H E hr=>by
   refine ⟨⟨z1n,hr,rfl,o.sc.nd,rfl,o.sc.kind,λ x hx=>⟨(o.nms x hx).1.elim .inl λ z=>.inr (.inl z),(o.nms x hx).2⟩,T.bm,T.gc,λ j x hj hnc=>?_,λ x j hx=>?_,λ x c u hm=>XC x c u hm⟩,λ x hx=>⟨(o.nms x hx).1,.inl rfl⟩⟩;rotate_left
   ·obtain ⟨h1,d',st',C',f',fd',nm',q',e',m',M',N',F',o'⟩:=T.mc x j hx;exact ⟨h1,C',f',fd',d'.ps,m',M',N',F'.binds o'.bd,JH e',Ub T XC k j d' nm' q' st' f' fd' _ e' (F'.toD o') o'⟩
   have hj':(ds.map (·.name))[j]?=some x:=hj;rw [Y0l] at hj';cases e:ds[j]? with
   | none=>rw [e] at hj';cases hj'
   | some d' =>
    rw [e] at hj';cases hj';obtain ⟨h1,st',f',fd',m',s',F',o'⟩:=T.fn j d' e hnc;exact ⟨h1,f',fd',d'.ps,m',s',F'.kp,⟨F'.b0,λ z=>F'.b1 (decide_eq_true z)⟩,JH e,Ub T XC k j d' _ _ st' f' fd' _ e F' o'⟩
  have fin:∀ {H:Hp}{vs:157}{Q:VK}{E:XK},spI K cv d.ps.length (callI ds (k+1) i) vs H Q E->Zv K cv (λ _ C H'=>E C none H') (d.body.run (callI ds k)) { nx:=λ _ H'=>Q .non H',rt:=Q } (L2.start d.N vs) H:=λ {H vs Q E} h=>by
   obtain ⟨hl,μ,h,as,hH,hv,p⟩:=h;refine ⟨μ,_,h,hH,Bm d.N hv,?_⟩;have c:as.length=d.ps.length:=by rw [hv.length];exact hl
   rw [zb hd c] at p;have p1:=p;unfold Df.run jy at p1;cases e:d.body.run (callI ds k) (as.map some++List.replicate (d.N.length-as.length) none) h with
   | nx ρ h1=>rw [e] at p1;exact λ μ1 H1 σ1 e1 r1 er1=>p1 μ1 H1 .non e1 r1 .non
   | rt v h1=>rw [e] at p1;exact p1
   | ex c ρ h1=>rw [e] at p1;exact λ μ1 H1 σ1 e1 r1 er1=>p1 μ1 H1 e1 r1
   | bk ρ h1=>rw [e] at p1;exact p1.elim
   | ct ρ h1=>rw [e] at p1;exact p1.elim
   | no=>rw [e] at p1;exact p1.elim
  exact F.okX o.sc (λ vs H Q E h=>h.1) λ cdv A outer s H vs Q E hr h=>⟨_,by rw [o.body];exact sSs d.body _ _ _ _ _ _ (KC cdv A outer s H E hr) o.ok,fin h⟩
end
noncomputable def Ww (w:World)(K:Y00):List DictEntry->List (Str×Cv)->Prop
 | [],[]=>True
 | e::r,kx::s=>(e.hash=hashStr w kx.1/\(∃ t,e.key=.str kx.1 t)/\CvOk K e.val kx.2)/\Ww w K r s
 | _,_=>False
theorem Zw {P:156}{w:World}{K:Y00}:∀ {es:List DictEntry}{kvs:List (Str×Cv)},Ww w K es kvs->∃ vs,Pairs (zt P w) es vs/\DicV K kvs vs/\vs.map (·.1)=kvs.map (λ kx=>(Sum.inr kx.1:Key))/\∀ e∈es,∃ k,(zt P w).is k e.key=true/\e.hash=(zt P w).hash k
 | [],[],_=>⟨[],.nil,trivial,rfl,λ e h=>absurd h 111⟩
 | [],_::_,h=>h.elim
 | _::_,[],h=>h.elim
 | e::r,(k,xs)::s,⟨⟨h1,⟨t,h2⟩,h4⟩,h5⟩=>by
  obtain ⟨vs,p,d,n,ks⟩:=Zw (P:=P) h5;have ik:(zt P w).is (.inr k) e.key=true:=yu (k:=.inr k) ⟨t,h2⟩;refine ⟨(.inr k,e.val)::vs,.cons ik rfl p,⟨rfl,h4,d⟩,by simp [n],λ e' he=>?_⟩;rcases Y06.mp he with rfl | he
  ·exact ⟨_,ik,h1⟩
  ·exact ks e' he
theorem z6f {P:156}{w:World}{K:Y00}{a:Addr}{es:Array DictEntry}{ep:Nat}{kvs:List (Str×Cv)} (l:K.lookup a=some { cls:=.type "dict",data:=.dict es ep }) (h:Ww w K es.toList kvs) (nd:(kvs.map (·.1)).Nodup) :
  z2f P w K 155 (.dic kvs):=by
 obtain ⟨vs,p,d,n,ks⟩:=Zw (P:=P) h;refine ⟨a,_,es,ep,vs,rfl,l,⟨rfl,rfl,rfl⟩,rfl,λ e he=>ks e (by simpa using he),p,?_,d⟩;rw [n];have e:kvs.map (λ kx=>(Sum.inr kx.1:Key))=(kvs.map (·.1)).map λ k=>(Sum.inr k:Key):=by simp
 rw [e];exact List.Pairwise.map _ (λ x y hxy z=>hxy (Sum.inr.inj z)) nd
theorem JI:∀ {ns:195},PySem.W.WData.weightAll (ns.map PySem.W.WData.int)<=2 ^ 20->∀ n∈ns,Builtin.Int.intBits n<=2 ^ 20
 | [],_,n,hn=>absurd hn 111
 | m::r,h,n,hn=>by
  rw [Y09,PySem.W.WData.weightAll] at h;rcases Y06.mp hn with rfl | hn
  ·have e:PySem.W.WData.weight (.int n)=Builtin.Int.intBits n:=by rw [PySem.W.WData.weight];rfl
   omega
  ·exact JI 109 n hn
noncomputable def Bn (K:Y00)(cv:XZ)(c:List D->Hh->Res D):Sp:=spI K cv 1 c
theorem z6g {K:Y00}{cv:XZ}{c:List D->Hh->Res D}{H:Hp}{a:Addr}{ns:195}{h':Hh}(hO:z5v H)(hS:SqL K H a (ns.map V.int))(e:c [.fl (ns.map D.int)] []=.ok (.bl true) h') :
  Bn K cv c [.ref a] H (λ v _=>v=.bl true) (λ _ _ _=>False):=by
 have rp:∀ ms:List Int,Reps K [] H (ms.map D.int) (ms.map V.int):=λ ms=>by
  induction ms with
  | nil=>exact .nil
  | cons m r ih=>exact .cons (.int m) ih
 have fz:Fz K H a (ns.map V.int):=by
  rcases hS with h | h
  ·left;rcases h with h | h
   ·rcases hO a with z | ⟨o,xs,z⟩
    ·rw [h] at z;cases z
    ·rw [h] at z;cases z
   ·exact h
  ·exact .inr λ H'=>.inr h
 refine ⟨rfl,[],[],[.fl (ns.map D.int)],⟨rfl,λ n m b e1=>by simp at e1,λ n b o e1=>by simp at e1⟩,.cons (.fl fz (rp ns)) .nil,?_⟩
 ·rw [e];intro μ1 H1 v e1 r1 q1;cases q1;rfl
theorem walk_ofB {l:PySem.W.OpenLaw}{k:Nat}{q:156}{loose:XQ}{XP:(Str->Option Value)->Heap->Prop}{YP:World->Heap->Prop}{d:DefRec}{K:Params->Y00}{c:List D->Hh->Res D}{x:Str}
  (hn:l.most=some 63) (hdf:d.params.defaults=[]) (hr:Room k callerA)
  (hY:∀ (w:World) (h:Heap),YP w h->(K w.params).In h)
  (F:∀ (w:World) (mg:XJ) (fa:Addr) (h:Heap),(K w.params).In h->h.Ns mainGlobals mg->mg d.name=some (.ref fa) ->
   ∃ (cv:XZ) (fd:FuncData),(∀ (s:130) (u:Value),BindsTo s fd ⟨[u],[]⟩ [(x,u)]) /\
    ∀ base:Heap,(K w.params).In base->base.Ns mainGlobals mg->FnOk l.prog w (K w.params) mg base (CXs l.prog w) k fa fd [x] (Bn (K w.params) cv c))
  (hc:∀ ns:List Int,ns.length<=63->(∀ n∈ns,Builtin.Int.intBits n<=2 ^ 20)->∃ h',c [.fl (ns.map D.int)] []=.ok (.bl true) h') :
  PySem.W.WalkO q loose XP YP l.row.toRowW d [] (λ f vs=>PySem.call f vs):=by
 intro w s₀ s₁ mg mb G Y fa o pm cd doc dV kV ho hd hcd hD hmg hg args vals as hpre hlay hrd hwl hlo;obtain rfl:dV=.none:=PySem.W.Dflts.none hD hdf;obtain rfl:kV=.none:=PySem.W.Dflts.noKw hD;obtain ⟨a,vs,ns,rfl,rfl,hobj,hints,hlen⟩:=Att.script_of hn hpre hwl;have hbits:∀ n∈ns,Builtin.Int.intBits n<=2 ^ 20:=by
  have h1:PySem.W.WData.layable (.list (ns.map .int))=true:=by
   have:=hlay
   unfold PySem.W.WData.layableAll at this;simpa using this
  have h2:=(PySem.W.layableW_iff.mp h1).2.2;exact JI (by simpa [PySem.W.WData.weight] using h2)
 have KX:=hY w _ Y;obtain ⟨cv,fd,hb,hF⟩:=F w mg fa _ KX G.T.g hmg;obtain ⟨h',e⟩:=hc ns hlen hbits;refine PySem.W.enter_call (codeAny_mono (OB KX G.T.g G.T.b G.T.builtins G.T.nolimit hg hobj hints (Y0n hlen 108) hr hF hb (λ H hO hS=>z6g hO hS e) (λ H e' s' z=>by
  obtain ⟨_,_,_,_,_,_,_,_,_,_,_,z⟩:=z;exact z)) λ r s' hq=>?_)
 obtain ⟨rfl,h2,h3,h4⟩:=hq;exact ⟨.inl ⟨.bool true,.bool true,[],rfl,λ _=>rfl,.bool true,Att.post_true l _,λ _=>⟨List.Pairwise.nil,λ _ hm=>(nomatch hm)⟩⟩,h2,h3,h4⟩
end PI
namespace PI
open PySem L2
section
variable {cl:107}
theorem z2w {i z0 z1 h}:E.ev cl (.int i z0) z1 h=.ok 187 h:=rfl
theorem we {i z0 ρ h}:E.ev cl (.var i z0) ρ h=match ρ[i]? with | some (some d)=>.ok d h | _=>.no:=rfl
theorem z2x {op a b z0 ρ h}:E.ev cl (.bin op a b z0) ρ h=(a.ev cl ρ h).bind λ x h1=>(b.ev cl ρ h1).bind λ y h2=>jl op x y h2:=rfl
theorem z8z {op a b z0 ρ h}:E.ev cl (.cmp op a b z0) ρ h=(a.ev cl ρ h).bind λ x h1=>(b.ev cl ρ h1).bind λ y h2=>jx op x y h2:=rfl
theorem z90 {f a r z0 z1 ρ h}:E.ev cl (.call f a r z0 z1) ρ h=(a.ev cl ρ h).bind λ x h1=>(r.ev cl ρ h1).bind λ xs h2=>cl f (x::xs) h2:=rfl
theorem zax {a i z0 ρ h}:E.ev cl (.sub a i z0) ρ h=(a.ev cl ρ h).bind λ x h1=>(i.ev cl ρ h1).bind λ y h2=>jC x y h2:=rfl
theorem z91 {l ρ h}:E.ev cl (.ofL l) ρ h=(l.ev cl ρ h).bind λ xs h1=>new 178 h1:=rfl
theorem vm0 {m o z0 z1 ρ h}:E.ev cl (.m0 m o z0 z1) ρ h=(o.ev cl ρ h).bind λ x h1=>m0D m x h1:=rfl
theorem vm1 {m o a z0 z1 ρ h}:E.ev cl (.m1 m o a z0 z1) ρ h=(o.ev cl ρ h).bind λ x h1=>onL x h1 ((a.ev cl ρ h1).bind λ y h2=>m1D m x y h2):=rfl
theorem Vq {neg a z0 z1 ρ h}:E.ev cl (.cmpN neg a z0 z1) ρ h=(a.ev cl ρ h).bind λ x h1=>Zo neg x h1:=rfl
theorem z4d {es z0 ρ h}:L.ev cl (.disp es z0) ρ h=(es.ev cl ρ h).bind λ xs h1=>if xs.length<=1000 then .ok xs h1 else .no:=rfl
theorem zay {e ρ h}:I.ev cl (.seq e) ρ h=(e.ev cl ρ h).bind λ x h1=>match x with
  | .tup xs=>.ok ([],xs) h1
  | .fl xs=>.ok ([],xs) h1
  | .loc n=>match rd h1 n with | some xs=>.ok ([(n,xs)],xs) h1 | none=>.no
  | .str x=>.ok ([],x.cps.toList.map λ c=>.str ⟨#[c]⟩) h1
  | _=>.no:=rfl
theorem z4e {e ρ h}:I.ev cl (.keys e) ρ h=(e.ev cl ρ h).bind λ x h1=>Zp x h1:=rfl
theorem z6h {z0 h}:Es.ev cl .nil z0 h=.ok [] h:=rfl
theorem z4f {e r ρ h}:Es.ev cl (.cons e r) ρ h=(e.ev cl ρ h).bind λ x h1=>(r.ev cl ρ h1).bind λ xs h2=>.ok (x::xs) h2:=rfl
theorem GR {i e z0 z1 ρ h}:S.run cl (.set i e z0 z1) ρ h=j8 ρ (e.ev cl ρ h) λ d h1=>.nx (ρ.set i (some d)) h1:=rfl
theorem zaz {e z0 ρ h}:S.run cl (.ret e z0) ρ h=j8 ρ (e.ev cl ρ h) λ d h1=>.rt d h1:=rfl
theorem z92 {c a b z0 ρ h}:S.run cl (.iff c a b z0) ρ h=j8 ρ (c.evT cl ρ h) λ t h1=>if t then a.run cl ρ h1 else b.run cl ρ h1:=rfl
theorem yex {e z0 ρ h}:S.run cl (.ex e z0) ρ h=j8 ρ (e.ev cl ρ h) λ _ h1=>.nx ρ h1:=rfl
theorem z93 {o i v z0 z1 ρ h}:S.run cl (.put o i v z0 z1) ρ h=j8 ρ (v.ev cl ρ h) λ z h1=>j8 ρ (o.ev cl ρ h1) λ x h2=>j8 ρ (i.ev cl ρ h2) λ y h3=>match Zl x y z h3 with | some h4=>.nx ρ h4 | none=>.no:=rfl
theorem z4g {c b z0 ρ h}:S.run cl (.whil c b z0) ρ h=whR (λ ρ' h'=>c.evT cl ρ' h') (λ ρ' h'=>b.run cl ρ' h') ρ h:=rfl
theorem Bp {o f v z0 z1 ρ h}:S.run cl (.setF o f v z0 z1) ρ h=j8 ρ (v.ev cl ρ h) λ z h1=>j8 ρ (o.ev cl ρ h1) λ x h2=>match qJ x f z h2 with | some h3=>.nx ρ h3 | none=>.no:=rfl
theorem J8 {ρ h}:Ss.run cl .nil ρ h=.nx ρ h:=rfl
theorem jW {s r ρ h}:Ss.run cl (.cons s r) ρ h=jZ (s.run cl ρ h) λ ρ' h'=>r.run cl ρ' h':=rfl
end
section
variable {h l:Hh}{o u:O}{n k:Nat}{xs:153}
theorem hx (h l:Hh)(k:Nat):(h++l)[h.length+k]?=l[k]?:=by
 rw [Y0m 109];congr 1;omega
theorem hx0 (h l:Hh):(h++l)[h.length]?=l[0]?:=hx h l 0
theorem z94 (h l:Hh)(k:Nat)(o:O):(h++l).set (h.length+k) o=h++l.set k o:=by
 rw [List.set_append_right _ _ 109];congr 2;omega
theorem Bq (h l:Hh)(o:O):(h++l).set h.length o=h++l.set 0 o:=z94 h l 0 o
theorem rdx (h l:Hh)(k:Nat):rd (h++l) (h.length+k)=rd l k:=by unfold rd;rw [hx]
theorem zb0 (h l:Hh):rd (h++l) h.length=rd l 0:=rdx h l 0
theorem V0 (e:h[n]?=some 178):rd h n=some xs:=by unfold rd;rw [e]
theorem Wx (e:h[n]?=some o):(h++l)[n]?=some o:=by rw [Y11 (Y01.mp e).1];exact e
theorem zu:stay [] h:=by unfold stay;simp
theorem stay_one {n:Nat}{ds:153}{h:Hh}:stay [(n,ds)] h ↔ rd h n=some ds:=by unfold stay;simp
end
theorem QL (n d:Nat)(i:Int)(h:0<=i):HT.sIx n d (some i)=min i.toNat n:=by
 unfold HT.sIx;exact if_neg 109
theorem Z0 (n d:Nat):HT.sIx n d none=d:=rfl
theorem UW {α:Type}{xs:List α}{k:Nat}:atI xs (k:Int)=xs[k]?:=by
 unfold atI ixN;rw [if_pos 109];by_cases h:k<xs.length
 ·rw [if_pos 109];simp
 ·rw [if_neg 109,Y1s 109];rfl
theorem qM {α:Type}{xs:List α}{i:Int}(h:0<=i):atI xs i=xs[i.toNat]?:=by
 have:i=(i.toNat:Int):=by omega
 rw [this,UW];rfl
theorem eqS {a b:Str}{h:Hh}(ha:PyData.strOk a=true)(hb:PyData.strOk b=true):jx .Eq (.str a) (.str b) h=.ok (.bl (a==b)) h:=if_pos ⟨ha,hb,Y1h _⟩
theorem neS {a b:Str}{h:Hh}(ha:PyData.strOk a=true)(hb:PyData.strOk b=true):jx .NotEq (.str a) (.str b) h=.ok (.bl (!(a==b))) h:=if_pos ⟨ha,hb,Y1h _⟩
theorem eqI {a b:Int}{h:Hh}:jx .Eq (.int a) (.int b) h=.ok (.bl (a==b)) h:=rfl
theorem qg {i:Int}(h:i.natAbs<1048576):fits i=true:=by
 unfold fits Builtin.Int.intBits;refine decide_eq_true ?_
 split
 ·decide
 ·rename_i z;have hz:i.natAbs≠0:=by simpa using z
  have:i.natAbs.log2<20:=by
   rw [Nat.log2_lt hz];exact h
  omega
noncomputable def qp:Nat->Ss->Ss
 | 0,_=>.nil
 | _+1,.nil=>.nil
 | n+1,.cons s r=>.cons s (qp n r)
noncomputable def jc:Nat->Ss->Ss
 | 0,b=>b
 | _+1,.nil=>.nil
 | n+1,.cons _ r=>jc n r
theorem Bs (cl:107):∀ (n:Nat) (b:Ss) (ρ:En) (h:Hh),Ss.run cl b ρ h=jZ (Ss.run cl (qp n b) ρ h) λ ρ' h'=>Ss.run cl (jc n b) ρ' h'
 | 0,b,ρ,h=>by simp [qp,jc,J8,jW]
 | n+1,.nil,ρ,h=>by simp [qp,jc,J8,jW]
 | n+1,.cons s r,ρ,h=>by
  simp only [qp,jc,J8,jW];cases S.run cl s ρ h with
  | nx ρ' h'=>simp only [seqS_nx];exact Bs cl n r ρ' h'
  | _=>rfl
noncomputable def wf (ns:195)(i:Int):Int:=ns.getD i.toNat 0
theorem z6i (ns:195)(i:Int)(hi:0<=i)(h:i<(ns.length:Int)):atI (ns.map D.int) i=some (.int (wf ns i)):=by
 rw [qM hi,wf,Y0l,Y0j,Y07 109];rfl
theorem Bt (ns:195)(i:Int)(h:¬ i<(ns.length:Int)):wf ns i=0:=by
 unfold wf;rw [Y0j,Y1s 109];rfl
abbrev scr (ns:195):D:=.fl (ns.map .int)
noncomputable def cs (x:Str):List Nat:=x.cps.toList
noncomputable def mkS (l:List Nat):Str:=⟨l.toArray⟩
theorem z95 (x:Str):mkS (cs x)=x:=by cases x;simp [cs,mkS]
theorem qh (x y:Str):cs (x++y)=cs x++cs y:=by
 show (x.cps++y.cps).toList=_;simp [cs]
theorem Wy (x:Str):x.length=(cs x).length:=by simp [cs,Str.length]
theorem z96 {l:List Nat}(h:∀ c∈l,c<1114112):PyData.strOk (mkS l)=true:=by
 unfold PyData.strOk mkS;simpa using h
theorem z97 {x:Str}(h:∀ c∈cs x,c<1114112):PyData.strOk x=true:=by rw [<- z95 x];exact z96 h
theorem Zx:∀ xs:List Str,wu (xs.map D.str)=some xs
 | []=>rfl
 | x::r=>by simp [wu,Zx r]
structure Wd (x:Str):Prop where
 ne:cs x≠[]
 len:(cs x).length<=20
 ch:∀ c∈cs x,c≠40/\c≠41/\c≠10/\c<1114112
section
variable {cl:107}{ρ ρ':En}{h h' h2 h3:Hh}{c e:E}{a b r:Ss}{p p0 p1 p2 p3:Pos}{d x:D}{i:Nat}
theorem zx {o:RS}(hc:c.evT cl ρ h=.ok false h')(k:Ss.run cl r ρ h'=o):Ss.run cl (.cons (.iff c a .nil p) r) ρ h=o:=by
 rw [<- k];show jZ (j8 ρ (c.evT cl ρ h) λ t h1=>if t then a.run cl ρ h1 else Ss.nil.run cl ρ h1) 185=_;rw [hc];rfl
theorem z4h (hc:c.evT cl ρ h=.ok true h'):Ss.run cl (.cons (.iff c a b p) r) ρ h=jZ (a.run cl ρ h') λ ρ' h'=>r.run cl ρ' h':=by
 show jZ (j8 ρ (c.evT cl ρ h) λ t h1=>if t then a.run cl ρ h1 else b.run cl ρ h1) 185=_;rw [hc];rfl
theorem ja (hc:c.evT cl ρ h=.ok true h')(ha:a.run cl ρ h'=.rt d h2):Ss.run cl (.cons (.iff c a b p) r) ρ h=.rt d h2:=by rw [z4h hc,ha];rfl
theorem qN {o:RS}(hc:c.evT cl ρ h=.ok true h')(ha:a.run cl ρ h'=.nx ρ' h2)(k:Ss.run cl r ρ' h2=o):Ss.run cl (.cons (.iff c a b p) r) ρ h=o:=by rw [<- k,z4h hc,ha];rfl
theorem zj (he:e.ev cl ρ h=.ok d h'):Ss.run cl (.cons (.ret e p) r) ρ h=.rt d h':=by
 show jZ (j8 ρ (e.ev cl ρ h) λ d h1=>.rt d h1) 185=_;rw [he];rfl
theorem zd {o:RS}(he:e.ev cl ρ h=.ok d h')(k:Ss.run cl r (ρ.set i (some d)) h'=o):Ss.run cl (.cons (.set i e p1 p) r) ρ h=o:=by
 rw [<- k];show jZ (j8 ρ (e.ev cl ρ h) λ d h1=>.nx (ρ.set i (some d)) h1) 185=_;rw [he];rfl
theorem yI {o:RS}(he:e.ev cl ρ h=.ok d h')(k:Ss.run cl r ρ h'=o):Ss.run cl (.cons (.ex e p) r) ρ h=o:=by
 rw [<- k];show jZ (j8 ρ (e.ev cl ρ h) λ d h1=>.nx ρ h1) 185=_;rw [he];rfl
theorem wC {o:RS}{is:List (Nat×Pos)}(he:e.ev cl ρ h=.ok d h')(hb:je (.tup is p1) (Wm d h') ρ=some ρ')(k:Ss.run cl r ρ' h'=o):Ss.run cl (.cons (.setT is e p1 p) r) ρ h=o:=by
 rw [<- k];show jZ (j8 ρ (e.ev cl ρ h) λ d h1=>match je (.tup is p1) (Wm d h1) ρ with | some ρ'=>.nx ρ' h1 | none=>.no) 185=_
 rw [he,andS_ok,hb];rfl
theorem zg {o:RS}(q:o=.rt d h):jy o=.ok d h:=by rw [q];rfl
theorem z6j {o:RS}(q:o=.nx ρ h):jy o=.ok .non h:=by rw [q];rfl
theorem bnd {α β:Type}{m:Res α}{f:α->Hh->Res β}{x:α}{y:Res β}(q:m=.ok x h)(g:f x h=y):m.bind f=y:=by rw [q];exact g
theorem jo {b:Bool}(q:e.evT cl ρ h=.ok b h'):e.ev cl ρ h=.ok (.bl b) h':=by
 have q:((e.ev cl ρ h).bind λ d h1=>match d with | .bl b=>.ok b h1 | _=>.no)=Res.ok b h':=q
 cases m:e.ev cl ρ h with
 | ok d h1 =>
  rw [m] at q;cases d with
  | bl b'=>cases q;rfl
  | _=>cases q
 | exc c h1=>rw [m] at q;cases q
 | no=>rw [m] at q;cases q
theorem Wz {e':E}{r:Es}(ha:e.evT cl ρ h=.ok false h'):(E.and e e' r p).evT cl ρ h=.ok false h':=bnd (bnd (jo ha) rfl) rfl
theorem Bu {e':E}{t:Bool}(ha:e.evT cl ρ h=.ok true h')(hb:e'.evT cl ρ h'=.ok t h2):(E.and e e' .nil p).evT cl ρ h=.ok t h2:=bnd (bnd (jo ha) (bnd (jo hb) rfl)) rfl
theorem zi {a' b':E}{x y:D}{op:CmpOp}{t:Bool}(ha:a'.ev cl ρ h=.ok x h')(hb:b'.ev cl ρ h'=.ok y h2)(hc:jx op x y h2=.ok (.bl t) h3):E.evT cl (.cmp op a' b' p) ρ h=.ok t h3:=bnd (bnd ha (bnd hb hc)) rfl
theorem Bv {e':E}{r:Es}(ha:e.evT cl ρ h=.ok true h')(hb:e'.evT cl ρ h'=.ok false h2):(E.and e e' (.cons c r) p).evT cl ρ h=.ok false h2:=bnd (bnd (jo ha) (bnd (jo hb) rfl)) rfl
theorem WA {e':E}{t:Bool}(ha:e.evT cl ρ h=.ok true h')(hb:e'.evT cl ρ h'=.ok true h2)(hc:c.evT cl ρ h2=.ok t h3):(E.and e e' (.cons c .nil) p).evT cl ρ h=.ok t h3:=bnd (bnd (jo ha) (bnd (jo hb) (bnd (jo hc) rfl))) rfl
theorem jp {o:RS}{tg:Tg}{it:I}{q:Ck×List D}(hi:it.ev cl ρ h=.ok q h')(hf:zH q.1 (zO tg λ ρ' h'=>a.run cl ρ' h') q.2 ρ h'=.nx ρ' h2)(k:Ss.run cl r ρ' h2=o):Ss.run cl (.cons (.forr tg it a p) r) ρ h=o:=by
 rw [<- k];show jZ (j8 ρ (it.ev cl ρ h) λ q h1=>zH q.1 (zO tg λ ρ' h'=>a.run cl ρ' h') q.2 ρ h1) 185=_;rw [hi,andS_ok,hf];rfl
theorem QM {o:RS}{oe ie ve:E}{x y z:D}{h4:Hh}(hv:ve.ev cl ρ h=.ok z h')(ho:oe.ev cl ρ h'=.ok x h2)(hi:ie.ev cl ρ h2=.ok y h3)(hp:Zl x y z h3=some h4)(k:Ss.run cl r ρ h4=o):Ss.run cl (.cons (.put oe ie ve p1 p) r) ρ h=o:=by
 rw [<- k];show jZ (j8 ρ (ve.ev cl ρ h) λ z h1=>j8 ρ (oe.ev cl ρ h1) λ x h2=>j8 ρ (ie.ev cl ρ h2) λ y h3=>match Zl x y z h3 with | some h4=>.nx ρ h4 | none=>.no) 185=_
 rw [hv,andS_ok,ho,andS_ok,hi,andS_ok,hp];rfl
theorem QN {o:RS}{ck:Ck}{f:D->En->Hh->RS}{l:153}(hs:stay ck h)(hf:f x ρ h=.nx ρ' h')(k:zH ck f l ρ' h'=o):zH ck f (x::l) ρ h=o:=by
 rw [zH,if_pos hs,hf];exact k
theorem Bw {n:Nat}{l:153}(g:h[n]?=some (.lst l))(m:Res D):onL 146 h m=m:=by
 show (match h[n]? with | some (.lst _)=>m | _=>.no)=m
 rw [g]
theorem fdk {i k:Int}(hk:0<k/\k<1073741824:=by decide):jl .FloorDiv 187 (.int k) h=.ok (.int (i/k)) h:=if_pos ⟨hk.1,by omega⟩
theorem mdk {i k:Int}(hk:0<k:=by decide):jl .Mod 187 (.int k) h=.ok (.int (i%k)) h:=if_pos hk
theorem QO {j:Int}(ha:e.ev cl ρ h=.ok (.int j) h')(hj:-1000000<=j/\j<=1000000):I.ev cl (.rng e p1 p2) ρ h=.ok ([],(List.range j.toNat).map λ k=>.int (k:Nat)) h':=bnd ha (if_pos hj)
theorem z98 {e':E}{t:Bool}(ha:e.evT cl ρ h=.ok false h')(hb:e'.evT cl ρ h'=.ok t h2):(E.or e e' .nil p).evT cl ρ h=.ok t h2:=bnd (bnd (jo ha) (bnd (jo hb) rfl)) rfl
theorem Uc {xs:153}(he:e.ev cl ρ h=.ok x h')(hs:qo x h'=some xs):E.ev cl (.tupE e p p1) ρ h=.ok (.tup xs) h':=bnd he (by
 show (match qo x h' with | some xs=>Res.ok (D.tup xs) h' | none=>.no)=_
 rw [hs])
theorem jK {tg:Tg}{ct:En->Hh->Res Bool}{ce:En->Hh->Res D}(hb:je tg x ρ=some ρ')(hc:ct ρ' h=.ok true h')(he:ce ρ' h'=.ok d h2):j4 tg ρ ct ce x h=.ok (some d) h2:=by
 show (match je tg x ρ with | some ρ'=>(ct ρ' h).bind λ b h1=>if b then (ce ρ' h1).bind λ d h2=>.ok (some d) h2 else .ok none h1 | none=>.no)=_
 rw [hb];exact bnd hc (bnd he rfl)
theorem z2y {n:Nat}{xs:153}(he:e.ev cl ρ h=.ok 146 h')(hr:rd h' n=some xs):I.ev cl (.seq e) ρ h=.ok ([(n,xs)],xs) h':=bnd he (by
 show (match rd h' n with | some xs=>Res.ok (([(n,xs)],xs):Ck×List D) h' | none=>.no)=_
 rw [hr])
theorem zT {elt:E}{tg:Tg}{it:I}{ct:Es}{ns:XQ}{cap:147}{sc:Scope}{q:Ck×List D}{xs:153}(hi:it.ev cl ρ h=.ok q h')(hl:q.2.length<=1000000)(hc:181):E.ev cl (.ofL (.comp elt tg it ct ns cap sc p)) ρ h=.ok (.loc h2.length) (h2++[.lst xs]):=bnd (bnd hi ((if_pos hl).trans hc)) rfl
theorem yk {i:Int}(he:e.ev cl ρ h=.ok 187 h'):Eo.ev cl (.some e) ρ h=.ok (some i) h':=bnd he rfl
theorem Vr (n:Nat){s:Ss}{o:RS}(q:Ss.run cl (qp n s) ρ h=.nx ρ' h')(k:Ss.run cl (jc n s) ρ' h'=o):Ss.run cl s ρ h=o:=by rw [Bs cl n,q];exact k
theorem mlk {i j:Int}(hi:fits i=true)(hj:fits j=true):jl .Mult 187 (.int j) h=.ok (.int (i*j)) h:=if_pos ⟨hi,hj⟩
theorem z99 {o:RS}(hc:c.evT cl ρ h=.ok false h')(hb:b.run cl ρ h'=.nx ρ' h2)(k:Ss.run cl r ρ' h2=o):Ss.run cl (.cons (.iff c a b p) r) ρ h=o:=by
 rw [<- k];show jZ (j8 ρ (c.evT cl ρ h) λ t h1=>if t then a.run cl ρ h1 else b.run cl ρ h1) 185=_;rw [hc];show jZ (b.run cl ρ h') _=_;rw [hb];rfl
end
inductive Kd where
 | num (n:Int) | var (x:Str) | op (s:Str) | lett (x:Str) | ite | call (f:Str) (g:XY) | doo (d:Str) | handle (h:Str) | go | guard
inductive G where
 | nd (k:Kd) (ps:List G)
noncomputable def Kd.tag:Kd->Str
 | .num _=>"num" | .var _=>"var" | .op _=>"op" | .lett _=>"let" | .ite=>"if" | .call _ _=>"call" | .doo _=>"do" | .handle _=>"handle" | .go=>"go" | .guard=>"guard"
noncomputable def Kd.isGo:Kd->Bool
 | .go=>true
 | _=>false
noncomputable def Kd.isIf:Kd->Bool
 | .ite=>true
 | _=>false
noncomputable def jq:Option Str->D
 | none=>.non
 | some g=>.str g
noncomputable def Kd.enc:Kd->List D->D
 | .num n,ps=>.tup (.str "num"::.int n::ps)
 | .var x,ps=>.tup (.str "var"::.str x::ps)
 | .op s,ps=>.tup (.str "op"::.str s::ps)
 | .lett x,ps=>.tup (.str "let"::.str x::ps)
 | .ite,ps=>.tup (.str "if"::ps)
 | .call f g,ps=>.tup [.str "call",.str f,jq g,.tup ps]
 | .doo d,ps=>.tup (.str "do"::.str d::ps)
 | .handle h,ps=>.tup (.str "handle"::.str h::ps)
 | .go,ps=>.tup (.str "go"::ps)
 | .guard,ps=>.tup (.str "guard"::ps)
mutual
noncomputable def G.d:G->D
 | .nd k ps=>k.enc (G.ds ps)
noncomputable def G.ds:List G->List D
 | []=>[]
 | g::r=>g.d::G.ds r
end
mutual
noncomputable def G.size:G->Nat
 | .nd _ ps=>1+G.sizes ps
noncomputable def G.sizes:List G->Nat
 | []=>0
 | g::r=>g.size+G.sizes r
end
noncomputable def Kd.ok (k:Kd)(n:Nat):Bool:=match k with
 | .num _ | .var _=>n==0
 | .op _ | .lett _ | .handle _ | .go | .guard=>n==2
 | .ite=>n==3
 | .doo _=>n==1
 | .call _ _=>true
mutual
noncomputable def G.ok:G->Bool
 | .nd k ps=>k.ok ps.length&&G.oks ps
noncomputable def G.oks:List G->Bool
 | []=>true
 | g::r=>g.ok&&G.oks r
end
theorem w5:∀ gs:List G,G.ds gs=gs.map G.d
 | []=>by rw [G.ds];rfl
 | g::r=>by rw [G.ds,w5 r];rfl
theorem yl (a b:List G):G.ds (a++b)=G.ds a++G.ds b:=by simp [w5]
theorem Bx (a:List G):(G.ds a).length=a.length:=by simp [w5]
theorem jv:∀ (a b:List G),G.sizes (a++b)=G.sizes a+G.sizes b
 | [],b=>by rw [Y0s];simp [G.sizes]
 | g::r,b=>by rw [Y2v,G.sizes,G.sizes,jv r b];omega
theorem so:∀ x∈(["num","var","op","let","if","call","do","handle","go","guard","never","jump","once","many"]:List Str),PyData.strOk x=true:=by decide +kernel
theorem z2z:PyData.strOk "call"=true:=so _ 111
theorem Zy (k:Kd):PyData.strOk k.tag=true:=by cases k<;>exact so _ (by simp [Kd.tag])
noncomputable def Kd.isCall:Kd->Bool
 | .call _ _=>true
 | _=>false
noncomputable def Kd.isGuard:Kd->Bool
 | .guard=>true
 | _=>false
theorem QP (k:Kd):(k.tag==("call":Str))=k.isCall:=by cases k<;>rfl
theorem z9a (k:Kd)(ps:153):∃ r,k.enc ps=.tup (.str k.tag::r):=by cases k<;>exact 125
theorem JJ (k:Kd)(ps:153)(h:Hh):jC (k.enc ps) (.int 0) h=.ok (.str k.tag) h:=by
 obtain ⟨r,e⟩:=z9a k ps;rw [e,sub_tup,qM 108];rfl
theorem z9b (a b:D)(ps:153)(h:Hh):yG (.tup (a::b::ps)) (some 2) none h=.ok (.tup ps) h:=by
 simp only [yG,wF];rw [QL _ _ _ 108,Z0];have e:min (2:Int).toNat (a::b::ps).length=2:=by simp
 rw [e,if_neg 111];simp
theorem z9c (a:D)(ps:153)(h:Hh):yG (.tup (a::ps)) (some 1) none h=.ok (.tup ps) h:=by
 simp only [yG,wF];rw [QL _ _ _ 108,Z0];have e:min (1:Int).toNat (a::ps).length=1:=by simp
 rw [e,if_neg 111];simp
end PI
namespace KB
open PySem
noncomputable def tb (x:Int)(k:Nat):Bool:=decide (x/2 ^ k%2=1)
theorem jb (x:Int):tb x 0=decide (x%2=1):=by
 unfold tb;simp
theorem j2 (x:Int)(k:Nat):tb x (k+1)=tb (x/2) k:=by
 unfold tb;have e:x/2 ^ (k+1)=x/2/2 ^ k:=by
  rw [Int.ediv_ediv_of_nonneg 108,Y27,Y3v]
 rw [e]
theorem pw_pos (n:Nat):(0:Int)<2 ^ n:=Int.pow_pos 108
theorem z6k {x y:Int}(h:∀ k,tb x k=tb y k):∀ n:Nat,x%2 ^ n=y%2 ^ n:=by
 intro n
 induction n generalizing x y with
 | zero=>simp [Int.emod_one]
 | succ n ih =>
  have h0:=h 0;rw [jb,jb] at h0;have hs:∀ k,tb (x/2) k=tb (y/2) k:=by
   intro k;rw [<- j2,<- j2];exact h (k+1)
  have ihh:=ih hs;have h0':x%2=y%2:=by
   have:=decide_eq_decide.mp h0
   omega
  have e:∀ z:Int,z%2 ^ (n+1)=2*(z/2%2 ^ n)+z%2:=by
   intro z;have p:=pw_pos n;have hz:z=2*(z/2)+z%2:=by omega
   have hd:=Int.emod_add_mul_ediv (z/2) (2 ^ n);have l0:=Y2m (z/2) (Int.ne_of_gt p);have l1:=Y24 (z/2) p;have p1:(2:Int) ^ (n+1)=2*2 ^ n:=by rw [Y27,Y3v]
   have key:z=(2*(z/2%2 ^ n)+z%2)+2 ^ (n+1)*(z/2/2 ^ n):=by
    rw [p1,Int.mul_assoc];omega
   have:=((Int.ediv_emod_unique (a:=z) (b:=2 ^ (n+1)) (r:=2*(z/2%2 ^ n)+z%2) (q:=z/2/2 ^ n) (by rw [p1];omega)).mpr ⟨key.symm,by omega,by rw [p1];omega⟩).2
   exact this
  rw [e x,e y,ihh,h0']
theorem z6l {x y:Int}(h:∀ k,tb x k=tb y k):x=y:=by
 have hl:=z6k h;obtain ⟨n,hn⟩:∃ n:Nat,x.natAbs<2 ^ n/\y.natAbs<2 ^ n :=
  ⟨x.natAbs+y.natAbs,Y23 (Nat.le_add_right _ _) Nat.lt_two_pow_self,
   Y23 (Nat.le_add_left _ _) Nat.lt_two_pow_self⟩
 have h1:=hl (n+1);have p1:(2:Int) ^ (n+1)=2*2 ^ n:=by rw [Y27,Y3v]
 have pc:((2 ^ n:Nat):Int)=(2:Int) ^ n:=by simp
 have hd:(2 ^ (n+1):Int) ∣ (x-y):=Int.dvd_of_emod_eq_zero (by
  rw [Int.sub_emod,h1,Int.sub_self];simp)
 obtain ⟨c,hc⟩:=hd;rw [p1,Int.mul_assoc] at hc;generalize hP:(2:Int) ^ n=P at *
 have hc0:c=0:=by
  have b1:x-y<2*P:=by omega
  have b2:-(2*P)<x-y:=by omega
  have pp:0<P:=by have:=pw_pos n;omega
  by_cases h:1<=c
  ·have:P*1<=P*c:=Y2w h 109
   omega
  ·by_cases h':c<=-1
   ·have:P*c<=P*(-1):=Y2w h' 109
    omega
   ·omega
 subst hc0;omega
theorem ZA (x:Int)(k:Nat):tb (Builtin.bitNot x) k=!tb x k:=by
 induction k generalizing x with
 | zero =>
  rw [jb,jb]
  have:Builtin.bitNot x%2=1 ↔ ¬ x%2=1:=by unfold Builtin.bitNot;omega
  by_cases h:x%2=1<;>simp [h,this]
 | succ k ih =>
  rw [j2,j2]
  have:Builtin.bitNot x/2=Builtin.bitNot (x/2):=by unfold Builtin.bitNot;omega
  rw [this,ih]
theorem jQ (x y:Int)(k:Nat):tb (Builtin.bitAnd x y) k=(tb x k&&tb y k):=by
 induction k generalizing x y with
 | zero =>
  rw [jb,jb,jb,PySem.W.kbt_halves];by_cases h:x%2=1<;>by_cases h':y%2=1<;>simp [h,h']<;>omega
 | succ k ih =>
  rw [j2,j2,j2]
  have:Builtin.bitAnd x y/2=Builtin.bitAnd (x/2) (y/2):=by
   rw [PySem.W.kbt_halves x y]
   split<;>omega
  rw [this,ih]
theorem zD (x y:Int)(k:Nat):tb (Builtin.bitOr x y) k=(tb x k||tb y k):=by
 unfold Builtin.bitOr;rw [ZA,jQ,ZA,ZA];cases tb x k<;>cases tb y k<;>rfl
theorem wS (x y:Int)(k:Nat):tb (x-Builtin.bitAnd x y) k=(tb x k&&!tb y k):=by
 rw [<- PyProof.Rows.bitAnd_not,jQ,ZA]
theorem zm (k:Nat):tb 0 k=false:=by unfold tb;simp
end KB
set_option synthInstance.maxHeartbeats 4000000
set_option synthInstance.maxSize 100000
namespace K31
open PySem L2 PI
abbrev Z (l a b:Nat):PySem.Pos:=⟨l,a,l,b⟩
noncomputable instance (n:Nat):OfNat PySem.Pos n:=⟨⟨n/100000,n/100%1000,n/100000,n/100%1000+n%100⟩⟩
noncomputable def g_FIRST_PART:List (Str×Cv):=[("num",.int 2),("var",.int 2),("op",.int 2),("let",.int 2),("if",.int 1),("do",.int 2),("handle",.int 2),("go",.int 1),("guard",.int 1)]
abbrev zf:List (Str×Cn):=[("FIRST_PART",(.dic g_FIRST_PART)),("Rest",(.cls 42)),("Found",(.cls 43)),("row_of",.dfl)]
abbrev FN:List Str:="parts_of"::"all_within"::"bodies_of"::"own_block"::"deeds_of"::"bits_by_deed"::"row_by"::"told"::"less"::"opened"::"filled"::"joined"::"without"::"rests_of"::"clause_rows"::"rest_of"::"inner"::"open_rows"::"row_of"::"found_rows"::"asked_rows"::"bodies_row"::"spot_row"::"use_row"::"_law_cell"::"_law_name"::"_law_names"::"_law_pick"::"_law_args"::"_law_called"::"_law_under"::"_law_beside"::"_law_grown"::"_law_gone"::"_law_body"::"_law_clause"::"_law_handler"::"_law_item"::"_law_told"::"_law_alike"::"_law_last"::"law"::"__init__"::"__init__"::[]
noncomputable def top (i:Nat):Stmt:=PySem.Challenge.pw_deedwright_k31_rows_of_what_stands_ahead.main.body.getD i (.Pass 123)
class Ix (x:Str) (N:XQ) (i:outParam Nat):Prop
instance [Ix x N i]:Ix x (y::N) (i+1):=⟨⟩
instance:Ix x (x::N) 0:=⟨⟩
class Gx (x:Str) (g:List (Str×Cn)) (c:outParam Cn):Prop
instance [Gx x g c]:Gx x (y::g) c:=⟨⟩
instance:Gx x ((x,c)::g) c:=⟨⟩
class Qe (n:Nm) (e:Expr) (o:outParam E):Prop
class Qs (n:Nm) (e:List Expr) (o:outParam Es):Prop
class Qo (n:Nm) (e:Option Expr) (o:outParam Eo):Prop
class Ql (n:Nm) (e:Expr) (o:outParam L):Prop
class Qi (n:Nm) (e:Expr) (o:outParam I):Prop
class Qt (n:Nm) (e:Stmt) (o:outParam S):Prop
class Qb (n:Nm) (e:List Stmt) (o:outParam Ss):Prop
class Qg (N:XQ) (e:Expr) (o:outParam Tg):Prop
instance [Ix x N i]:Qg N (.Name x p) (.one i p):=⟨⟩
class Qh (N:XQ) (e:List Expr) (o:outParam (List (Nat×Pos))):Prop
instance:Qh N [] []:=⟨⟩
instance [Ix x N i] [Qh N r r']:Qh N (.Name x p::r) ((i,p)::r'):=⟨⟩
instance [Qh N e o]:Qg N (.Tuple e 0 p) (.tup o p):=⟨⟩
instance:Qs n [] .nil:=⟨⟩
instance [Qe n a a'] [Qs n r r']:Qs n (a::r) (.cons a' r'):=⟨⟩
instance:Qo n none .none:=⟨⟩
instance [Qe n a a']:Qo n (some a) (.some a'):=⟨⟩
instance:Qb n [] .nil:=⟨⟩
instance [Qt n a a'] [Qb n r r']:Qb n (a::r) (.cons a' r'):=⟨⟩
class Sn (N:XQ) (s:List (Str×NameKind)) (M:outParam (List Str)) (k:outParam (List (Option Nat))):Prop
instance:Sn N [] [] []:=⟨⟩
instance [Sn N s M k]:Sn N ((x,.local)::s) (x::M) (none::k):=⟨⟩
instance [Sn N s M k]:Sn N ((".0",.local)::s) M k:=⟨⟩
instance [Sn N s M k]:Sn N ((x,.cell)::s) (x::M) (none::k):=⟨⟩
instance [Sn N s M k]:Sn N ((x,.globalImplicit)::s) M k:=⟨⟩
instance [Ix x N i] [Sn N s M k]:Sn N ((x,.free)::s) (x::M) (some i::k):=⟨⟩
instance:Qe n (.Constant .none 0 p) (.non p):=⟨⟩
instance:Qe n (.Constant (.bool i) 0 p) (.bl i p):=⟨⟩
instance:Qe n (.Constant (.int i) 0 p) (.int i p):=⟨⟩
instance:Qe n (.Constant (.str i) 0 p) (.str i p):=⟨⟩
instance [Ix x N i]:Qe ⟨N,F,g⟩ (.Name x p) (.var i p):=⟨⟩
instance [Qe n a a'] [Qe n b b']:Qe n (.BinOp a o b p) (.bin o a' b' p):=⟨⟩
instance [Qe n a a']:Qe n (.UnaryOp o a p) (.un o a' p):=⟨⟩
instance [Qe n a a'] [Qe n b b']:Qe n (.Compare a [o] [b] p) (.cmp o a' b' p):=⟨⟩
instance [Qe n a a']:Qe n (.Compare a [.NotEq] [.List [] q] p) (.cmpN true a' q p):=⟨⟩
instance [Qe n a a'] [Qe n b b'] [Qs n r r']:Qe n (.BoolOp .And (a::b::r) p) (.and a' b' r' p):=⟨⟩
instance [Qe n a a'] [Qe n b b'] [Qs n r r']:Qe n (.BoolOp .Or (a::b::r) p) (.or a' b' r' p):=⟨⟩
instance [Qe n c c'] [Qe n a a'] [Qe n b b']:Qe n (.IfExp c a b p) (.ite c' a' b' p):=⟨⟩
instance [Ix x F i] [Qe ⟨N,F,g⟩ a a'] [Qs ⟨N,F,g⟩ r r']:Qe ⟨N,F,g⟩ (.Call (.Name x q) (a::r) [] p) (.call i a' r' q p):=⟨⟩
instance [Qe n a a']:Qe n (.Call (.Name "len" q) [a] [] p) (.len a' q p):=⟨⟩
instance [Qe n a a']:Qe n (.Call (.Name "isinstance" q) [a,.Name "tuple" u] [] p) (.isi 3 a' q u p):=⟨⟩
instance [Qe n a a']:Qe n (.Call (.Name "isinstance" q) [a,.Name "dict" u] [] p) (.isi 5 a' q u p):=⟨⟩
instance [Qe n a a'] [Qe n b b']:Qe n (.Subscript a b p) (.sub a' b' p):=⟨⟩
instance [Qe n a a'] [Qo n b b'] [Qo n c c']:Qe n (.Subscript a (.Slice b c none q) p) (.cut a' b' c' q p):=⟨⟩
instance [Gx x g (.dic k)] [Qe ⟨N,F,g⟩ b b']:Qe ⟨N,F,g⟩ (.Subscript (.Name x q) b p) (.gsub x k b' q p):=⟨⟩
instance [Qs n a a']:Qe n (.Tuple a 0 p) (.tup a' p):=⟨⟩
instance [Ql n (.List a p) l]:Qe n (.List a p) (.ofL l):=⟨⟩
instance [Ql n (.ListComp a b c p) l]:Qe n (.ListComp a b c p) (.ofL l):=⟨⟩
instance [Qe n a a']:Qe n (.Call (.Name "tuple" q) [a] [] p) (.tupE a' q p):=⟨⟩
instance [Ql n a a']:Qe n (.Call (.Name "tuple" q) [a] [] p) (.tupL a' q p):=⟨⟩
instance [Qe n a a']:Qe n (.Call (.Name "list" q) [a] [] p) (.listE a' q p):=⟨⟩
instance [Qe n a a']:Qe n (.Call (.Name "dict" q) [a] [] p) (.dicP a' q p):=⟨⟩
instance:Qe n (.Dict [] [] p) (.dic p):=⟨⟩
instance [Qe n o o']:Qe n (.Call (.Attribute o "pop" q) [] [] p) (.m0 .pop o' q p):=⟨⟩
instance [Qe n o o']:Qe n (.Call (.Attribute o "reverse" q) [] [] p) (.m0 .reverse o' q p):=⟨⟩
instance [Qe n o o'] [Qe n a a']:Qe n (.Call (.Attribute o "append" q) [a] [] p) (.m1 .append o' a' q p):=⟨⟩
instance [Qe n o o'] [Qe n a a']:Qe n (.Call (.Attribute o "extend" q) [a] [] p) (.m1 .extend o' a' q p):=⟨⟩
instance [Qe n a a']:Qe n (.Call (.Name "sum" q) [a] [] p) (.c1 .sum a' q p):=⟨⟩
instance [Qe n a a'] [Qo n b b'] [Qo n c c'] [Qe n d d']:Qe n (.Subscript a (.Slice b c (some d) q) p) (.cutS a' b' c' d' q p):=⟨⟩
instance [Qe n a a']:Qe n (.Call (.Name "sorted" q) [a] [] p) (.c1 .srt a' q p):=⟨⟩
instance [Qe n a a']:Qe n (.Call (.Name "sorted" q) [.Call (.Name "set" u) [a] [] v] [] p) (.sset a' q u v p):=⟨⟩
instance [Qe n (.Name "rests" u) a']:Qe n (.Call (.Name "list" q) [.Name "rests" u] [] p) (.c1 .lks a' q p):=⟨⟩
instance [Qe n (.Attribute (.Name "found" v) "rows" u) a']:Qe n (.Call (.Name "list" q) [.Attribute (.Name "found" v) "rows" u] [] p) (.c1 .lks a' q p):=⟨⟩
instance [Qe n (.Name "asked" u) a']:Qe n (.Call (.Name "list" q) [.Name "asked" u] [] p) (.c1 .lks a' q p):=⟨⟩
instance [Qe n (.Name "_law_found" u) a']:Qe n (.Call (.Name "list" q) [.Name "_law_found" u] [] p) (.c1 .lks a' q p):=⟨⟩
instance [Qe n (.Name "rests" u) a'] [Qe n b b']:Qe n (.Compare (.Name "rests" u) [.NotEq] [b] p) (.neK true a' b' p):=⟨⟩
instance [Qe n (.Attribute (.Name "found" v) "rows" u) a'] [Qe n b b']:Qe n (.Compare (.Attribute (.Name "found" v) "rows" u) [.NotEq] [b] p) (.neK true a' b' p):=⟨⟩
instance [Qe n (.Name "asked" u) a'] [Qe n b b']:Qe n (.Compare (.Name "asked" u) [.NotEq] [b] p) (.neK true a' b' p):=⟨⟩
instance [Qe n (.Name "_law_found" u) a'] [Qe n b b']:Qe n (.Compare (.Name "_law_found" u) [.NotEq] [b] p) (.neK true a' b' p):=⟨⟩
instance [Ix "row_of" F i] [Qe ⟨N,F,g⟩ a a'] [Qs ⟨N,F,g⟩ [b0] r']:Qe ⟨N,F,g⟩ (.Call (.Name "row_of" q) (a::[b0]) [] p) (.callD i a' r' q p):=⟨⟩
instance [Qe n a a']:Qe n (.Attribute a x p) (.fld a' x p):=⟨⟩
instance [Gx x g (.cls i)] [Qe ⟨N,F,g⟩ a a'] [Qs ⟨N,F,g⟩ r r']:Qe ⟨N,F,g⟩ (.Call (.Name x q) (a::r) [] p) (.mk i x a' r' q p):=⟨⟩
instance [Qe n o o'] [Qe n a a']:Qt n (.Assign [.Attribute o x q] a p) (.setF o' x a' q p):=⟨⟩
instance [Qs n a a']:Ql n (.List a p) (.disp a' p):=⟨⟩
instance [Sn N s M k] [Qe ⟨M,F,g⟩ a a'] [Qg M b b'] [Qi ⟨N,F,g⟩ i i'] [Qs ⟨M,F,g⟩ c c']:Ql ⟨N,F,g⟩ (.ListComp a [⟨b,i,c,0⟩] ⟨u,s,false,false,[]⟩ p) (.comp a' b' i' c' M k ⟨u,s,false,false,[]⟩ p):=⟨⟩
instance [Qe n a a']:Qi n a (.seq a'):=⟨⟩
instance [Qe n a a']:Qi n (.Call (.Name "range" q) [a] [] p) (.rng a' q p):=⟨⟩
instance [Qe n (.Name "rests" u) a']:Qi n (.Name "rests" u) (.keys a'):=⟨⟩
instance [Qe n (.Attribute (.Name "found" v) "rows" u) a']:Qi n (.Attribute (.Name "found" v) "rows" u) (.keys a'):=⟨⟩
instance [Qe n (.Name "asked" u) a']:Qi n (.Name "asked" u) (.keys a'):=⟨⟩
instance [Qe n (.Name "_law_found" u) a']:Qi n (.Name "_law_found" u) (.keys a'):=⟨⟩
instance [Qe n a a']:Qt n (.Return (some a) p) (.ret a' p):=⟨⟩
instance [Qe n a a']:Qt n (.Expr a p) (.ex a' p):=⟨⟩
instance [Qe n c c'] [Qb n a a'] [Qb n b b']:Qt n (.If c a b p) (.iff c' a' b' p):=⟨⟩
instance [Ix x N i] [Qe ⟨N,F,g⟩ a a']:Qt ⟨N,F,g⟩ (.Assign [.Name x q] a p) (.set i a' q p):=⟨⟩
instance [Qe n o o'] [Qe n i i'] [Qe n a a']:Qt n (.Assign [.Subscript o i q] a p) (.put o' i' a' q p):=⟨⟩
instance [Qg N (.Tuple b 0 q) (.tup i q)] [Qe ⟨N,F,g⟩ a a']:Qt ⟨N,F,g⟩ (.Assign [.Tuple b 0 q] a p) (.setT i a' q p):=⟨⟩
instance [Qg N t t'] [Qi ⟨N,F,g⟩ i i'] [Qb ⟨N,F,g⟩ b b']:Qt ⟨N,F,g⟩ (.For t i b [] p) (.forr t' i' b' p):=⟨⟩
instance [Qe n c c'] [Qb n b b']:Qt n (.While c b [] p) (.whil c' b' p):=⟨⟩
noncomputable def mkD (i:Nat)(x:Str)(k:Nat)(N:XQ)(q:(o:Ss) ×' Qb ⟨N,FN,zf⟩ (zE (top i)) o:=by (conv in zE _=>whnf);exact ⟨_,inferInstance⟩):Df:=⟨x,N.take k,N,q.1⟩
noncomputable def z4:Ss->Ss
 | .cons _ a=>a
 | _=>.nil
noncomputable def z8:Ss->S
 | .cons a _=>a
 | _=>.ret (.non 123) 123
noncomputable def ZB:S->E
 | .whil a _ _=>a
 | _=>.non 123
noncomputable def ZC:S->Ss
 | .whil _ a _=>a
 | _=>.nil
noncomputable def jL:S->E
 | .ret a _=>a
 | _=>.non 123
noncomputable def Vs:E->E
 | .bin _ a _ _=>a
 | _=>.non 123
noncomputable def QQ:E->L
 | .tupL a _ _=>a
 | _=>.disp .nil 123
noncomputable def zU:L->E
 | .comp a _ _ _ _ _ _ _=>a
 | _=>.non 123
noncomputable def zV:L->Tg
 | .comp _ a _ _ _ _ _ _=>a
 | _=>.one 0 123
noncomputable def ZD:S->E
 | .ex a _=>a
 | _=>.non 123
noncomputable def ZE:E->E
 | .m1 _ _ a _ _=>a
 | _=>.non 123
noncomputable def zr:E->L
 | .ofL a=>a
 | _=>.disp .nil 123
noncomputable def wg:L->Es
 | .comp _ _ _ a _ _ _ _=>a
 | _=>.nil
noncomputable def zQ:S->Tg
 | .forr a _ _ _=>a
 | _=>.one 0 123
noncomputable def zR:S->Ss
 | .forr _ _ a _=>a
 | _=>.nil
noncomputable def wD:S->Ss
 | .iff _ a _ _=>a
 | _=>.nil
noncomputable def Vt:S->E
 | .put _ _ a _ _=>a
 | _=>.non 123
noncomputable def ZF:E->E
 | .c1 _ a _ _=>a
 | _=>.non 123
noncomputable def j3:S->E
 | .set _ a _ _=>a
 | _=>.non 123
noncomputable def QR:E->E
 | .dicP a _ _=>a
 | _=>.non 123
noncomputable def Vu:S->E
 | .iff a _ _ _=>a
 | _=>.non 123
noncomputable def By:E->E
 | .or _ a _ _=>a
 | _=>.non 123
noncomputable def Vv:E->E
 | .cmp _ _ a _=>a
 | _=>.non 123
noncomputable def d_parts_of:=mkD 2 "parts_of" 1 ["tree"]
noncomputable def d_all_within:=mkD 3 "all_within" 1 ["tree","found","waiting","one"]
noncomputable def d_bodies_of:=mkD 4 "bodies_of" 1 ["item"]
noncomputable def d_own_block:=mkD 5 "own_block" 1 ["item"]
noncomputable def d_deeds_of:=mkD 7 "deeds_of" 1 ["program","found","item","body"]
noncomputable def d_bits_by_deed:=mkD 8 "bits_by_deed" 1 ["deeds","bits","bit","deed"]
noncomputable def d_row_by:=mkD 9 "row_by" 2 ["some","deeds","bits","row","deed"]
noncomputable def d_told:=mkD 10 "told" 2 ["row","deeds","found","left","deed"]
noncomputable def d_less:=mkD 11 "less" 2 ["row","other"]
noncomputable def d_opened:=mkD 13 "opened" 2 ["own","lets"]
noncomputable def d_filled:=mkD 14 "filled" 2 ["one","r"]
noncomputable def d_joined:=mkD 15 "joined" 2 ["one","other"]
noncomputable def d_without:=mkD 16 "without" 2 ["one","row"]
noncomputable def d_rests_of:=mkD 19 "rests_of" 2 ["program","deeds","bits","clauses","rests","item"]
noncomputable def d_clause_rows:=mkD 20 "clause_rows" 2 ["program","bits","rows","item"]
noncomputable def d_rest_of:=mkD 21 "rest_of" 4 ["bodies","block","clauses","bits","rest","waiting","looked","tree","answered"]
noncomputable def d_inner:=mkD 22 "inner" 3 ["tree","answered","clauses"]
noncomputable def d_open_rows:=mkD 25 "open_rows" 1 ["program","found","table","name","row"]
noncomputable def d_row_of:=mkD 26 "row_of" 3 ["program","name","block","found"]
noncomputable def d_found_rows:=mkD 27 "found_rows" 2 ["program","deeds","rests","every","rows","asked"]
noncomputable def d_asked_rows:=mkD 28 "asked_rows" 3 ["rests","rows","every","asked","name"]
noncomputable def d_bodies_row:=mkD 29 "bodies_row" 3 ["rest","rows","every","row","tree","answered"]
noncomputable def d_spot_row:=mkD 30 "spot_row" 3 ["found","name","handed"]
noncomputable def d_use_row:=mkD 31 "use_row" 4 ["tree","block","rows","every","called","handed"]
noncomputable def d_law_cell:=mkD 33 "_law_cell" 2 ["_law_script","_law_k"]
noncomputable def d_law_name:=mkD 34 "_law_name" 2 ["_law_k","_law_cell_here","_law_size","_law_at","_law_fill"]
noncomputable def d_law_names:=mkD 35 "_law_names" 2 ["_law_many","_law_cell_here"]
noncomputable def d_law_pick:=mkD 36 "_law_pick" 3 ["_law_known","_law_kind","_law_cell_here","_law_some"]
noncomputable def d_law_args:=mkD 37 "_law_args" 2 ["_law_g","_law_tree"]
noncomputable def d_law_called:=mkD 38 "_law_called" 4 ["_law_cell_here","_law_grown_here","_law_known","_law_block","_law_tree","_law_own","_law_lets","_law_seen","_law_g","_law_f"]
noncomputable def d_law_under:=mkD 39 "_law_under" 5 ["_law_cell_here","_law_grown_here","_law_known","_law_do","_law_bit","_law_tree","_law_own","_law_lets","_law_seen","_law_h"]
noncomputable def d_law_beside:=mkD 40 "_law_beside" 3 ["_law_form","_law_tree","_law_do","_law_some"]
noncomputable def d_law_grown:=mkD 41 "_law_grown" 5 ["_law_cell_here","_law_grown_here","_law_known","_law_block","_law_deeds","_law_tree","_law_own","_law_lets","_law_seen","_law_k","_law_rest","_law_do"]
noncomputable def d_law_gone:=mkD 42 "_law_gone" 3 ["_law_cell_here","_law_grown_here","_law_deeds","_law_tree","_law_own","_law_lets","_law_seen","_law_k"]
noncomputable def d_law_body:=mkD 43 "_law_body" 4 ["_law_cells","_law_known","_law_block","_law_deeds","_law_grown_here","_law_cell_here"]
noncomputable def d_law_clause:=mkD 44 "_law_clause" 4 ["_law_cell_here","_law_cells","_law_known","_law_deeds","_law_at","_law_grown_here","_law_one"]
noncomputable def d_law_handler:=mkD 45 "_law_handler" 5 ["_law_cell_here","_law_name_here","_law_cells","_law_known","_law_deeds","_law_some","_law_at","_law_tree","_law_own","_law_lets","_law_seen","_law_clauses","_law_end","_law_row","_law_j","_law_body_here"]
noncomputable def d_law_item:=mkD 46 "_law_item" 5 ["_law_script","_law_k","_law_known","_law_names_here","_law_deeds","_law_cells","_law_cell_here","_law_kind","_law_tree","_law_own","_law_lets","_law_seen","_law_block","_law_params"]
noncomputable def d_law_told:=mkD 47 "_law_told" 2 ["_law_row","_law_deeds"]
noncomputable def d_law_alike:=mkD 48 "_law_alike" 4 ["_law_found","_law_known","_law_seen","_law_deeds","_law_one","_law_pair","_law_lets","_law_due"]
noncomputable def d_law_last:=mkD 49 "_law_last" 4 ["_law_known","_law_program","_law_deeds","_law_cell_here","_law_last_here","_law_f","_law_due"]
noncomputable def d_law:=mkD 50 "law" 1 ["_law_script","_law_names_here","_law_deeds","_law_items","_law_known","_law_seen","_law_k","_law_item_here","_law_row","_law_some","_law_order","_law_program","_law_found"]
noncomputable def d_init_Rest:Df:=⟨"__init__",["self","block"],["self","block"],(.cons (.setF (.var 0 6600804) "block" (.var 1 6602105) 6600810 6600818) (.cons (.setF (.var 0 6700804) "done" (.int 0 6702001) 6700809 6700813) (.cons (.setF (.var 0 6800804) "uses" (.ofL (.disp .nil 6802002)) 6800809 6800814) .nil)))⟩
noncomputable def d_init_Found:Df:=⟨"__init__",["self","program"],["self","program"],(.cons (.setF (.var 0 10300804) "deeds" (.call 4 (.var 1 10303007) .nil 10302108 10302117) 10300810 10300830) (.cons (.setF (.var 0 10400804) "every" (.call 6 (.fld (.var 0 10402804) "deeds" 10402810) (.cons (.fld (.var 0 10404004) "deeds" 10404010) .nil) 10402106 10402130) 10400810 10400843) (.cons (.setF (.var 0 10500804) "clauses" (.call 14 (.var 1 10503507) (.cons (.call 5 (.fld (.var 0 10505704) "deeds" 10505710) .nil 10504412 10504424) .nil) 10502311 10502346) 10500812 10500861) (.cons (.setF (.var 0 10600804) "rows" (.call 19 (.var 1 10603107) (.cons (.fld (.var 0 10604004) "deeds" 10604010) .nil) 10602010 10602031) 10600809 10600843) .nil))))⟩
noncomputable def w_all_within_1:E:=(ZB (z8 (z4 (z4 d_all_within.body))))
noncomputable def b_all_within_1:Ss:=(ZC (z8 (z4 (z4 d_all_within.body))))
noncomputable def e_bodies_of_1:E:=(zU (QQ (Vs (jL (z8 (z4 d_bodies_of.body))))))
noncomputable def c_bodies_of_1:Es:=.nil
noncomputable def J9:Tg:=(zV (QQ (Vs (jL (z8 (z4 d_bodies_of.body))))))
noncomputable def c_deeds_of_4:Es:=.nil
noncomputable def WB:Tg:=(zQ (z8 (z4 d_deeds_of.body)))
noncomputable def b_deeds_of_1:Ss:=(zR (z8 (z4 d_deeds_of.body)))
noncomputable def wj:Tg:=(zQ (z8 (z4 (z4 d_bits_by_deed.body))))
noncomputable def b_bits_by_deed_1:Ss:=(zR (z8 (z4 (z4 d_bits_by_deed.body))))
noncomputable def ZG:Tg:=(zQ (z8 (z4 (z4 d_row_by.body))))
noncomputable def b_row_by_1:Ss:=(zR (z8 (z4 (z4 d_row_by.body))))
noncomputable def QS:Tg:=(zQ (z8 (z4 (z4 d_told.body))))
noncomputable def b_told_1:Ss:=(zR (z8 (z4 (z4 d_told.body))))
noncomputable def qO:Tg:=(zQ (z8 (z4 (z4 (z4 d_rests_of.body)))))
noncomputable def b_rests_of_1:Ss:=(zR (z8 (z4 (z4 (z4 d_rests_of.body)))))
noncomputable def c_clause_rows_2:Es:=.nil
noncomputable def wG:Tg:=(zQ (z8 (z4 d_clause_rows.body)))
noncomputable def b_clause_rows_1:Ss:=(zR (z8 (z4 d_clause_rows.body)))
noncomputable def w_rest_of_1:E:=(ZB (z8 (z4 (z4 d_rest_of.body))))
noncomputable def b_rest_of_1:Ss:=(ZC (z8 (z4 (z4 d_rest_of.body))))
noncomputable def e_rest_of_2:E:=(zU (zr (j3 (z8 (z4 d_rest_of.body)))))
noncomputable def c_rest_of_2:Es:=.nil
noncomputable def QT:Tg:=(zV (zr (j3 (z8 (z4 d_rest_of.body)))))
noncomputable def e_inner_1:E:=(zU (zr (jL (z8 (z4 d_inner.body)))))
noncomputable def c_inner_1:Es:=.nil
noncomputable def GS:Tg:=(zV (zr (jL (z8 (z4 d_inner.body)))))
noncomputable def qr:Tg:=(zQ (z8 (z4 (z4 d_open_rows.body))))
noncomputable def b_open_rows_1:Ss:=(zR (z8 (z4 (z4 d_open_rows.body))))
noncomputable def w_found_rows_1:E:=(ZB (z8 (z4 (z4 (z4 (z4 d_found_rows.body))))))
noncomputable def b_found_rows_1:Ss:=(ZC (z8 (z4 (z4 (z4 (z4 d_found_rows.body))))))
noncomputable def e_found_rows_2:E:=(zU (zr (QR (j3 (z8 (z4 (z4 d_found_rows.body)))))))
noncomputable def c_found_rows_2:Es:=.nil
noncomputable def ZH:Tg:=(zV (zr (QR (j3 (z8 (z4 (z4 d_found_rows.body)))))))
noncomputable def wT:Tg:=(zQ (z8 (z4 d_asked_rows.body)))
noncomputable def b_asked_rows_1:Ss:=(zR (z8 (z4 d_asked_rows.body)))
noncomputable def wU:Tg:=(zQ (z8 (z4 d_bodies_row.body)))
noncomputable def b_bodies_row_1:Ss:=(zR (z8 (z4 d_bodies_row.body)))
noncomputable def e_law_names_1:E:=(zU (zr (jL (z8 d_law_names.body))))
noncomputable def c_law_names_1:Es:=.nil
noncomputable def Ja:Tg:=(zV (zr (jL (z8 d_law_names.body))))
noncomputable def e_law_pick_1:E:=(zU (zr (j3 (z8 d_law_pick.body))))
noncomputable def c_law_pick_1:Es:=(wg (zr (j3 (z8 d_law_pick.body))))
noncomputable def WC:Tg:=(zV (zr (j3 (z8 d_law_pick.body))))
noncomputable def WD:Tg:=(zQ (z8 (z4 d_law_body.body)))
noncomputable def b_law_body_1:Ss:=(zR (z8 (z4 d_law_body.body)))
noncomputable def ZI:Tg:=(zQ (z8 (z4 (z4 (z4 (z4 (z4 d_law_clause.body)))))))
noncomputable def b_law_clause_1:Ss:=(zR (z8 (z4 (z4 (z4 (z4 (z4 d_law_clause.body)))))))
noncomputable def ZJ:E:=(zU (zr (j3 (z8 (z4 (z4 (z4 (z4 d_law_clause.body))))))))
noncomputable def ZM:Es:=(wg (zr (j3 (z8 (z4 (z4 (z4 (z4 d_law_clause.body))))))))
noncomputable def ZN:Tg:=(zV (zr (j3 (z8 (z4 (z4 (z4 (z4 d_law_clause.body))))))))
noncomputable def wH:Tg:=(zQ (z8 (z4 (z4 (z4 (z4 (z4 (z4 (z4 d_law_handler.body)))))))))
noncomputable def b_law_handler_1:Ss:=(zR (z8 (z4 (z4 (z4 (z4 (z4 (z4 (z4 d_law_handler.body)))))))))
noncomputable def yJ:E:=(zU (zr (j3 (z8 (wD (z8 (z4 (z4 (z4 d_law_handler.body)))))))))
noncomputable def yK:Es:=(wg (zr (j3 (z8 (wD (z8 (z4 (z4 (z4 d_law_handler.body)))))))))
noncomputable def yL:Tg:=(zV (zr (j3 (z8 (wD (z8 (z4 (z4 (z4 d_law_handler.body)))))))))
noncomputable def e_law_handler_3:E:=(zU (zr (j3 (z8 d_law_handler.body))))
noncomputable def c_law_handler_3:Es:=(wg (zr (j3 (z8 d_law_handler.body))))
noncomputable def yM:Tg:=(zV (zr (j3 (z8 d_law_handler.body))))
noncomputable def e_law_told_1:E:=(zU (zr (ZF (jL (z8 d_law_told.body)))))
noncomputable def c_law_told_1:Es:=(wg (zr (ZF (jL (z8 d_law_told.body)))))
noncomputable def qP:Tg:=(zV (zr (ZF (jL (z8 d_law_told.body)))))
noncomputable def Jb:Tg:=(zQ (z8 (z4 d_law_alike.body)))
noncomputable def b_law_alike_1:Ss:=(zR (z8 (z4 d_law_alike.body)))
noncomputable def e_law_alike_2:E:=(zU (zr (Vv (By (Vu (z8 d_law_alike.body))))))
noncomputable def c_law_alike_2:Es:=.nil
noncomputable def Jc:Tg:=(zV (zr (Vv (By (Vu (z8 d_law_alike.body))))))
noncomputable def Vx:Tg:=(zQ (z8 (z4 (z4 (z4 (z4 (z4 d_law.body)))))))
noncomputable def b_law_1:Ss:=(zR (z8 (z4 (z4 (z4 (z4 (z4 d_law.body)))))))
noncomputable def WE:Tg:=(zQ (z8 (z4 b_deeds_of_1)))
noncomputable def b_deeds_of_2:Ss:=(zR (z8 (z4 b_deeds_of_1)))
noncomputable def e_deeds_of_4:E:=(zU (zr (ZE (ZD (z8 (wD (z8 b_deeds_of_1)))))))
noncomputable def WF:Tg:=(zV (zr (ZE (ZD (z8 (wD (z8 b_deeds_of_1)))))))
noncomputable def e_clause_rows_2:E:=(zU (zr (ZF (Vt (z8 (wD (z8 b_clause_rows_1)))))))
noncomputable def wI:Tg:=(zV (zr (ZF (Vt (z8 (wD (z8 b_clause_rows_1)))))))
noncomputable def e_deeds_of_3:E:=(zU (zr (ZE (ZD (z8 b_deeds_of_2)))))
noncomputable def c_deeds_of_3:Es:=(wg (zr (ZE (ZD (z8 b_deeds_of_2)))))
noncomputable def wE:Tg:=(zV (zr (ZE (ZD (z8 b_deeds_of_2)))))
noncomputable def defs:List Df:=[d_parts_of,d_all_within,d_bodies_of,d_own_block,d_deeds_of,d_bits_by_deed,d_row_by,d_told,d_less,d_opened,d_filled,d_joined,d_without,d_rests_of,d_clause_rows,d_rest_of,d_inner,d_open_rows,d_row_of,d_found_rows,d_asked_rows,d_bodies_row,d_spot_row,d_use_row,d_law_cell,d_law_name,d_law_names,d_law_pick,d_law_args,d_law_called,d_law_under,d_law_beside,d_law_grown,d_law_gone,d_law_body,d_law_clause,d_law_handler,d_law_item,d_law_told,d_law_alike,d_law_last,d_law,d_init_Rest,d_init_Found]
mutual
noncomputable def pre:G->List G
 | .nd k ps=>.nd k ps::pres ps
noncomputable def pres:List G->List G
 | []=>[]
 | g::r=>pres r++pre g
end
theorem wV:∀ (a b:List G),pres (a++b)=pres b++pres a
 | [],b=>by rw [Y0s];simp [pres]
 | g::r,b=>by rw [Y2v,pres,pres,wV r b,Y0k]
theorem QU (g:G):0<g.size:=by cases g;rw [G.size];omega
mutual
theorem WG:∀ g:G,(pre g).length=g.size
 | .nd k ps=>by rw [pre,G.size,Y08,pres_len ps];omega
theorem pres_len:∀ gs:List G,(pres gs).length=G.sizes gs
 | []=>by rw [pres,G.sizes];rfl
 | g::r=>by rw [pres,G.sizes,Y0e,WG g,pres_len r];omega
end
theorem Bz (k:Kd)(hk:∀ f g,k≠.call f g):g_FIRST_PART.lookup k.tag=some (.int (if k.isIf||k.isGo||k.isGuard then 1 else 2)):=by
 cases k<;>first | (exact absurd rfl (hk _ _)) | rfl
theorem z30 (cl:107)(k:Kd)(ps:List G)(h:Hh):d_parts_of.run cl [(G.nd k ps).d] h=.ok (.tup (G.ds ps)) h:=by
 have e0:=JJ k (G.ds ps) h;have e1:=eqS (h:=h) (Zy k) z2z;rw [G.d];by_cases hk:∃ f g,k=.call f g
 ·obtain ⟨f,g,rfl⟩:=hk;rw [QP] at e1;exact zg (ja (zi 191 rfl e1) (zj 112))
 ·have hk':∀ f g,k≠.call f g:=λ f g z=>hk ⟨f,g,z⟩;have lk:=Bz k hk';have ht:k.isCall=false:=by cases k<;>first | exact absurd rfl (hk' _ _) | rfl
  rw [QP,ht] at e1;refine zg (zx (zi 191 rfl e1) (zj (bnd rfl (bnd (yk (h':=h) (i:=if k.isIf||k.isGo||k.isGuard then 1 else 2) (bnd 191 ?_)) (bnd rfl ?_)))))
  ·show z26 _ _ _=_;unfold z26;dsimp only;rw [lk];rfl
  ·cases k<;>first | (exact absurd rfl (hk' _ _)) | (simp [Kd.isIf,Kd.isGo,Kd.isGuard,Kd.enc,z9c,z9b])
noncomputable def yO (cl:107)(i:Nat):Prop:=∀ k ps h,cl i [(G.nd k ps).d] h=.ok (.tup (G.ds ps)) h
theorem wl:∀ W:List G,W.length<=G.sizes W
 | []=>by simp
 | g::r=>by have:=QU g;have:=wl r;rw [G.sizes,Y08];omega
theorem z31 (cl:107)(C:yO cl 0)(t:D)(h:Hh):∀ (n:Nat) (W:List G) (F:153) (one:Option D),G.sizes W<=n->F.length+G.sizes W<=1000000 ->
  ∃ one',whR (λ ρ h=>w_all_within_1.evT cl ρ h) (λ ρ h=>b_all_within_1.run cl ρ h) [some t,some 121,some (.loc (h.length+1)),one] (h++[.lst F,.lst (G.ds W)]) =
   .nx [some t,some 121,some (.loc (h.length+1)),one'] (h++[.lst (F++G.ds (pres W)),.lst []]):=by
 intro n
 induction n with
 | zero =>
  intro W F one hn hl
  have:W=[]:=by
   cases W with
   | nil=>rfl
   | cons g r=>have:=QU g;rw [G.sizes] at hn;omega
  subst this;refine ⟨one,?_⟩;rw [qI (h1:=h++[.lst F,.lst (G.ds [])])]
  ·simp [pres,G.ds]
  ·show E.evT cl (.cmpN true (.var 2 _) _ _) _ _=_;simp [E.evT,Vq,we,Zo,rdx,rd,G.ds,hx]
 | succ n ih =>
  intro W F one hn hl;rcases Y2s W with rfl | ⟨W',g,rfl⟩
  ·refine ⟨one,?_⟩;rw [qI (h1:=h++[.lst F,.lst (G.ds [])])]
   ·simp [pres,G.ds]
   ·show E.evT cl (.cmpN true (.var 2 _) _ _) _ _=_;simp [E.evT,Vq,we,Zo,rdx,rd,G.ds,hx]
  ·obtain ⟨k,ps⟩:=g;rw [Y2t] at *
   have es:G.sizes (W'++[.nd k ps])=G.sizes W'+1+G.sizes ps:=by rw [jv,G.sizes,G.sizes,G.size];omega
   have es2:G.sizes (W'++ps)=G.sizes W'+G.sizes ps:=jv _ _;obtain ⟨one',e⟩:=ih (W'++ps) (F++[(G.nd k ps).d]) (some (G.nd k ps).d) 109 175;refine ⟨one',?_⟩;have l1:=wl W';have l2:=wl ps;rw [Zn (h1:=h++[.lst F,.lst (G.ds (W'++[.nd k ps]))]) (ρ':=[some t,some 121,some (.loc (h.length+1)),some (G.nd k ps).d]) (h':=h++[.lst (F++[(G.nd k ps).d]),.lst (G.ds (W'++ps))]),e]
   ·have ee:F++[(G.nd k ps).d]++G.ds (pres (W'++ps))=F++G.ds (pres (W'++[.nd k ps])):=by
     rw [wV,wV,pres,pres,pre,Y0s,Y0k]
     congr 1
    rw [ee]
   ·show E.evT cl (.cmpN true (.var 2 _) _ _) _ _=_;simp [E.evT,Vq,we,Zo,rdx,rd,G.ds,hx,yl]
   ·have c:=C k ps;have f1:F.length<1000000:=by omega
    have f2:W'.length+ps.length<=1000000:=by omega
    show Ss.run cl (.cons (.set 3 (.m0 .pop (.var 2 _) _ _) _ _) (.cons (.ex (.m1 .append (.var 1 _) (.var 3 _) _ _) _) (.cons (.ex (.m1 .extend (.var 2 _) (.call 0 (.var 3 _) .nil _ _) _ _) _) .nil))) _ _=_;simp [jW,J8,GR,yex,vm0,vm1,we,z90,z4f,z6h,m0D,m1D,onL,hx,hx0,z94,Bq,yl,G.ds,c,f1,f2,Bx]
theorem BA (cl:107)(C:yO cl 0)(g:G)(h:Hh)(hs:g.size<=1000000) :
  d_all_within.run cl [g.d] h=.ok 121 (h++[.lst (G.ds (pre g)),.lst []]):=by
 obtain ⟨o,e⟩:=z31 cl C g.d h g.size [g] [] none (by rw [G.sizes,G.sizes];omega) (by rw [G.sizes,G.sizes];simpa using hs);have e1:pres [g]=pre g:=by rw [pres,pres];rfl
 rw [e1] at e;simp [G.ds] at e;show jy (Ss.run cl (.cons (.set 1 (.ofL (.disp .nil _)) _ _) (.cons (.set 2 (.ofL (.disp (.cons (.var 0 _) .nil) _)) _ _) (.cons (.whil w_all_within_1 b_all_within_1 _) (.cons (.ret (.var 1 _) _) .nil)))) [some g.d,none,none,none] h)=_;simp [jW,J8,GR,z4g,zaz,z91,we,z4d,z4f,z6h,new,e,jy]
noncomputable def wm (cl:107)(i:Nat):Prop:=∀ (g:G) h,g.size<=1000000->cl i [g.d] h=.ok 121 (h++[.lst (G.ds (pre g)),.lst []])
inductive It where
 | df (nm ps o:D) (b:G)
 | hd (nm:D) (cs:List (Str×G)) (e:G)
noncomputable def clD (c:Str×G):D:=.tup [.str c.1,.str "x",.str "y",c.2.d]
noncomputable def It.d:It->D
 | .df nm ps o b=>.tup [.str "def",nm,ps,o,b.d]
 | .hd nm cs e=>.tup [.str "handler",nm,.tup (cs.map clD),.tup [.str "x",.str "y",e.d]]
noncomputable def It.bods:It->List G
 | .df _ _ _ b=>[b]
 | .hd _ cs e=>cs.map (·.2)++[e]
noncomputable def It.heads:It->List Str
 | .df _ _ _ _=>[]
 | .hd _ cs _=>cs.map (·.1)
theorem wW:PyData.strOk "def"=true:=by decide +kernel
theorem jR:PyData.strOk "handler"=true:=by decide +kernel
theorem z4i:PyData.strOk "do"=true:=by decide +kernel
theorem zW {α:Type}(φ:α->D){c:Ck}{f:D->Hh->Res (Option D)}{h:Hh}(st:stay c h)(g:α->Option D):∀ (xs:List α) (acc:153),(∀ x∈xs,f (φ x) h=.ok (g x) h)->jJ c f (xs.map φ) acc h=.ok (acc++xs.filterMap g) h
 | [],acc,_=>by simp [jJ,st]
 | x::r,acc,e=>by
  have e1:=e x (Y05 ..);have ih:=zW φ st g r (B0 acc (g x)) λ y hy=>e y (Y03 _ hy);rw [Y09];unfold jJ;rw [if_pos st,e1,bind_ok,ih,Y1o];cases g x<;>simp
theorem jX {α β:Type}(f:α->β)(l:List α):l.filterMap (λ x=>some (f x))=l.map f:=by
 induction l with
 | nil=>rfl
 | cons x r ih=>rw [Y1o,Y09,ih]
theorem GT {cl:107}{ρ:En}{h h' h2:Hh}{p p1 p2:Pos}{elt:E}{tg:Tg}{it:I}{ct:Es}{ns:XQ}{cap:147}{sc:Scope}{q:Ck×List D}{xs:153}(hi:it.ev cl ρ h=.ok q h')(hl:q.2.length<=1000000)(hc:181):E.ev cl (.tupL (.comp elt tg it ct ns cap sc p) p1 p2) ρ h=.ok (.tup xs) h2:=bnd (bnd hi ((if_pos hl).trans hc)) rfl
theorem BB (cl:107)(it:It)(h:Hh)(hn:it.bods.length<=1000000):d_bodies_of.run cl [it.d] h=.ok (.tup (it.bods.map G.d)) h:=by
 cases it with
 | df nm ps o b=>exact zg (ja (zi 112 rfl (eqS wW wW)) (zj (bnd (bnd 112 rfl) rfl)))
 | hd nm cs e =>
  have hl:cs.length+1<=1000000:=by simpa [It.bods] using hn
  have key:=zW clD (c:=[]) (f:=j4 J9 (jE [none] [some (It.hd nm cs e).d]) (λ ρ' h2=>c_bodies_of_1.evC cl ρ' h2) (λ ρ' h2=>e_bodies_of_1.ev cl ρ' h2)) (h:=h) zu (λ x=>some x.2.d) cs [] (λ x _=>jK rfl rfl 112);rw [jX,Y0s] at key;refine zg (zx (zi 112 rfl ((eqS jR wW).trans (by rfl))) (zj (bnd (GT (q:=([],cs.map clD)) (bnd 112 rfl) 175 key) (bnd (bnd (bnd (bnd 112 174) rfl) rfl) ?_))));show (if _ then _ else _)=_;rw [if_pos 175];simp [It.bods]
noncomputable def JK (cl:107)(i:Nat):Prop:=∀ (it:It) h,it.bods.length<=1000000->cl i [it.d] h=.ok (.tup (it.bods.map G.d)) h
noncomputable def dd1:G->Option Str
 | .nd (.doo d) _=>some d
 | _=>none
noncomputable def gdd (g:G):List Str:=(pre g).filterMap dd1
noncomputable def It.dds (it:It):List Str:=it.heads++it.bods.flatMap gdd
theorem Vy (g:G):(gdd g).length<=g.size:=by
 unfold gdd;exact Y0n (List.length_filterMap_le _ _) (Y3u (WG g))
theorem z9d (k:Kd)(ps:List G)(h:Hh):(jx .Eq (.str k.tag) (.str "do") h)=.ok (.bl (dd1 (.nd k ps)).isSome) h:=by
 rw [eqS (Zy k) z4i];cases k<;>rfl
theorem zb1 (cl:107)(g:G)(h:Hh):j4 wE [none] (λ ρ' h2=>c_deeds_of_3.evC cl ρ' h2) (λ ρ' h2=>e_deeds_of_3.ev cl ρ' h2) g.d h=.ok ((dd1 g).map D.str) h:=by
 obtain ⟨k,ps⟩:=g;have e0:=JJ k (G.ds ps) h;have e1:=z9d k ps h;rw [G.d];cases hk:dd1 (.nd k ps) with
 | none =>
  rw [hk] at e1;show (match je wE (k.enc (G.ds ps)) [none] with | some ρ'=>(c_deeds_of_3.evC cl ρ' h).bind λ b h1=>if b then (e_deeds_of_3.ev cl ρ' h1).bind λ d h2=>.ok (some d) h2 else .ok none h1 | none=>.no)=_
  exact bnd (x:=false) (bnd (bnd 191 (bnd rfl e1)) rfl) rfl
 | some d =>
  rw [hk] at e1;cases k with
  | doo d' =>
   cases hk;exact jK rfl (bnd (bnd 191 (bnd rfl e1)) rfl) (bnd rfl (bnd rfl (by rw [Kd.enc,sub_tup,qM 108];rfl)))
  | _=>cases hk
theorem BC {cl:107}{ρ:En}{h0 h h1:Hh}{o a:E}{p1 p:Pos}{n m:Nat}{xs ys:153}(ho:o.ev cl ρ h0=.ok 146 h)(g0:∃ l,h[n]?=some (.lst l))(ha:a.ev cl ρ h=.ok (.loc m) h1)(g1:h1[n]?=some 178)(g2:h1[m]?=some (.lst ys))(hl:xs.length+ys.length<=1000000) :
  E.ev cl (.m1 .extend o a p1 p) ρ h0=.ok .non (h1.set n (.lst (xs++ys))):=by
 obtain ⟨l,g0⟩:=g0;refine bnd ho ?_;show onL 146 h _=_;rw [Bw g0];refine bnd ha ?_;show m1D .extend 146 (.loc m) h1=_;unfold m1D;dsimp only;rw [g1];dsimp only;rw [g2];exact if_pos hl
theorem g_0 (h:Hh)(o:O)(J:Hh):(h++o::J)[h.length]?=some o:=by rw [hx0];rfl
theorem s_0 (h:Hh)(o o':O)(J:Hh):(h++o::J).set h.length o'=h++o'::J:=by rw [Bq];rfl
theorem BD (cl:107)(W:wm cl 1)(g:G)(h:Hh)(F:XQ)(J:Hh)(a b:Option D)(hs:g.size<=100000)(hF:F.length<=100000) :
  ∃ J',b_deeds_of_2.run cl [a,some 121,b,some g.d] (h++.lst (F.map .str)::J)=.nx [a,some 121,b,some g.d] (h++.lst ((F++gdd g).map .str)::J'):=by
 have c:=W g (h++.lst (F.map .str)::J) 109;have l1:(G.ds (pre g)).length<=1000000:=by rw [Bx,WG];omega
 have lg:=Vy g;generalize hh1:(h++O.lst (F.map .str)::J)++[.lst (G.ds (pre g)),.lst []]=h1 at c;have r1:rd h1 (h++O.lst (F.map .str)::J).length=some (G.ds (pre g)):=by rw [<- hh1,zb0];rfl
 have r2:h1[h.length]?=some (.lst (F.map .str)):=by rw [<- hh1];exact Wx (g_0 _ _ _)
 have key:=zW G.d (c:=[((h++O.lst (F.map .str)::J).length,G.ds (pre g))]) (f:=j4 wE [none] (λ ρ' h2=>c_deeds_of_3.evC cl ρ' h2) (λ ρ' h2=>e_deeds_of_3.ev cl ρ' h2)) (h:=h1) (stay_one.mpr r1) (λ x=>(dd1 x).map D.str) (pre g) [] (λ x _=>zb1 cl x h1);rw [Y0s,<- List.map_filterMap,<- w5] at key;refine ⟨J++[.lst (G.ds (pre g)),.lst []]++[.lst ((gdd g).map .str)],yI (BC rfl ⟨_,g_0 _ _ _⟩ (zT (z2y (bnd rfl (bnd rfl c)) r1) l1 key) (Wx r2) (by rw [hx0];rfl) (by unfold gdd at lg;simp only [Y04];omega)) ?_⟩;rw [<- hh1];show RS.nx _ _=_;simp only [Y0k,Y2v,Y0q];rw [s_0];rfl
theorem JL (cl:107)(W:wm cl 1)(h:Hh)(a b:Option D):∀ (gs:List G) (F:XQ) (J:Hh) (c:Option D),(∀ g∈gs,g.size<=1000)->F.length+(gs.flatMap gdd).length<=100000 ->
  ∃ c' J',zH [] (zO WE λ ρ' h'=>b_deeds_of_2.run cl ρ' h') (gs.map G.d) [a,some 121,b,c] (h++.lst (F.map .str)::J)=.nx [a,some 121,b,c'] (h++.lst ((F++gs.flatMap gdd).map .str)::J')
 | [],F,J,c,_,_=>⟨c,J,by rw [Y12,zH,if_pos zu];simp⟩
 | g::gs,F,J,c,hs,hF=>by
  rw [Y2a,Y0e] at hF;obtain ⟨J1,e1⟩:=BD cl W g h F J a b (by have:=hs g (Y05 ..);omega) 109;obtain ⟨c',J',e2⟩:=JL cl W h a b gs (F++gdd g) J1 (some g.d) (λ x hx=>hs x (Y03 _ hx)) (by rw [Y0e];omega);refine ⟨c',J',QN zu e1 (e2.trans ?_)⟩;rw [Y2a,Y0k]
structure It.Ok (it:It):Prop where
 sz:∀ g∈it.bods,g.size<=1000
 nb:it.bods.length<=1000
theorem BE (cl:107)(W:wm cl 1)(B:JK cl 2)(it:It)(h:Hh)(F:XQ)(J:Hh)(a c:Option D)(ok:it.Ok)(hF:F.length+it.dds.length<=100000) :
  ∃ c' J',b_deeds_of_1.run cl [a,some 121,some it.d,c] (h++.lst (F.map .str)::J)=.nx [a,some 121,some it.d,c'] (h++.lst ((F++it.dds).map .str)::J'):=by
 have nb:=ok.nb;unfold It.dds at hF ⊢;rw [Y0e] at hF;have tl:∀ (J:Hh),∃ c' J',Ss.run cl (jc 1 b_deeds_of_1) [a,some 121,some it.d,c] (h++.lst ((F++it.heads).map .str)::J)=.nx [a,some 121,some it.d,c'] (h++.lst ((F++(it.heads++it.bods.flatMap gdd)).map .str)::J'):=by
  intro J;obtain ⟨c',J',e⟩:=JL cl W h a (some it.d) it.bods (F++it.heads) J c ok.sz (by rw [Y0e];omega);refine ⟨c',J',jp (q:=([],it.bods.map G.d)) (bnd (bnd rfl (bnd rfl (B it _ 109))) rfl) e ?_⟩;rw [<- Y0k];rfl
 cases it with
 | df nm ps o b =>
  obtain ⟨c',J',e⟩:=tl J;refine ⟨c',J',zx (zi 112 rfl ((eqS wW jR).trans (by rfl))) ?_⟩;rw [show (F++(It.df nm ps o b).heads)=F from Y13 _] at e;exact e
 | hd nm cs g =>
  obtain ⟨c',J',e⟩:=tl (J++[.lst (((It.hd nm cs g).heads).map .str)]);have hl0:cs.length+1<=1000:=by simpa [It.bods] using nb
  have hl:cs.length<=1000:=by omega
  have key:=zW clD (c:=[]) (f:=j4 WF [none] (λ ρ' h2=>c_deeds_of_4.evC cl ρ' h2) (λ ρ' h2=>e_deeds_of_4.ev cl ρ' h2)) (h:=h++.lst (F.map .str)::J) zu (λ x=>some (.str x.1)) cs [] (λ x _=>jK rfl rfl 112);rw [jX,Y0s] at key;have hl2:(It.hd nm cs g).heads.length=cs.length:=by simp [It.heads]
  refine ⟨c',J',qN (zi 112 rfl (eqS jR jR)) (yI (BC rfl ⟨_,g_0 _ _ _⟩ (zT (q:=([],cs.map clD)) (bnd 112 rfl) 175 key) (Wx (g_0 _ _ _)) (by rw [hx0];rfl) 175) rfl) ?_⟩;rw [<- e]
  congr 1
  rw [Y0k,Y2v,s_0];simp [It.heads]
theorem ZO (cl:107)(W:wm cl 1)(B:JK cl 2)(h:Hh)(a:Option D):∀ (its:List It) (F:XQ) (J:Hh) (b c:Option D),(∀ it∈its,it.Ok)->F.length+(its.flatMap It.dds).length<=100000 ->
  ∃ b' c' J',zH [] (zO WB λ ρ' h'=>b_deeds_of_1.run cl ρ' h') (its.map It.d) [a,some 121,b,c] (h++.lst (F.map .str)::J)=.nx [a,some 121,b',c'] (h++.lst ((F++its.flatMap It.dds).map .str)::J')
 | [],F,J,b,c,_,_=>⟨b,c,J,by rw [Y12,zH,if_pos zu];simp⟩
 | it::its,F,J,b,c,hs,hF=>by
  rw [Y2a,Y0e] at hF;obtain ⟨c1,J1,e1⟩:=BE cl W B it h F J a c (hs it (Y05 ..)) 109;obtain ⟨b',c',J',e2⟩:=ZO cl W B h a its (F++it.dds) J1 (some it.d) c1 (λ x hx=>hs x (Y03 _ hx)) (by rw [Y0e];omega);refine ⟨b',c',J',QN zu e1 (e2.trans ?_)⟩;rw [Y2a,Y0k]
theorem zb2 {cl:107}{ρ:En}{h h':Hh}{e:E}{p0 p1 p2 p:Pos}{n:Nat}{F:XQ}(he:e.ev cl ρ h=.ok 146 h')(hr:h'[n]?=some (.lst (F.map .str)))(hl:F.length<=4000)(h64:(j6 F).length<64) :
  E.ev cl (.sset e p0 p1 p2 p) ρ h=.ok (.loc h'.length) (h'++[.lst ((j6 F).map .str)]):=bnd he (by
 show ssD 146 h'=_;unfold ssD;dsimp only;rw [V0 hr];dsimp only;rw [Zx];exact if_pos ⟨hl,h64⟩)
theorem z32 (cl:107)(W:wm cl 1)(B:JK cl 2)(its:List It)(h:Hh)(ok:∀ it∈its,it.Ok)(hF:(its.flatMap It.dds).length<=4000)(h64:(j6 (its.flatMap It.dds)).length<64) :
  ∃ J,d_deeds_of.run cl [.tup (its.map It.d)] h=.ok (.loc (h++J).length) (h++J++[.lst ((j6 (its.flatMap It.dds)).map .str)]):=by
 obtain ⟨b',c',J',e⟩:=ZO cl W B h (some (.tup (its.map It.d))) its [] [] none none ok (by rw [Y2y];omega);refine ⟨.lst ((its.flatMap It.dds).map .str)::J',zg (zd rfl (jp (q:=([],its.map It.d)) 174 e (zj (zb2 rfl (g_0 _ _ _) hF h64))))⟩
noncomputable def txs (xs:XQ):List D:=xs.map .str
@[simp] theorem txs_len (xs:XQ):(txs xs).length=xs.length:=by simp [txs]
theorem QV {h:Hh}{n:Nat}{o:O}(e:h[n]?=some o):h.set n o=h:=by
 apply List.ext_getElem?;intro i;by_cases hi:n=i
 ·subst hi
  have:=(Y01.mp e).1
  rw [Y1j this,e]
 ·rw [Y18 hi]
theorem zS {h:Hh}{n:Nat}{xs:153}(e:h[n]?=some 178):rd h n=some xs:=by unfold rd;rw [e]
theorem BF {h:Hh}{n m:Nat}{o:O}(hn:n≠m):rd (h.set m o) n=rd h n:=by unfold rd;rw [Y18 (Ne.symm hn)]
theorem stay1 {n:Nat}{ds:153}{h:Hh}:stay [(n,ds)] h ↔ rd h n=some ds:=by
 unfold stay;simp
theorem z9e (x:Int):Builtin.bitAnd x 1=x%2:=by
 have:=PySem.W.kbt_mask x 1
 simpa using this
noncomputable def zy:Int->List Str->List Str
 | _,[]=>[]
 | L,x::r=>if L%2=1 then x::zy (L/2) r else zy (L/2) r
theorem GU (cl:107)(R:D)(nd nf:Nat)(L:Int)(d:Str)(x:Option D)(h:Hh)(acc:XQ)(h3:h[nf]?=some (.lst (txs acc)))(hl:acc.length<1000000) :
  zO QS (λ ρ' h'=>b_told_1.run cl ρ' h') (.str d) [some R,some 138,some (.loc nf),some (.int L),x] h=.nx [some R,some 138,some (.loc nf),some (.int (L/2)),some (.str d)] (if L%2=1 then h.set nf (.lst (txs acc++[.str d])) else h):=by
 show Ss.run cl (.cons (.iff (.cmp .Eq (.bin .BitAnd (.var 3 _) (.int 1 _) _) (.int 1 _) _) (.cons (.ex (.m1 .append (.var 2 _) (.var 4 _) _ _) _) .nil) .nil _) (.cons (.set 3 (.bin .RShift (.var 3 _) (.int 1 _) _) _ _) .nil)) [some R,some 138,some (.loc nf),some (.int L),some (.str d)] h=_;by_cases c:L%2=1
 ·simp [txs,jW,J8,GR,z92,yex,z8z,z2x,we,z2w,vm1,E.evT,onL,m1D,z9e,c,PyData.canLay0,PyData.depth,PyData.eqv,hl] at h3 ⊢;simp [h3,hl]
 ·simp [txs,jW,J8,GR,z92,yex,z8z,z2x,we,z2w,vm1,E.evT,onL,m1D,z9e,c,PyData.canLay0,PyData.depth,PyData.eqv,hl] at h3 ⊢
theorem ym (cl:107)(nd nf:Nat)(R:D)(all:153):∀ (rest acc:XQ) (L:Int) (x:Option D) (h:Hh),rd h nd=some all->nd≠nf->h[nf]?=some (.lst (txs acc))->acc.length+rest.length<=1000 ->
  ∃ x',zH [(nd,all)] (zO QS λ ρ' h'=>b_told_1.run cl ρ' h') (txs rest) [some R,some 138,some (.loc nf),some (.int L),x] h =
   .nx [some R,some 138,some (.loc nf),some (.int (L/2 ^ rest.length)),x'] (h.set nf (.lst (txs (acc++zy L rest))))
 | [],acc,L,x,h,h1,h2,h3,h4=>by
  refine ⟨x,?_⟩;have st:stay [(nd,all)] h:=stay1.mpr h1;simp [txs,zH,st,zy] at h3 ⊢;exact (QV h3).symm
 | d::rest,acc,L,x,h,h1,h2,h3,h4=>by
  have st:stay [(nd,all)] h:=stay1.mpr h1;have hl:acc.length<1000000:=by simp at h4;omega
  have hn:nf<h.length:=(Y01.mp h3).1;have sp:=GU cl R nd nf L d x h acc h3 hl;have e1:L/2/2 ^ rest.length=L/2 ^ (rest.length+1):=by rw [Int.ediv_ediv_of_nonneg 108,Y27,Y3v]
  by_cases c:L%2=1
  ·obtain ⟨x',ih⟩:=ym cl nd nf R all rest (acc++[d]) (L/2) (some (.str d)) (h.set nf (.lst (txs (acc++[d])))) (by rw [BF h2];exact h1) h2 (by rw [Y1j hn]) (by simp at h4 ⊢;omega);refine ⟨x',?_⟩;rw [List.set_set,e1] at ih;have e2:acc++zy L (d::rest)=acc++[d]++zy (L/2) rest:=by simp [zy,c]
   rw [e2,Y08,<- ih];have e3:txs (acc++[d])=txs acc++[.str d]:=by simp [txs]
   rw [e3];show zH _ _ (.str d::txs rest) _ _=_;rw [zH,if_pos st,sp,if_pos c]
  ·obtain ⟨x',ih⟩:=ym cl nd nf R all rest acc (L/2) (some (.str d)) h h1 h2 h3 (by simp at h4 ⊢;omega);refine ⟨x',?_⟩;rw [e1] at ih;have e2:acc++zy L (d::rest)=acc++zy (L/2) rest:=by simp [zy,c]
   rw [e2,Y08,<- ih];show zH _ _ (.str d::txs rest) _ _=_;rw [zH,if_pos st,sp,if_neg c]
theorem zo (h:Hh)(o:O):(h++[o])[h.length]?=some o:=by rw [Y0m 169,Y1q];rfl
theorem Ud {h:Hh}{o u:O}{n:Nat}(e:h[n]?=some u):(h++[o])[n]?=some u:=by rw [Y11 (Y01.mp e).1];exact e
theorem yP (h:Hh)(o u:O):(h++[o]).set h.length u=h++[u]:=by
 rw [List.set_append_right _ _ 169,Y1q];rfl
theorem wX {cl:107}{ρ:En}{h h1:Hh}{e:E}{n:Nat}{xs:153}(he:e.ev cl ρ h=.ok 146 h1)(g:h1[n]?=some 178):(I.seq e).ev cl ρ h=.ok ([(n,xs)],xs) h1:=by
 rw [zay,he];simp [zS g]
theorem z6m (cl:107)(h:Hh)(nd:Nat)(R:Int)(ds:XQ)(e:h[nd]?=some (.lst (txs ds)))(hl:ds.length<=1000) :
  d_told.run cl [.int R,.loc nd] h=.ok 121 (h++[.lst (txs (zy R ds))]):=by
 have hn:nd<h.length:=(Y01.mp e).1;have e0:=Ud (o:=.lst []) e;obtain ⟨x',lp⟩:=ym cl nd h.length (.int R) (txs ds) ds [] R none (h++[.lst []]) (zS e0) 109 (zo _ _) (by simpa using hl);rw [yP] at lp;exact zg (zd rfl (zd rfl (jp (q:=([(nd,txs ds)],txs ds)) (wX rfl e0) lp (zj rfl))))
theorem BG (j:Nat)(h:j<=1000):fits (2 ^ j)=true:=by
 unfold fits Builtin.Int.intBits;have e:((2:Int) ^ j).natAbs=2 ^ j:=by
  rw [Int.natAbs_pow];rfl
 rw [if_neg (by have:=KB.pw_pos j;simp;omega),e,Nat.log2_two_pow];exact decide_eq_true 109
noncomputable def zA:Nat->List Str->List (Key×D)
 | _,[]=>[]
 | j,x::r=>(.inr x,.int (2 ^ j))::zA (j+1) r
theorem WH {kvs:134}{k:Key}{v:D}(h:∀ p∈kvs,p.1≠k):Zk kvs k v=kvs++[(k,v)]:=by
 unfold Zk;rw [if_neg];rw [Bool.not_eq_true,List.any_eq_false];exact λ p hp=>by simpa using h p hp
theorem GV (cl:107)(nd nb j:Nat)(d:Str)(x:Option D)(h:Hh)(kvs:134)(h3:h[nb]?=some 192)(hl:kvs.length<1000000)(hj:j<=1000)(hp:Zk kvs (.inr d) (.int (2 ^ j))=kvs++[(.inr d,.int (2 ^ j))]) :
  zO wj (λ ρ' h'=>b_bits_by_deed_1.run cl ρ' h') (.str d) [some 138,some (.loc nb),some (.int (2 ^ j)),x] h=.nx [some 138,some (.loc nb),some (.int (2 ^ (j+1))),some (.str d)] (h.set nb (.dK (kvs++[(.inr d,.int (2 ^ j))]))):=by
 have hf:fits (2 ^ j)=true:=BG j hj;have e3:(2:Int) ^ j*2=2 ^ (j+1):=by rw [Y27]
 show Ss.run cl (.cons (.put (.var 1 _) (.var 3 _) (.var 2 _) _ _) (.cons (.set 2 (.bin .LShift (.var 2 _) (.int 1 _) _) _ _) .nil)) [some 138,some (.loc nb),some (.int (2 ^ j)),some (.str d)] h=_;simp [jW,J8,GR,z93,z2x,we,z2w,Zl,jD,h3,hl,hp,hf,e3]
theorem JM (cl:107)(nd nb:Nat)(all:153):∀ (rest:XQ) (kvs:134) (j:Nat) (x:Option D) (h:Hh),rd h nd=some all->nd≠nb->h[nb]?=some 192->kvs.length+rest.length<=1000->j+rest.length<=1000 ->
  (∀ y∈rest,∀ p∈kvs,p.1≠.inr y)->rest.Nodup ->
  ∃ x',zH [(nd,all)] (zO wj λ ρ' h'=>b_bits_by_deed_1.run cl ρ' h') (txs rest) [some 138,some (.loc nb),some (.int (2 ^ j)),x] h =
   .nx [some 138,some (.loc nb),some (.int (2 ^ (j+rest.length))),x'] (h.set nb (.dK (kvs++zA j rest)))
 | [],kvs,j,x,h,h1,h2,h3,h4,h5,h6,h7=>by
  refine ⟨x,?_⟩;have st:stay [(nd,all)] h:=stay1.mpr h1;simp [txs,zH,st,zA];exact (QV h3).symm
 | d::rest,kvs,j,x,h,h1,h2,h3,h4,h5,h6,h7=>by
  have st:stay [(nd,all)] h:=stay1.mpr h1;have hl:kvs.length<1000000:=by simp at h4;omega
  have hn:nb<h.length:=(Y01.mp h3).1;have hp:Zk kvs (.inr d) (.int (2 ^ j))=kvs++[(.inr d,.int (2 ^ j))]:=WH λ p hp=>h6 d (Y05 ..) p hp;have sp:=GV cl nd nb j d x h kvs h3 hl (by simp at h5;omega) hp;obtain ⟨h71,h72⟩:=Y15.mp h7;obtain ⟨x',ih⟩:=JM cl nd nb all rest (kvs++[(.inr d,.int (2 ^ j))]) (j+1) (some (.str d)) (h.set nb (.dK (kvs++[(.inr d,.int (2 ^ j))]))) (by rw [BF h2];exact h1) h2 (by rw [Y1j hn]) (by simp at h4 ⊢;omega) (by simp at h5 ⊢;omega)
   (λ y hy p hp'=>by
    rcases Y0r.mp hp' with z | z
    ·exact h6 y (Y03 _ hy) p z
    ·rw [Y0g.mp z];intro q
     have:d=y:=Sum.inr.inj q
     exact h71 (this▸hy)) h72
  refine ⟨x',?_⟩;have e1:(2:Int) ^ (j+1+rest.length)=2 ^ (j+(rest.length+1)):=by congr 1;omega
  rw [List.set_set,e1] at ih;have e2:kvs++zA j (d::rest)=kvs++[(.inr d,.int (2 ^ j))]++zA (j+1) rest:=by simp [zA]
  rw [e2,Y08,<- ih];show zH _ _ (.str d::txs rest) _ _=_;rw [zH,if_pos st,sp]
theorem z6n (cl:107)(h:Hh)(nd:Nat)(ds:XQ)(e:h[nd]?=some (.lst (txs ds)))(hl:ds.length<=1000)(nd':ds.Nodup) :
  d_bits_by_deed.run cl [.loc nd] h=.ok 121 (h++[.dK (zA 0 ds)]):=by
 have hn:nd<h.length:=(Y01.mp e).1;have e0:=Ud (o:=.dK []) e;obtain ⟨x',lp⟩:=JM cl nd h.length (txs ds) ds [] 0 none (h++[.dK []]) (zS e0) 109 (zo _ _) (by simpa using hl) (by simpa using hl) (λ _ _ p hp=>absurd hp 111) nd';rw [yP] at lp;simp at lp;exact zg (zd rfl (zd rfl (jp (q:=([(nd,txs ds)],txs ds)) (wX rfl e0) lp (zj rfl))))
theorem BH (cl:107)(ns nd nb:Nat)(acc:Int)(d:Str)(x:Option D)(h:Hh)(kvs:134)(f:Int)(h3:h[nb]?=some 192)(hv:zI kvs (.inr d)=some (.int f)) :
  zO ZG (λ ρ' h'=>b_row_by_1.run cl ρ' h') (.str d) [some (.loc ns),some 138,some (.loc nb),some (.int acc),x] h=.nx [some (.loc ns),some 138,some (.loc nb),some (.int (Builtin.bitOr acc f)),some (.str d)] h:=by
 show Ss.run cl (.cons (.set 3 (.bin .BitOr (.var 3 _) (.sub (.var 2 _) (.var 4 _) _) _) _ _) .nil) [some (.loc ns),some 138,some (.loc nb),some (.int acc),some (.str d)] h=_;simp [jW,J8,GR,z2x,we,zax,Vc,jC,jD,h3,hv]
theorem QW (cl:107)(ns nd nb:Nat)(all:153)(kvs:134)(f:141):∀ (rest:XQ) (acc:Int) (x:Option D) (h:Hh),rd h ns=some all->h[nb]?=some 192->(∀ y∈rest,zI kvs (.inr y)=some (.int (f y))) ->
  ∃ x',zH [(ns,all)] (zO ZG λ ρ' h'=>b_row_by_1.run cl ρ' h') (txs rest) [some (.loc ns),some 138,some (.loc nb),some (.int acc),x] h =
   .nx [some (.loc ns),some 138,some (.loc nb),some (.int (rest.foldl (λ a y=>Builtin.bitOr a (f y)) acc)),x'] h
 | [],acc,x,h,h1,h3,h6=>by
  refine ⟨x,?_⟩;have st:stay [(ns,all)] h:=stay1.mpr h1;simp [txs,zH,st]
 | d::rest,acc,x,h,h1,h3,h6=>by
  have st:stay [(ns,all)] h:=stay1.mpr h1;obtain ⟨x',ih⟩:=QW cl ns nd nb all kvs f rest (Builtin.bitOr acc (f d)) (some (.str d)) h h1 h3 (λ y hy=>h6 y (Y03 _ hy));refine ⟨x',?_⟩;rw [Y1i,<- ih];show zH _ _ (.str d::txs rest) _ _=_;rw [zH,if_pos st,BH cl ns nd nb acc d x h kvs (f d) h3 (h6 d (Y05 ..))]
theorem BI (cl:107)(h:Hh)(nm nd:Nat)(xs ds:XQ)(f:141)(em:h[nm]?=some (.lst (txs xs)))(hb:cl 5 [.loc nd] h=.ok 121 (h++[.dK (zA 0 ds)]))(hf:∀ y∈xs,zI (zA 0 ds) (.inr y)=some (.int (f y))) :
  d_row_by.run cl [.loc nm,.loc nd] h=.ok (.int (xs.foldl (λ a y=>Builtin.bitOr a (f y)) 0)) (h++[.dK (zA 0 ds)]):=by
 have e0:=Ud (o:=.dK (zA 0 ds)) em;obtain ⟨x',lp⟩:=QW cl nm nd h.length (txs xs) (zA 0 ds) f xs 0 none _ (zS e0) (zo _ _) hf;exact zg (zd (bnd rfl (bnd rfl hb)) (zd rfl (jp (q:=([(nm,txs xs)],txs xs)) (wX rfl e0) lp (zj rfl))))
noncomputable def lsI (x y:Int):Int:=Builtin.bitAnd x (Builtin.bitNot y)
noncomputable def opI (x y:Int):D:=.tup [.int x,.int (lsI y x)]
theorem z6o (cl:107)(h:Hh)(x y:Int):d_less.run cl [.int x,.int y] h=.ok (.int (lsI x y)) h:=zg (zj rfl)
theorem BJ (cl:107)(h:Hh)(x y:Int)(hl:∀ x y,cl 8 [.int x,.int y] h=.ok (.int (lsI x y)) h):d_opened.run cl [.int x,.int y] h=.ok (opI x y) h :=
 zg (zj (bnd (bnd rfl (bnd (bnd (bnd rfl (bnd 174 (hl y x))) rfl) rfl)) rfl))
theorem BK (cl:107)(h:Hh)(a b r:Int):d_filled.run cl [.tup [.int a,.int b],.int r] h=.ok (.int (Builtin.bitOr a (Builtin.bitAnd b r))) h:=zg (zj rfl)
theorem BL (cl:107)(h:Hh)(a b x y:Int)(ho:∀ x y,cl 9 [.int x,.int y] h=.ok (opI x y) h):d_joined.run cl [.tup [.int a,.int b],.tup [.int x,.int y]] h=.ok (opI (Builtin.bitOr a x) (Builtin.bitOr b y)) h :=
 zg (zj (bnd rfl (bnd 174 (ho _ _))))
theorem GW (cl:107)(h:Hh)(a b r:Int)(hl:∀ x y,cl 8 [.int x,.int y] h=.ok (.int (lsI x y)) h)(ho:∀ x y,cl 9 [.int x,.int y] h=.ok (opI x y) h):d_without.run cl [.tup [.int a,.int b],.int r] h=.ok (opI (lsI a r) (lsI b r)) h :=
 zg (zj (bnd (bnd rfl (bnd 174 (hl _ _))) (bnd (bnd (bnd rfl (bnd 174 (hl _ _))) rfl) (ho _ _))))
theorem zT {cl:107}{ρ:En}{h h' h2:Hh}{p:Pos}{elt:E}{tg:Tg}{it:I}{ct:Es}{ns:XQ}{cap:147}{sc:Scope}{q:Ck×List D}{xs:153}(hi:it.ev cl ρ h=.ok q h')(hl:q.2.length<=1000000)(hc:181):E.ev cl (.ofL (.comp elt tg it ct ns cap sc p)) ρ h=.ok (.loc h2.length) (h2++[.lst xs]):=bnd (bnd hi ((if_pos hl).trans hc)) rfl
section
variable {cl:107}{ρ:En}{h h1 h2:Hh}{e:E}{r es:Es}{x:D}{xs:153}{p p1:Pos}
theorem cns (he:e.ev cl ρ h=.ok x h1)(hr:r.ev cl ρ h1=.ok xs h2):Es.ev cl (.cons e r) ρ h=.ok (x::xs) h2:=bnd he (bnd hr rfl)
theorem zX (he:es.ev cl ρ h=.ok xs h1)(hl:xs.length<=1000):E.ev cl (.tup es p) ρ h=.ok (.tup xs) h1:=bnd he (if_pos hl)
theorem z6p (he:es.ev cl ρ h=.ok xs h1)(hl:xs.length<=1000):E.ev cl (.ofL (.disp es p)) ρ h=.ok (.loc h1.length) (h1++[O.lst xs]):=bnd (bnd he (if_pos hl)) rfl
end
abbrev Pa:=G×Int
noncomputable def pD (p:Pa):D:=.tup [p.1.d,.int p.2]
noncomputable def _root_.PI.Kd.hnd:Kd->Option Str
 | .handle x=>some x
 | _=>none
noncomputable def GX (cr:141)(k:Kd)(a:Int)(n:Nat):List Int:=match k with
 | .handle x=>[a,Builtin.bitOr a (cr x)]
 | _=>List.replicate n a
noncomputable def chI (cr:141)(k:Kd)(ps:List G)(a:Int):List Pa:=ps.zip (GX cr k a ps.length)
theorem BM:PyData.strOk "handle"=true:=by decide +kernel
theorem Vz (k:Kd):(k.tag==("handle":Str))=k.hnd.isSome:=by cases k<;>rfl
theorem w5:∀ gs:List G,G.ds gs=gs.map G.d
 | []=>by rw [G.ds];rfl
 | g::r=>by rw [G.ds,w5 r];rfl
theorem BN (cr:141)(k:Kd)(hk:k.hnd=none)(ps:List G)(a:Int):chI cr k ps a=ps.map λ g=>(g,a):=by
 have e:GX cr k a ps.length=List.replicate ps.length a:=by cases k<;>first | rfl | cases hk
 unfold chI;rw [e]
 induction ps with
 | nil=>rfl
 | cons g r ih=>rw [Y08,Y14,List.zip_cons_cons,ih (by cases k<;>first | rfl | cases hk)];rfl
noncomputable def Cr (h:Hh)(nc:Nat)(cr:141)(ns:XQ):Prop:=∃ kvs,h[nc]?=some 192/\∀ x∈ns,zI kvs (.inr x)=some (.int (cr x))
theorem ZP {h:Hh}{n:Nat}{kvs:134}{x:Str}{d:D}(g:h[n]?=some 192)(v:zI kvs (.inr x)=some d):jC 146 (.str x) h=.ok d h:=by
 simp [jC,g,jD,v]
theorem z33 (cl:107)(C:yO cl 0)(k:Kd)(ps:List G)(a:Int)(h:Hh)(nc:Nat)(cr:141)(ns:XQ)(hc:Cr h nc cr ns)(ok:k.hnd=none\/ps.length=2)(hk:∀ x,k.hnd=some x->x∈ns)(hl:ps.length<=1000000) :
  d_inner.run cl [(G.nd k ps).d,.int a,.loc nc] h=.ok 121 (h++[.lst ((chI cr k ps a).map pD)]):=by
 have e0:=JJ k (G.ds ps) h;have e1:=eqS (h:=h) (Zy k) BM;rw [Vz] at e1;rw [G.d];cases q:k.hnd with
 | none =>
  rw [q] at e1;have key:=zW (λ g:G=>g.d) (c:=[]) (f:=j4 GS (jE [none,some 1] [some (k.enc (G.ds ps)),some (.int a),some (.loc nc)]) (λ ρ' h2=>c_inner_1.evC cl ρ' h2) (λ ρ' h2=>e_inner_1.ev cl ρ' h2)) (h:=h) zu (λ g=>some (pD (g,a))) ps [] (λ g _=>rfl);rw [jX,Y0s] at key;rw [BN cr k q,Y10];have cc:cl 0 [k.enc (G.ds ps)] h=.ok (.tup (G.ds ps)) h:=by have:=C k ps h;rw [G.d] at this;exact this
  refine zg (zx (zi 191 rfl e1) (zj (zT (q:=([],G.ds ps)) (bnd (bnd rfl (bnd rfl cc)) rfl) (by rw [w5,Y04];exact hl) (by rw [w5];exact key))))
 | some x =>
  rw [q] at e1;have hk':k=.handle x:=by cases k<;>first | (cases q;rfl) | cases q
  subst hk';obtain ⟨kvs,g,v⟩:=hc;have hp:ps.length=2:=ok.resolve_left λ z=>by rw [q] at z;cases z
  match ps,hp with
  | [t2,t3],_ =>
   have v':=ZP g (v x (hk x rfl));exact zg (ja (zi 191 rfl e1) (zj (z6p (cns (zX (cns 112 119) (show 2<=1000 by decide)) (cns (zX (cns 112 (cns (bnd rfl (bnd (bnd rfl (bnd 112 v')) rfl)) rfl)) (show 2<=1000 by decide)) rfl)) (show 2<=1000 by decide))))
section
variable (cr:141)
mutual
noncomputable def wk:G->Int->List Pa
 | .nd k ps,a=>165::wks ps (GX cr k a ps.length)
noncomputable def wks:List G->List Int->List Pa
 | [],_=>[]
 | _::_,[]=>[]
 | g::r,x::xs=>wks r xs++wk g x
end
noncomputable def wkW:List Pa->List Pa
 | []=>[]
 | p::r=>wkW r++wk cr p.1 p.2
theorem VA:∀ (gs:List G) (as:195),wks cr gs as=wkW cr (gs.zip as)
 | [],_=>by rw [wks];rfl
 | _::_,[]=>by rw [wks];rfl
 | g::r,x::xs=>by rw [wks,VA r xs];rfl
theorem z4j (k:Kd)(ps:List G)(a:Int):wk cr (.nd k ps) a=165::wkW cr (chI cr k ps a):=by rw [wk,VA];rfl
theorem WI:∀ (A B:List Pa),wkW cr (A++B)=wkW cr B++wkW cr A
 | [],B=>by simp [wkW]
 | p::A,B=>by rw [Y2v,wkW,WI A B,wkW,Y0k]
theorem BO (W:List Pa)(k:Kd)(ps:List G)(a:Int):wkW cr (W++[165])=165::wkW cr (W++chI cr k ps a):=by
 rw [WI,WI,wkW,wkW,Y0s,z4j];rfl
end
noncomputable def qR (f:141)(x:Int)(p:Pa):Int:=match p.1 with
 | .nd (.doo d) _=>Builtin.bitOr x (lsI (f d) p.2)
 | _=>x
noncomputable def jU (p:Pa):Bool:=match p.1 with
 | .nd (.call _ _) _=>true
 | .nd (.handle _) _=>true
 | _=>false
structure Pl (nc nb no nu nw:Nat):Prop where
 ou:no≠nu
 ow:no≠nw
 uw:nu≠nw
 bo:nb≠no
 bu:nb≠nu
 bw:nb≠nw
 co:nc≠no
 cu:nc≠nu
 cw:nc≠nw
noncomputable def ob (bl:D)(x:Int)(nu:Nat):O:=.obj "Rest" [("block",bl),("done",.int x),("uses",.loc nu)]
structure St (nc nb no nu nw:Nat)(bl:D)(bits:134)(cr:141)(ns:XQ)(h:Hh)(x:Int)(us W:List Pa):Prop where
 o:h[no]?=some (ob bl x nu)
 u:h[nu]?=some (.lst (us.map pD))
 w:h[nw]?=some (.lst (W.map pD))
 b:h[nb]?=some (.dK bits)
 c:Cr h nc cr ns
noncomputable def Kx (ms:List Nat)(h h':Hh):Prop:=h.length<=h'.length/\∀ i o,h[i]?=some o->i∉ms->h'[i]?=some o
theorem Kx.refl (ms:List Nat)(h:Hh):Kx ms h h:=⟨Y0b _,λ _ _ e _=>e⟩
theorem Kx.trans {ms:List Nat}{a b c:Hh}(x:Kx ms a b)(y:Kx ms b c):Kx ms a c:=⟨Y0n x.1 y.1,λ i o e n=>y.2 i o (x.2 i o e n) n⟩
theorem Kx.set {ms:List Nat}(h:Hh){n:Nat}(o:O)(hn:n∈ms):Kx ms h (h.set n o):=⟨by rw [Y1w];exact Y0b _,λ i u e z=>by
 have q:n≠i:=λ q=>z (by rw [<- q];exact hn);rw [Y18 q];exact e⟩
theorem Kx.app {ms:List Nat}(h J:Hh):Kx ms h (h++J):=⟨by rw [Y0e];omega,λ i u e _=>by rw [Y11 (Y01.mp e).1];exact e⟩
section
variable {nc nb no nu nw:Nat}{bl:D}{bits:134}{cr:141}{ns:XQ}{h:Hh}{x:Int}{us W:List Pa}
theorem j5 {n m:Nat}{o u:O}(e:h[n]?=some u)(z:n≠m):(h.set m o)[n]?=some u:=by rw [Y18 (Ne.symm z)];exact e
theorem wY {n:Nat}{o u:O}(e:h[n]?=some u):(h.set n o)[n]?=some o:=Y1j (Y01.mp e).1
theorem zh {n:Nat}{u:O}{J:Hh}(e:h[n]?=some u):(h++J)[n]?=some u:=by rw [Y11 (Y01.mp e).1];exact e
theorem Cr.set {m:Nat}{o:O}(c:Cr h nc cr ns)(z:nc≠m):Cr (h.set m o) nc cr ns:=by obtain ⟨k,e,v⟩:=c;exact ⟨k,j5 e z,v⟩
theorem Cr.app {J:Hh}(c:Cr h nc cr ns):Cr (h++J) nc cr ns:=by obtain ⟨k,e,v⟩:=c;exact ⟨k,zh e,v⟩
theorem St.setW (P:Pl nc nb no nu nw)(s:St nc nb no nu nw bl bits cr ns h x us W)(W':List Pa):St nc nb no nu nw bl bits cr ns (h.set nw (.lst (W'.map pD))) x us W':=⟨j5 s.o P.ow,j5 s.u P.uw,wY s.w,j5 s.b P.bw,s.c.set P.cw⟩
theorem St.setO (P:Pl nc nb no nu nw)(s:St nc nb no nu nw bl bits cr ns h x us W)(y:Int):St nc nb no nu nw bl bits cr ns (h.set no (ob bl y nu)) y us W:=⟨wY s.o,j5 s.u (Ne.symm P.ou),j5 s.w (Ne.symm P.ow),j5 s.b P.bo,s.c.set P.co⟩
theorem St.setU (P:Pl nc nb no nu nw)(s:St nc nb no nu nw bl bits cr ns h x us W)(vs:List Pa):St nc nb no nu nw bl bits cr ns (h.set nu (.lst (vs.map pD))) x vs W:=⟨j5 s.o P.ou,wY s.u,j5 s.w (Ne.symm P.uw),j5 s.b P.bu,s.c.set P.cu⟩
theorem St.app (s:St nc nb no nu nw bl bits cr ns h x us W)(J:Hh):St nc nb no nu nw bl bits cr ns (h++J) x us W:=⟨zh s.o,zh s.u,zh s.w,zh s.b,s.c.app⟩
theorem QX {bl:D}(e:h[no]?=some (ob bl x nu)):J6 (.loc no) "done" h=.ok (.int x) h:=by unfold J6;dsimp only;rw [e];rfl
theorem QY {bl:D}(e:h[no]?=some (ob bl x nu)):J6 (.loc no) "uses" h=.ok (.loc nu) h:=by unfold J6;dsimp only;rw [e];rfl
theorem BP {bl:D}(e:h[no]?=some (ob bl x nu))(y:Int):qJ (.loc no) "done" (.int y) h=some (h.set no (ob bl y nu)):=by unfold qJ;dsimp only;rw [e];rfl
theorem z9f {W:List Pa}{p:Pa}(e:h[nw]?=some (.lst ((W++[p]).map pD))):m0D .pop (.loc nw) h=.ok (pD p) (h.set nw (.lst (W.map pD))):=by
 unfold m0D;dsimp only;rw [e];simp
theorem OQ {cl:107}(k:Kd)(ps:List G){ρ:En}{i:Nat}{p p1 p2 p3 p4 p5:Pos}(q:ρ[i]?=some (some (G.nd k ps).d)):E.evT cl (.cmp .In (.sub (.var i p) (.int 0 p1) p2) (.tup (.cons (.str "call" p3) (.cons (.str "handle" p4) .nil)) p5) p) ρ h=.ok (jU (.nd k ps,0)) h:=by
 refine zi (bnd (by rw [we,q]) (bnd rfl (by rw [G.d];exact JJ k _ h))) (zX 139 (show 2<=1000 by decide)) ?_;cases k<;>rfl
noncomputable def _root_.PI.Kd.isDo:Kd->Bool
 | .doo _=>true
 | _=>false
theorem z6q (k:Kd):(k.tag==("do":Str))=k.isDo:=by cases k<;>rfl
theorem z6r (d:Str)(ps:153)(h:Hh):jC ((Kd.doo d).enc ps) (.int 1) h=.ok (.str d) h:=by
 simp [Kd.enc,jC,atI,ixN];rw [if_pos 109];rfl
noncomputable def okN (ds ns:XQ)(g:G):Prop:=match g with
 | .nd k ps=>(k.hnd=none\/ps.length=2)/\(∀ x,k.hnd=some x->x∈ns)/\(∀ d,k=.doo d->d∈ds)/\ps.length<=1000
noncomputable def yQ (cl:107)(i:Nat):Prop:=∀ (k:Kd) (ps:List G) (a:Int) (h:Hh) (nc:Nat) (cr:141) (ns:XQ),Cr h nc cr ns->(k.hnd=none\/ps.length=2)->(∀ x,k.hnd=some x->x∈ns)->ps.length<=1000000->cl i [(G.nd k ps).d,.int a,.loc nc] h=.ok 121 (h++[.lst ((chI cr k ps a).map pD)])
noncomputable def WJ (cl:107)(i:Nat):Prop:=∀ (x y:Int) (h:Hh),cl i [.int x,.int y] h=.ok (.int (lsI x y)) h
theorem z6s (cr:141)(k:Kd)(ps:List G)(a:Int):(chI cr k ps a).length<=ps.length:=by unfold chI;rw [List.length_zip];omega
theorem JN {cl:107}{ρ:En}{h0 h h1:Hh}{o a:E}{p1 p:Pos}{n:Nat}{xs:153}{d:D}(ho:o.ev cl ρ h0=.ok 146 h)(g0:∃ l,h[n]?=some (.lst l))(ha:a.ev cl ρ h=.ok d h1)(g1:h1[n]?=some 178)(hl:xs.length<1000000) :
  E.ev cl (.m1 .append o a p1 p) ρ h0=.ok .non (h1.set n (.lst (xs++[d]))):=by
 obtain ⟨l,g0⟩:=g0;refine bnd ho ?_;show onL 146 h _=_;rw [Bw g0];refine bnd ha ?_;show m1D .append 146 d h1=_;unfold m1D;dsimp only;rw [g1];exact if_pos hl
theorem turn (cl:107)(I:yQ cl 16)(L:WJ cl 8)(P:Pl nc nb no nu nw)(f:141)(ds:XQ)(hf:177)(bd:D)(l t c:Option D)(k:Kd)(ps:List G)(a:Int)
  (s:St nc nb no nu nw bl bits cr ns h x us (W++[165])) (ok:okN ds ns (.nd k ps)) (hu:us.length<1000000) (hw:W.length+ps.length<=1000000) :
  ∃ h',b_rest_of_1.run cl [some bd,some bl,some (.loc nc),some (.loc nb),some (.loc no),some (.loc nw),l,t,c] h=.nx 124 h'/\Kx [no,nu,nw] h h' /\
   St nc nb no nu nw bl bits cr ns h' (qR f x 165) (us++(if jU 165 then [165] else [])) (W++chI cr k ps a):=by
 obtain ⟨o1,o2,o3,o4⟩:=ok;have s1:=s.setW P W;have k1:Kx [no,nu,nw] h (h.set nw (.lst (W.map pD))):=Kx.set h _ 111;generalize e1:h.set nw (.lst (W.map pD))=h1 at s1 k1;have D:∃ h2,St nc nb no nu nw bl bits cr ns h2 (qR f x 165) us W/\Kx [no,nu,nw] h1 h2/\∀ (r:Ss) (o:RS) (p1 p2 p3 p4 p5 p6 p7 p8 p9 q1 q2 q3 q4 q5 q6 q7 q8 r1 r2 r3:Pos),
   Ss.run cl r 124 h2=o ->
   Ss.run cl (.cons (.iff (.cmp .Eq (.sub (.var 7 p1) (.int 0 p2) p3) (.str "do" p4) p5) (.cons (.setF (.var 4 p6) "done" (.bin .BitOr (.fld (.var 4 p7) "done" p8) (.call 8 (.sub (.var 3 p9) (.sub (.var 7 q1) (.int 1 q2) q3) q4) (.cons (.var 8 q5) .nil) q6 q7) q8) r1 r2) .nil) .nil r3) r) 124 h1=o:=by
  have e0:jC (G.nd k ps).d (.int 0) h1=.ok (.str k.tag) h1:=by rw [G.d];exact JJ k _ _
  have t1:=eqS (h:=h1) (Zy k) z4i;rw [z6q] at t1;by_cases c1:∃ d,k=.doo d
  ·obtain ⟨d,rfl⟩:=c1;have v:=ZP s1.b (hf d (o3 d rfl));refine ⟨_,s1.setO P _,Kx.set h1 _ 111,λ r o p1 p2 p3 p4 p5 p6 p7 p8 p9 q1 q2 q3 q4 q5 q6 q7 q8 r1 r2 r3 k=>qN (zi 191 rfl t1) ?_ k⟩;have e2:E.ev cl (.bin .BitOr (.fld (.var 4 p7) "done" p8) (.call 8 (.sub (.var 3 p9) (.sub (.var 7 q1) (.int 1 q2) q3) q4) (.cons (.var 8 q5) .nil) q6 q7) q8) [some bd,some bl,some (.loc nc),some (.loc nb),some (.loc no),some (.loc nw),some (pD (.nd (.doo d) ps,a)),some (G.nd (.doo d) ps).d,some (.int a)] h1=.ok (.int (Builtin.bitOr x (lsI (f d) a))) h1 :=
    bnd (bnd rfl (QX s1.o)) (bnd (bnd (bnd rfl (bnd (bnd rfl (bnd rfl (by rw [G.d];exact z6r d _ _))) v)) (bnd 174 (L _ _ _))) rfl)
   rw [jW,Bp,e2,andS_ok];show jZ (j8 _ (Res.ok (D.loc no) h1) λ y h2=>match qJ y "done" _ h2 with | some h3=>RS.nx _ h3 | none=>.no) _=_
   rw [andS_ok,BP s1.o];rfl
  ·have tf:k.isDo=false:=by cases k<;>first | rfl | exact absurd 125 c1
   rw [tf] at t1;have dn:qR f x 165=x:=by unfold qR;cases k<;>first | rfl | exact absurd 125 c1
   rw [dn];exact ⟨h1,s1,Kx.refl _ _,λ r o p1 p2 p3 p4 p5 p6 p7 p8 p9 q1 q2 q3 q4 q5 q6 q7 q8 r1 r2 r3 k=>zx (zi 191 rfl t1) k⟩
 obtain ⟨h2,s2,k2,D2⟩:=D;have U:∃ h3,St nc nb no nu nw bl bits cr ns h3 (qR f x 165) (us++(if jU 165 then [165] else [])) W/\Kx [no,nu,nw] h2 h3/\∀ (r:Ss) (o:RS) (p1 p2 p3 p4 p5 p6 p7 p8 p9 q1 q2 q3 q4 q5 q6 q7:Pos),
   Ss.run cl r 124 h3=o ->
   Ss.run cl (.cons (.iff (.cmp .In (.sub (.var 7 p1) (.int 0 p2) p3) (.tup (.cons (.str "call" p4) (.cons (.str "handle" p5) .nil)) p6) p7) (.cons (.ex (.m1 .append (.fld (.var 4 p8) "uses" p9) (.tup (.cons (.var 7 q1) (.cons (.var 8 q2) .nil)) q3) q4 q5) q6) .nil) .nil q7) r) 124 h2=o:=by
  cases c2:jU 165 with
  | true =>
   have s3:=s2.setU P (us++[165]);refine ⟨_,by simpa using s3,Kx.set h2 _ 111,λ r o p1 p2 p3 p4 p5 p6 p7 p8 p9 q1 q2 q3 q4 q5 q6 q7 kk=>qN ((OQ k ps rfl).trans (by rw [show jU (.nd k ps,0)=jU 165 from rfl,c2])) (yI (JN (bnd rfl (QY s2.o)) ⟨_,s2.u⟩ (zX 139 (show 2<=1000 by decide)) s2.u (by rw [Y04];exact hu)) rfl) ?_⟩;rw [<- kk];simp [pD]
  | false =>
   refine ⟨h2,by simpa using s2,Kx.refl _ _,λ r o p1 p2 p3 p4 p5 p6 p7 p8 p9 q1 q2 q3 q4 q5 q6 q7 kk=>zx ((OQ k ps rfl).trans (by rw [show jU (.nd k ps,0)=jU 165 from rfl,c2])) kk⟩
 obtain ⟨h3,s3,k3,U3⟩:=U;have hI:=I k ps a h3 nc cr ns s3.c o1 o2 109;have s4:=s3.app [O.lst ((chI cr k ps a).map pD)];have hl:=z6s cr k ps a;refine ⟨(h3++[O.lst ((chI cr k ps a).map pD)]).set nw (O.lst (W.map pD++(chI cr k ps a).map pD)),?_,k1.trans (k2.trans (k3.trans ((Kx.app _ _).trans (Kx.set _ _ 111)))),by
  have:=s4.setW P (W++chI cr k ps a)
  rwa [Y0q] at this⟩
 have ge:(h3++[O.lst ((chI cr k ps a).map pD)])[h3.length]?=some (.lst ((chI cr k ps a).map pD)):=zo _ _;refine zd (i:=6) (d:=pD 165) (h':=h1) (bnd rfl (by rw [<- e1];exact z9f s.w)) (zd rfl (zd rfl (D2 _ _ _ _ _ _ _ _ _ _ _ _ _ _ _ _ _ _ _ _ _ _ (U3 _ _ _ _ _ _ _ _ _ _ _ _ _ _ _ _ _ _ (yI (BC rfl ⟨_,s3.w⟩ (bnd rfl (bnd (bnd rfl (bnd 174 rfl)) hI)) s4.w ge (by rw [Y04,Y04];omega)) rfl)))))
end
theorem z4k {cl:107}{ρ:En}{h:Hh}{i n:Nat}{xs:153}{p1 p2 p3:Pos}(q:ρ[i]?=some (some 146))(g:h[n]?=some 178):E.evT cl (.cmpN true (.var i p1) p2 p3) ρ h=.ok (!xs.isEmpty) h:=by
 have e:E.ev cl (.cmpN true (.var i p1) p2 p3) ρ h=Zo true 146 h:=by rw [Vq,we,q];rfl
 unfold E.evT;rw [e];cases xs<;>simp [Zo,rdx,rd,g]
theorem z6t (cr:141)(g:G)(a:Int):0<(wk cr g a).length:=by cases g;rw [z4j];simp
theorem WK (cr:141):∀ W:List Pa,W.length<=(wkW cr W).length
 | []=>by simp
 | p::r=>by have:=z6t cr p.1 p.2;have:=WK cr r;rw [wkW,Y0e,Y08];omega
section
variable {nc nb no nu nw:Nat}{bl:D}{bits:134}{cr:141}{ns:XQ}
theorem GY (cl:107)(I:yQ cl 16)(L:WJ cl 8)(P:Pl nc nb no nu nw)(f:141)(ds:XQ)(hf:177)(bd:D):∀ (n:Nat) (W:List Pa) (x:Int) (us:List Pa) (h:Hh) (l t c:Option D),
  (wkW cr W).length<=n->St nc nb no nu nw bl bits cr ns h x us W->(∀ p∈wkW cr W,okN ds ns p.1)->us.length+(wkW cr W).length<=900000 ->
  ∃ h' l' t' c',whR (λ ρ h=>w_rest_of_1.evT cl ρ h) (λ ρ h=>b_rest_of_1.run cl ρ h) [some bd,some bl,some (.loc nc),some (.loc nb),some (.loc no),some (.loc nw),l,t,c] h=.nx [some bd,some bl,some (.loc nc),some (.loc nb),some (.loc no),some (.loc nw),l',t',c'] h'/\Kx [no,nu,nw] h h' /\
   St nc nb no nu nw bl bits cr ns h' ((wkW cr W).foldl (qR f) x) (us++(wkW cr W).filter jU) []:=by
 intro n;have fin:∀ (x:Int) (us:List Pa) (h:Hh) (l t c:Option D),St nc nb no nu nw bl bits cr ns h x us [] ->
  ∃ h' l' t' c',whR (λ ρ h=>w_rest_of_1.evT cl ρ h) (λ ρ h=>b_rest_of_1.run cl ρ h) [some bd,some bl,some (.loc nc),some (.loc nb),some (.loc no),some (.loc nw),l,t,c] h=.nx [some bd,some bl,some (.loc nc),some (.loc nb),some (.loc no),some (.loc nw),l',t',c'] h'/\Kx [no,nu,nw] h h' /\
   St nc nb no nu nw bl bits cr ns h' ((wkW cr []).foldl (qR f) x) (us++(wkW cr []).filter jU) []:=λ x us h l t c s =>
  ⟨h,l,t,c,qI (z4k (i:=5) rfl s.w),Kx.refl _ _,by simpa [wkW] using s⟩
 induction n with
 | zero =>
  intro W x us h l t c hn s _ _
  have:=WK cr W
  have e:W=[]:=Y39.mp 109;subst e;exact fin x us h l t c s
 | succ n ih =>
  intro W x us h l t c hn s ok hb;rcases Y2s W with rfl | ⟨W',p,rfl⟩
  ·exact fin x us h l t c s
  ·rw [Y2t] at *
   obtain ⟨⟨k,ps⟩,a⟩:=p;have ew:=BO cr W' k ps a;have o0:=ok 165 (by rw [ew];exact Y05);have lw:=WK cr (W'++[165]);rw [Y0e,Y26] at lw;have lp:ps.length<=1000:=o0.2.2.2;obtain ⟨h1,e1,k1,s1⟩:=turn cl I L P f ds hf bd l t c k ps a s o0 109 109;rw [ew,Y08] at hn hb;have hu:(us++(if jU 165 then [(165:Pa)] else [])).length<=us.length+1:=by
    rw [Y0e]
    split<;>simp
   obtain ⟨h2,l2,t2,c2,e2,k2,s2⟩:=ih (W'++chI cr k ps a) _ _ h1 (some (pD 165)) (some (G.nd k ps).d) (some (.int a)) 109 s1 (λ p hp=>ok p (by rw [ew];exact Y03 _ hp)) 109;refine ⟨h2,l2,t2,c2,(Zn ((z4k (i:=5) rfl s.w).trans 111) e1).trans e2,k1.trans k2,?_⟩;rw [ew,Y1i,Y3h];have e3:us++(if jU 165 then [(165:Pa)] else [])++(wkW cr (W'++chI cr k ps a)).filter jU=us++(if jU 165=true then (165:Pa)::(wkW cr (W'++chI cr k ps a)).filter jU else (wkW cr (W'++chI cr k ps a)).filter jU):=by
    split<;>simp
   rw [e3] at s2;exact s2
end
theorem z6u (cl:107)(bl:D)(h:Hh):d_init_Rest.run cl [.loc h.length,bl] (h++[.obj "Rest" []])=.ok .non (h++[ob bl 0 (h.length+1),.lst []]):=by
 have n1:¬ (("block":Str)="done"):=by decide
 have n2:¬ (("block":Str)="uses"):=by decide
 have n3:¬ (("done":Str)="uses"):=by decide
 simp [n1,n2,n3,d_init_Rest,Df.run,jW,J8,Bp,we,z2w,z91,z4d,z6h,new,qJ,QB,jy,hx0,Bq,ob]
theorem BQ {cl:107}{ρ ρ':En}{h h':Hh}{c:E}{a r:Ss}{p:Pos}{o:RS}(hw:whR (λ ρ' h'=>c.evT cl ρ' h') (λ ρ' h'=>a.run cl ρ' h') ρ h=.nx ρ' h')(k:Ss.run cl r ρ' h'=o):Ss.run cl (.cons (.whil c a p) r) ρ h=o:=by
 rw [<- k,jW,z4g,hw];rfl
noncomputable def BR (cl:107)(i:Nat):Prop:=∀ (bl:D) (h:Hh),cl i [.loc h.length,bl] (h++[.obj "Rest" []])=.ok .non (h++[ob bl 0 (h.length+1),.lst []])
noncomputable def dnB (cr f:141)(bs:List G):Int:=(wkW cr (bs.map λ g=>(g,0))).foldl (qR f) 0
noncomputable def usB (cr:141)(bs:List G):List Pa:=(wkW cr (bs.map λ g=>(g,0))).filter jU
structure RestAt (h:Hh)(n:Nat)(bl:D)(x:Int)(us:List Pa):Prop where
 ex:∃ nu,n<nu/\h[n]?=some (ob bl x nu)/\h[nu]?=some (.lst (us.map pD))
theorem z6v (cl:107)(I:yQ cl 16)(L:WJ cl 8)(N:BR cl 42)(f cr:141)(ds ns:XQ)(bits:134)(hf:177)(bs:List G)(bl:D)(nc nb:Nat)(h:Hh)(hb:h[nb]?=some (.dK bits))(hc:Cr h nc cr ns)
  (ok:∀ p∈wkW cr (bs.map λ g=>(g,0)),okN ds ns p.1) (hs:(wkW cr (bs.map λ g=>(g,0))).length<=900000) :
  ∃ h',d_rest_of.run cl [.tup (bs.map G.d),bl,.loc nc,.loc nb] h=.ok 121 h'/\Kx [] h h'/\RestAt h' h.length bl (dnB cr f bs) (usB cr bs):=by
 obtain ⟨kc,gc,vc⟩:=id hc;have lb:nb<h.length:=(Y01.mp hb).1;have lc:nc<h.length:=(Y01.mp gc).1;have key:=zW (λ g:G=>g.d) (c:=[]) (f:=j4 QT (jE [none] [some (.tup (bs.map G.d)),some bl,some (.loc nc),some (.loc nb),some 121,none,none,none,none]) (λ ρ' h2=>c_rest_of_2.evC cl ρ' h2) (λ ρ' h2=>e_rest_of_2.ev cl ρ' h2)) (h:=h++[ob bl 0 (h.length+1),.lst []]) zu (λ g=>some (pD (g,0))) bs [] (λ g _=>rfl);rw [jX,Y0s] at key;have lw:=WK cr (bs.map λ g=>((g,0):Pa));rw [Y04] at lw;have P:Pl nc nb h.length (h.length+1) (h.length+2):=⟨by omega,by omega,by omega,by omega,by omega,by omega,by omega,by omega,by omega⟩;have s:St nc nb h.length (h.length+1) (h.length+2) bl bits cr ns (h++[ob bl 0 (h.length+1),O.lst []]++[.lst (bs.map λ g=>pD (g,0))]) 0 [] (bs.map λ g=>(g,0)):=by
  refine ⟨?_,?_,?_,zh (zh hb),hc.app.app⟩
  ·simp
  ·simp
  ·simp [Y10]
 obtain ⟨h',l',t',c',e,kx,s'⟩:=GY cl I L P f ds hf (.tup (bs.map G.d)) _ _ 0 [] _ none none none 169 s ok (by simpa using hs);refine ⟨h',?_,?_,⟨h.length+1,Y1n _,s'.o,?_⟩⟩
 ·refine zg (zd (d:=.loc h.length) (h':=h++[ob bl 0 (h.length+1),.lst []]) (bnd rfl (bnd rfl ?_)) (zd (d:=.loc (h.length+2)) (h':=h++[ob bl 0 (h.length+1),O.lst []]++[.lst (bs.map λ g=>pD (g,0))]) ((zT (q:=([],bs.map G.d)) 174 (by rw [Y04];omega) key).trans ?_) ?_))
  ·show mkR _ (cl 42 [.loc h.length,bl] (h++[.obj "Rest" []]))=_;rw [N];rfl
  ·rw [show (h++[ob bl 0 (h.length+1),O.lst []]).length=h.length+2 by simp]
  ·exact BQ e (zj rfl)
 ·refine ⟨by have:=kx.1;simp at this;omega,λ i o ei _=>?_⟩;have li:i<h.length:=(Y01.mp ei).1;exact kx.2 i o (zh (zh ei)) 175
 ·have:=s'.u
  rwa [Y0s] at this
noncomputable def It.own:It->D
 | .df _ _ o _=>o
 | .hd _ _ _=>.non
noncomputable def It.nm:It->D
 | .df n _ _ _=>n
 | .hd n _ _=>n
theorem z9g (cl:107)(it:It)(h:Hh):d_own_block.run cl [it.d] h=.ok it.own h:=by
 cases it with
 | df nm ps o b=>exact zg (zj (bnd (jo (zi 112 rfl (eqS wW wW))) 112))
 | hd nm cs e=>exact zg (zj (bnd (jo (zi 112 rfl ((eqS jR wW).trans (by rfl)))) rfl))
noncomputable def qB (f:141)(it:It):Int:=(it.heads.map f).sum
noncomputable def It.isH:It->Bool
 | .df _ _ _ _=>false
 | .hd _ _ _=>true
abbrev Ni:=Str×It
noncomputable def okI (p:Ni):Prop:=p.2.nm=.str p.1
noncomputable def crK (f:141)(l:List Ni):List (Key×D):=(l.filter λ p=>p.2.isH).map λ p=>(.inr p.1,.int (qB f p.2))
theorem QM {cl:107}{ρ:En}{h h1 h2 h3 h4:Hh}{o i v:E}{p1 p:Pos}{r:Ss}{R:RS}{x y z:D}(hv:v.ev cl ρ h=.ok z h1)(ho:o.ev cl ρ h1=.ok x h2)(hi:i.ev cl ρ h2=.ok y h3)(hp:Zl x y z h3=some h4)(k:Ss.run cl r ρ h4=R):Ss.run cl (.cons (.put o i v p1 p) r) ρ h=R:=by
 rw [jW,z93,hv,andS_ok,ho,andS_ok,hi,andS_ok,hp];exact k
theorem yR {h:Hh}{n:Nat}{kvs:134}{x:Str}{z:D}(g:h[n]?=some 192)(hl:kvs.length<1000000)(hn:∀ p∈kvs,p.1≠.inr x):Zl 146 (.str x) z h=some (h.set n (.dK (kvs++[(.inr x,z)]))):=by
 simp [Zl,g,jD,hl,WH hn]
theorem QZ (l:195):wR (l.map D.int)=some l:=by
 induction l with
 | nil=>rfl
 | cons x r ih=>rw [Y09,wR,ih];rfl
theorem z34 (cl:107)(f:141)(ds:XQ)(bits:134)(hf:177)(pr:D)(nb nr:Nat)(hbr:nb≠nr)(q:Option D)(h:Hh)(kvs:134)(p:Ni)(hp:okI p)(hb:h[nb]?=some (.dK bits))(hr:h[nr]?=some 192)(hl:kvs.length<1000)(hd:∀ d∈p.2.heads,d∈ds)(hh:p.2.heads.length<=1000)(hn:∀ u∈kvs,u.1≠.inr p.1) :
  ∃ h',zO wG (λ ρ' h'=>b_clause_rows_1.run cl ρ' h') p.2.d [some pr,some (.loc nb),some (.loc nr),q] h=.nx [some pr,some (.loc nb),some (.loc nr),some p.2.d] h'/\Kx [nr] h h'/\h'[nr]?=some (.dK (kvs++crK f [p])):=by
 obtain ⟨x,it⟩:=p;cases it with
 | df nm ps o b =>
  refine ⟨h,?_,Kx.refl _ _,by simpa [crK,It.isH] using hr⟩;show Ss.run cl (.cons (.iff (.cmp .Eq (.sub (.var 3 _) (.int 0 _) _) (.str "handler" _) _) _ .nil _) .nil) [some pr,some (.loc nb),some (.loc nr),some (It.df nm ps o b).d] h=_;exact zx (zi 112 rfl ((eqS wW jR).trans (by rfl))) rfl
 | hd nm cs e =>
  have hp:nm=.str x:=hp;subst hp;have key:=zW clD (c:=[]) (f:=j4 wI (jE [none,some 1] [some pr,some (.loc nb),some (.loc nr),some (It.hd (.str x) cs e).d]) (λ ρ' h2=>c_clause_rows_2.evC cl ρ' h2) (λ ρ' h2=>e_clause_rows_2.ev cl ρ' h2)) (h:=h) zu (λ c=>some (.int (f c.1))) cs [] (λ c hc=>by
   have v:=ZP hb (hf c.1 (hd c.1 (Y0c.mpr ⟨c,hc,rfl⟩)));show (E.ev cl (.sub (.var 1 _) (.sub (.var 0 _) (.int 0 _) _) _) [some (clD c),some (.loc nb)] h).bind _=_;exact bnd (bnd rfl (bnd 112 v)) rfl)
  rw [jX,Y0s] at key;have hc:cs.length<=1000:=by simpa [It.heads] using hh
  have em:(cs.map λ c=>D.int (f c.1))=(cs.map λ c=>f c.1).map D.int:=by rw [Y10];rfl
  rw [em] at key;have eS:(cs.map λ c=>f c.1).sum=qB f (.hd (.str x) cs e):=by unfold qB It.heads;rw [Y10];rfl
  refine ⟨(h++[O.lst ((cs.map λ c=>f c.1).map D.int)]).set nr (.dK (kvs++[(.inr x,.int (qB f (.hd (.str x) cs e)))])),?_,(Kx.app _ _).trans (Kx.set _ _ 111),by rw [wY (zh hr)];simp [crK,It.isH]⟩;have hs:c1D .sum 121 (h++[O.lst ((cs.map λ c=>f c.1).map D.int)])=.ok (.int (qB f (.hd (.str x) cs e))) (h++[O.lst ((cs.map λ c=>f c.1).map D.int)]):=by
   unfold c1D;dsimp only;rw [zS (zo _ _)];show (match wR _ with | some is=>Res.ok (D.int is.sum) _ | none=>.no)=_
   rw [QZ];show Res.ok (D.int (cs.map λ c=>f c.1).sum) _=_;rw [eS]
  show Ss.run cl (.cons (.iff (.cmp .Eq (.sub (.var 3 _) (.int 0 _) _) (.str "handler" _) _) (.cons (.put (.var 2 _) (.sub (.var 3 _) (.int 1 _) _) (.c1 .sum (.ofL (.comp e_clause_rows_2 wI (.seq (.sub (.var 3 _) (.int 2 _) _)) c_clause_rows_2 _ [none,some 1] _ _)) _ _) _ _) .nil) .nil _) .nil) [some pr,some (.loc nb),some (.loc nr),some (It.hd (.str x) cs e).d] h=_;exact qN (zi 112 rfl (eqS jR jR)) (QM (bnd (zT (q:=([],cs.map clD)) (bnd 112 rfl) (by rw [Y04];omega) key) hs) rfl 112 (yR (zh hr) 109 hn) rfl) rfl
structure OkP (ds ns:XQ)(cr:141)(p:Ni):Prop where
 nm:okI p
 hd:∀ d∈p.2.heads,d∈ds
 hl:p.2.heads.length<=1000
 bl:p.2.bods.length<=1000
 ok:∀ q∈wkW cr (p.2.bods.map λ g=>(g,0)),okN ds ns q.1
 sz:(wkW cr (p.2.bods.map λ g=>(g,0))).length<=900000
theorem VB (f:141)(a b:List Ni):crK f (a++b)=crK f a++crK f b:=by unfold crK;rw [List.filter_append,Y0q]
theorem z35 (f:141)(a:List Ni):(crK f a).length<=a.length:=by unfold crK;rw [Y04];exact Y2r ..
theorem VC {f:141}{a:List Ni}{u:Key×D}(h:u∈crK f a):∃ p∈a,u.1=.inr p.1:=by
 unfold crK at h;obtain ⟨p,hp,rfl⟩:=Y0c.mp h;exact ⟨p,(Y1a.mp hp).1,rfl⟩
theorem VD (cl:107)(f:141)(ds:XQ)(bits:134)(hf:177)(pr:D)(nb nr:Nat)(hbr:nb≠nr):∀ (l dn:List Ni) (q:Option D) (h:Hh),h[nb]?=some (.dK bits)->h[nr]?=some (.dK (crK f dn))->(∀ p∈l,okI p/\(∀ d∈p.2.heads,d∈ds)/\p.2.heads.length<=1000)->((dn++l).map (·.1)).Nodup->dn.length+l.length<=900 ->
  ∃ h' q',zH [] (zO wG λ ρ' h'=>b_clause_rows_1.run cl ρ' h') 135 [some pr,some (.loc nb),some (.loc nr),q] h=.nx [some pr,some (.loc nb),some (.loc nr),q'] h'/\Kx [nr] h h'/\h'[nr]?=some (.dK (crK f (dn++l)))
 | [],dn,q,h,hb,hr,_,_,_=>⟨h,q,by rw [Y12,zH,if_pos zu],Kx.refl _ _,by rwa [Y13]⟩
 | p::l,dn,q,h,hb,hr,ok,nd,hl=>by
  obtain ⟨o1,o2,o3⟩:=ok p Y05;have hc:=z35 f dn;rw [Y08] at hl;have hn:∀ u∈crK f dn,u.1≠.inr p.1:=λ u hu z=>by
   obtain ⟨y,hy,e⟩:=VC hu;rw [e] at z;have z:y.1=p.1:=Sum.inr.inj z;rw [Y0q,Y09] at nd;exact (Y28.mp nd).2.2 y.1 (Y0c.mpr ⟨y,hy,rfl⟩) p.1 Y05 z
  obtain ⟨h1,e1,k1,r1⟩:=z34 cl f ds bits hf pr nb nr hbr q h (crK f dn) p o1 hb hr 109 o2 o3 hn;rw [<- VB] at r1;obtain ⟨h2,q2,e2,k2,r2⟩:=VD cl f ds bits hf pr nb nr hbr l (dn++[p]) (some p.2.d) h1 (k1.2 _ _ hb (by simpa using hbr)) r1 (λ y hy=>ok y (Y03 _ hy)) (by rwa [Y0k]) 175;rw [Y0k] at r2;refine ⟨h2,q2,?_,k1.trans k2,r2⟩;rw [Y09,zH,if_pos zu,e1];exact e2
theorem BS (cl:107)(f:141)(ds:XQ)(bits:134)(hf:177)(nb:Nat)(l:List Ni)(h:Hh)(hb:h[nb]?=some (.dK bits))(ok:∀ p∈l,okI p/\(∀ d∈p.2.heads,d∈ds)/\p.2.heads.length<=1000)(nd:(l.map (·.1)).Nodup)(hl:l.length<=900) :
  ∃ h',d_clause_rows.run cl [.tup 135,.loc nb] h=.ok 121 h'/\Kx [] h h'/\h'[h.length]?=some (.dK (crK f l)):=by
 have lb:nb<h.length:=(Y01.mp hb).1;obtain ⟨h',q',e,k,r⟩:=VD cl f ds bits hf (.tup 135) nb h.length 109 l [] none (h++[.dK []]) (zh hb) (zo _ _) ok nd (by simpa using hl);refine ⟨h',zg (zd rfl (jp (q:=([],l.map λ p:Ni=>p.2.d)) 174 e (zj rfl))),⟨by have:=k.1;simp at this;omega,λ i o ei _=>k.2 i o (zh ei) (by have:=(Y01.mp ei).1;simp;omega)⟩,r⟩
noncomputable def Ue (cl:107)(i:Nat)(f cr:141)(ds ns:XQ)(bits:134):Prop:=∀ (bs:List G) (bl:D) (nc nb:Nat) (h:Hh),h[nb]?=some (.dK bits)->Cr h nc cr ns->(∀ p∈wkW cr (bs.map λ g=>(g,0)),okN ds ns p.1)->(wkW cr (bs.map λ g=>(g,0))).length<=900000 ->
  ∃ h',cl i [.tup (bs.map G.d),bl,.loc nc,.loc nb] h=.ok 121 h'/\Kx [] h h'/\RestAt h' h.length bl (dnB cr f bs) (usB cr bs)
noncomputable def BT (cl:107)(i:Nat):Prop:=∀ (it:It) (h:Hh),cl i [it.d] h=.ok it.own h
theorem RestAt.keep {h h':Hh}{n nr:Nat}{bl:D}{x:Int}{us:List Pa}(r:RestAt h n bl x us)(k:Kx [nr] h h')(hn:nr<n):RestAt h' n bl x us:=by
 obtain ⟨nu,l,e1,e2⟩:=r.ex;exact ⟨nu,l,k.2 _ _ e1 175,k.2 _ _ e2 175⟩
abbrev Nr:=Ni×Nat
noncomputable def nrK (L:List Nr):List (Key×D):=L.map λ q=>(.inr q.1.1,.loc q.2)
noncomputable def RestsOk (h:Hh)(nr:Nat)(f cr:141)(L:List Nr):Prop:=∀ q∈L,nr<q.2/\RestAt h q.2 q.1.2.own (dnB cr f q.1.2.bods) (usB cr q.1.2.bods)
theorem Kx.more {h h':Hh}(ms:List Nat)(k:Kx [] h h'):Kx ms h h':=⟨k.1,λ i o e _=>k.2 i o e 111⟩
theorem ZQ (cl:107)(f cr:141)(ds ns:XQ)(bits:134)(R:Ue cl 15 f cr ds ns bits)(B:JK cl 2)(O:BT cl 3)(pr dd:D)(nb nc nr:Nat)(hbr:nb≠nr)(hcr:nc≠nr):∀ (l:List Ni) (L:List Nr) (q:Option D) (h:Hh),h[nb]?=some (.dK bits)->Cr h nc cr ns->h[nr]?=some (.dK (nrK L))->RestsOk h nr f cr L->(∀ p∈l,OkP ds ns cr p)->((L.map (·.1)++l).map (·.1)).Nodup->L.length+l.length<=900 ->
  ∃ h' L' q',zH [] (zO qO λ ρ' h'=>b_rests_of_1.run cl ρ' h') 135 [some pr,some dd,some (.loc nb),some (.loc nc),some (.loc nr),q] h=.nx [some pr,some dd,some (.loc nb),some (.loc nc),some (.loc nr),q'] h'/\Kx [nr] h h'/\L'.map (·.1)=L.map (·.1)++l/\h'[nr]?=some (.dK (nrK L'))/\RestsOk h' nr f cr L'
 | [],L,q,h,hb,hc,hr,ro,_,_,_=>⟨h,L,q,by rw [Y12,zH,if_pos zu],Kx.refl _ _,by rw [Y13],hr,ro⟩
 | p::l,L,q,h,hb,hc,hr,ro,ok,nd,hl=>by
  have o:=ok p Y05;rw [Y08] at hl;have lr:nr<h.length:=(Y01.mp hr).1;obtain ⟨h1,e1,k1,r1⟩:=R p.2.bods p.2.own nc nb h hb hc o.ok o.sz;have hn:∀ u∈nrK L,u.1≠.inr p.1:=λ u hu z=>by
   unfold nrK at hu;obtain ⟨y,hy,rfl⟩:=Y0c.mp hu;have z:y.1.1=p.1:=Sum.inr.inj z;rw [Y0q,Y09] at nd;exact (Y28.mp nd).2.2 y.1.1 (Y0c.mpr ⟨y.1,Y0c.mpr ⟨y,hy,rfl⟩,rfl⟩) p.1 Y05 z
  have hr1:=k1.2 _ _ hr 111;have st:zO qO (λ ρ' h'=>b_rests_of_1.run cl ρ' h') p.2.d [some pr,some dd,some (.loc nb),some (.loc nc),some (.loc nr),q] h=.nx [some pr,some dd,some (.loc nb),some (.loc nc),some (.loc nr),some p.2.d] (h1.set nr (.dK (nrK L++[(.inr p.1,.loc h.length)]))):=by
   have nmq:jC p.2.d (.int 1) h1=.ok (.str p.1) h1:=by
    have e:=o.nm;unfold okI at e;rw [<- e];cases p.2<;>rfl
   exact QM (bnd (bnd rfl (bnd rfl (B p.2 h (by have:=o.bl;omega)))) (bnd (bnd (bnd rfl (bnd rfl (O p.2 h))) (bnd (bnd rfl (bnd 112 rfl)) rfl)) e1)) rfl (bnd rfl (bnd rfl nmq)) (yR hr1 (by unfold nrK;rw [Y04];omega) hn) rfl
  have kk:Kx [nr] h (h1.set nr (.dK (nrK L++[(.inr p.1,.loc h.length)]))):=(k1.more [nr]).trans (Kx.set _ _ 111);have hr2:(h1.set nr (.dK (nrK L++[(.inr p.1,.loc h.length)])))[nr]?=some (.dK (nrK (L++[(p,h.length)]))):=by rw [wY hr1];unfold nrK;rw [Y0q];rfl
  have ro2:RestsOk (h1.set nr (.dK (nrK L++[(.inr p.1,.loc h.length)]))) nr f cr (L++[(p,h.length)]):=λ y hy=>by
   rcases Y0r.mp hy with hy | hy
   ·exact ⟨(ro y hy).1,(ro y hy).2.keep kk (ro y hy).1⟩
   ·cases Y0g.mp hy;exact ⟨lr,r1.keep (Kx.set _ _ 111) lr⟩
  obtain ⟨h2,L2,q2,e2,k2,m2,g2,x2⟩:=ZQ cl f cr ds ns bits R B O pr dd nb nc nr hbr hcr l (L++[(p,h.length)]) (some p.2.d) _ (kk.2 _ _ hb (by simpa using hbr)) (by obtain ⟨kv,g,v⟩:=hc;exact ⟨kv,kk.2 _ _ g (by simpa using hcr),v⟩) hr2 ro2 (λ y hy=>ok y (Y03 _ hy)) (by rw [Y0q (f:=λ q:Nr=>q.1),Y0k];exact nd) 175;refine ⟨h2,L2,q2,?_,kk.trans k2,by rw [m2,Y0q,Y0k];rfl,g2,x2⟩;rw [Y09,zH,if_pos zu,st];exact e2
noncomputable def Uf (cl:107)(i:Nat):Prop:=∀ (h:Hh) (nd:Nat) (ds:XQ),h[nd]?=some (.lst (txs ds))->ds.length<=1000->ds.Nodup->cl i [.loc nd] h=.ok 121 (h++[.dK (zA 0 ds)])
noncomputable def ZR (cl:107)(i:Nat)(f:141)(ds:XQ)(bits:134):Prop:=∀ (nb:Nat) (l:List Ni) (h:Hh),h[nb]?=some (.dK bits)->(∀ p∈l,okI p/\(∀ d∈p.2.heads,d∈ds)/\p.2.heads.length<=1000)->(l.map (·.1)).Nodup->l.length<=900 ->
  ∃ h',cl i [.tup 135,.loc nb] h=.ok 121 h'/\Kx [] h h'/\h'[h.length]?=some (.dK (crK f l))
theorem zC {cl:107}{ρ:En}{h h1 h2:Hh}{f:Nat}{a:E}{r:Es}{x:D}{xs:153}{o:Res D}{p p1:Pos}(ha:a.ev cl ρ h=.ok x h1)(hr:r.ev cl ρ h1=.ok xs h2)(hc:cl f (x::xs) h2=o):E.ev cl (.call f a r p p1) ρ h=o:=bnd ha (bnd hr hc)
theorem z36 (cl:107)(f cr:141)(ds ns:XQ)(Bi:Uf cl 5)(C:ZR cl 14 f ds (zA 0 ds))(R:Ue cl 15 f cr ds ns (zA 0 ds))(B:JK cl 2)(Ow:BT cl 3)(l:List Ni)(nd:Nat)(h:Hh)(hd:h[nd]?=some (.lst (txs ds)))(dl:ds.length<=1000)(dn:ds.Nodup)
  (hv:∀ x∈ns,zI (crK f l) (.inr x)=some (.int (cr x))) (ok:∀ p∈l,OkP ds ns cr p) (nn:(l.map (·.1)).Nodup) (hl:l.length<=900) :
  ∃ h' nr L,d_rests_of.run cl [.tup 135,.loc nd] h=.ok (.loc nr) h'/\Kx [] h h'/\h.length<=nr/\L.map (·.1)=l/\h'[nr]?=some (.dK (nrK L))/\RestsOk h' nr f cr L:=by
 have e1:=Bi h nd ds hd dl dn;have b1:(h++162)[h.length]?=some (.dK (zA 0 ds)):=zo _ _;obtain ⟨h2,e2,k2,g2⟩:=C h.length l (h++162) b1 (λ p hp=>⟨(ok p hp).nm,(ok p hp).hd,(ok p hp).hl⟩) nn hl;have ln:h.length+1<=h2.length:=by have:=k2.1;simp at this;exact this
 have lc:(h++162).length<h2.length:=(Y01.mp g2).1;have c3:Cr (h2++[.dK []]) (h++162).length cr ns:=⟨crK f l,zh g2,hv⟩;obtain ⟨h4,L,q4,e4,k4,m4,g4,x4⟩:=ZQ cl f cr ds ns (zA 0 ds) R B Ow (.tup 135) 138 h.length (h++162).length h2.length 109 109 l [] none (h2++[.dK []]) (zh (k2.2 _ _ b1 111)) c3 (zo _ _) (λ q hq=>absurd hq 111) ok nn (by simpa using hl);refine ⟨h4,h2.length,L,?_,⟨by have:=k4.1;simp at this;omega,λ i o ei _=>?_⟩,by omega,m4,g4,x4⟩
 ·exact zg (zd (zC rfl rfl e1) (zd (zC rfl 119 e2) (zd rfl (jp (q:=([],l.map λ p:Ni=>p.2.d)) 174 e4 (zj rfl)))))
 ·have li:=(Y01.mp ei).1;exact k4.2 i o (zh (k2.2 i o (zh ei) 111)) 175
noncomputable def pr2 (p:Int×Int):D:=.tup [.int p.1,.int p.2]
structure RowsAt (h:Hh)(n:Nat)(rw:XX)(ns:XQ):Prop where
 ex:∃ kvs,(h[n]?=some 192\/h[n]?=some (.fK kvs))/\∀ x∈ns,zI kvs (.inr x)=some (pr2 (rw x))
theorem RowsAt.sub {h:Hh}{n:Nat}{rw:XX}{ns:XQ}{x:Str}(r:RowsAt h n rw ns)(hx:x∈ns):jC 146 (.str x) h=.ok (pr2 (rw x)) h:=by
 obtain ⟨kvs,g,v⟩:=r.ex;have v:=v x hx;rcases g with g | g<;>simp [jC,g,jD,v]
noncomputable def j9 (rw:XX)(ev:Int)(ob:XY):Kd->Int×Int
 | .handle x=>((rw x).1,0)
 | .call g o=>if ob=some g then (0,ev) else match o with
  | none=>((rw g).1,0)
  | some b=>if ob=some b then rw g else (Builtin.bitOr (rw g).1 (Builtin.bitAnd (rw g).2 (rw b).1),0)
 | _=>(0,0)
noncomputable def okO (o:XY):Prop:=∀ x,o=some x->PyData.strOk x=true
noncomputable def okU (ns:XQ)(ob:XY):Kd->Prop
 | .handle x=>x∈ns
 | .call g o=>PyData.strOk g=true/\okO o/\(ob≠some g->g∈ns/\∀ b,o=some b->ob≠some b->b∈ns)
 | _=>False
theorem BU {h:Hh}{g:Str}{ob:XY}(hg:PyData.strOk g=true)(ho:okO ob):jx .Eq (.str g) (jq ob) h=.ok (.bl (decide (ob=some g))) h:=by
 cases ob with
 | none=>exact if_pos ⟨hg,rfl,Y1h _⟩
 | some b =>
  refine (eqS hg (ho b rfl)).trans ?_;by_cases c:g=b
  ·subst c;simp
  ·have c':¬ b=g:=λ z=>c z.symm;simp [c,c']
theorem z6w (x:Str)(ps:153)(h:Hh):jC ((Kd.handle x).enc ps) (.int 1) h=.ok (.str x) h:=by
 simp [Kd.enc,jC,atI,ixN];rw [if_pos 109];rfl
noncomputable def ZS (cl:107)(i:Nat):Prop:=∀ (a b r:Int) (h:Hh),cl i [.tup [.int a,.int b],.int r] h=.ok (.int (Builtin.bitOr a (Builtin.bitAnd b r))) h
theorem z9h (cl:107)(F:ZS cl 10)(rw':XX)(ev:Int)(ob:XY)(ns:XQ)(k:Kd)(ps:List G)(n:Nat)(h:Hh)(r:RowsAt h n rw' ns)(hb:okO ob)(ok:okU ns ob k) :
  d_use_row.run cl [(G.nd k ps).d,jq ob,.loc n,.int ev] h=.ok (pr2 (j9 rw' ev ob k)) h:=by
 have e0:=JJ k (G.ds ps) h;have e1:=eqS (h:=h) (Zy k) BM;rw [Vz] at e1;rw [G.d];cases k with
 | handle x =>
  have v:=r.sub (show x∈ns from ok);exact zg (ja (zi 191 rfl e1) (zj (zX (cns (bnd (bnd rfl (bnd (bnd rfl (bnd rfl (z6w x _ h))) v)) 174) 119) (show 2<=1000 by decide))))
 | call g o =>
  obtain ⟨o1,o2,o3⟩:=ok;have c1:=BU (h:=h) o1 hb;refine zg (zx (zi 191 rfl e1) (zd 112 (zd 112 ?_)));by_cases q:ob=some g
  ·rw [show j9 rw' ev ob (.call g o)=(0,ev) from if_pos q];rw [decide_eq_true q] at c1;exact ja (zi rfl rfl c1) (zj (zX 139 (show 2<=1000 by decide)))
  ·rw [decide_eq_false q] at c1;obtain ⟨o4,o5⟩:=o3 q;have v:=r.sub o4;refine zx (zi rfl rfl c1) ?_;cases o with
   | none =>
    rw [show j9 rw' ev ob (.call g none)=((rw' g).1,0) from if_neg q];exact ja 132 (zj (zX (cns (bnd (bnd rfl (bnd rfl v)) 174) 119) (show 2<=1000 by decide)))
   | some b =>
    have c2:=BU (h:=h) (o2 b rfl) hb;refine zx 132 ?_;by_cases q2:ob=some b
    ·rw [show j9 rw' ev ob (.call g (some b))=rw' g from (if_neg q).trans (if_pos q2)];rw [decide_eq_true q2] at c2;exact ja (zi rfl rfl c2) (zj (bnd rfl (bnd rfl v)))
    ·rw [show j9 rw' ev ob (.call g (some b))=(Builtin.bitOr (rw' g).1 (Builtin.bitAnd (rw' g).2 (rw' b).1),0) from (if_neg q).trans (if_neg q2)];rw [decide_eq_false q2] at c2;have v2:=r.sub (o5 b rfl q2);exact zx (zi rfl rfl c2) (zj (zX (cns (zC (bnd rfl (bnd rfl v)) (cns (bnd (bnd rfl (bnd rfl v2)) 174) rfl) (F _ _ _ h)) 119) (show 2<=1000 by decide)))
 | _=>exact ok.elim
noncomputable def opP (x y:Int):Int×Int:=(x,lsI y x)
noncomputable def woP (p:Int×Int)(r:Int):Int×Int:=opP (lsI p.1 r) (lsI p.2 r)
noncomputable def jnP (p q:Int×Int):Int×Int:=opP (Builtin.bitOr p.1 q.1) (Builtin.bitOr p.2 q.2)
noncomputable def kdG:G->Kd
 | .nd k _=>k
noncomputable def qC (rw:XX)(ev:Int)(ob:XY)(acc:Int×Int)(p:Pa):Int×Int:=jnP acc (woP (j9 rw ev ob (kdG p.1)) p.2)
noncomputable def GZ (rw:XX)(ev:Int)(ob:XY)(x:Int)(us:List Pa):Int×Int:=us.foldl (qC rw ev ob) (x,0)
noncomputable def VE (cl:107)(i:Nat):Prop:=∀ (rw:XX) (ev:Int) (ob:XY) (ns:XQ) (k:Kd) (ps:List G) (n:Nat) (h:Hh),RowsAt h n rw ns->okO ob->okU ns ob k->cl i [(G.nd k ps).d,jq ob,.loc n,.int ev] h=.ok (pr2 (j9 rw ev ob k)) h
noncomputable def WL (cl:107)(i:Nat):Prop:=∀ (p q:Int×Int) (h:Hh),cl i [pr2 p,pr2 q] h=.ok (pr2 (jnP p q)) h
noncomputable def z37 (cl:107)(i:Nat):Prop:=∀ (p:Int×Int) (r:Int) (h:Hh),cl i [pr2 p,.int r] h=.ok (pr2 (woP p r)) h
theorem O0 {h:Hh}{no nu:Nat}{bl:D}{x:Int}(e:h[no]?=some (ob bl x nu)):J6 (.loc no) "block" h=.ok bl h:=by unfold J6;dsimp only;rw [e];rfl
theorem BV (cl:107)(U:VE cl 23)(J:WL cl 11)(Wo:z37 cl 12)(rw:XX)(ev:Int)(o:XY)(ns:XQ)(no nu n:Nat)(x:Int)(h:Hh)(e:h[no]?=some (ob (jq o) x nu))(r:RowsAt h n rw ns)(ho:okO o)(acc:Int×Int)(p:Pa)(ok:okU ns o (kdG p.1))(t a:Option D) :
  zO wU (λ ρ' h'=>b_bodies_row_1.run cl ρ' h') (pD p) [some (.loc no),some 146,some (.int ev),some (pr2 acc),t,a] h=.nx [some (.loc no),some 146,some (.int ev),some (pr2 (qC rw ev o acc p)),some p.1.d,some (.int p.2)] h:=by
 obtain ⟨⟨k,ps⟩,b⟩:=p;have u:=U rw ev o ns k ps n h r ho ok;exact zd (zC rfl (cns (zC (zC rfl (cns (bnd rfl (O0 e)) 139) u) 119 (Wo _ _ h)) rfl) (J _ _ h)) rfl
theorem Y0 (cl:107)(U:VE cl 23)(J:WL cl 11)(Wo:z37 cl 12)(rw:XX)(ev:Int)(o:XY)(ns:XQ)(no nu n:Nat)(x:Int)(h:Hh)(e:h[no]?=some (ob (jq o) x nu))(r:RowsAt h n rw ns)(ho:okO o)(all:153)(hu:rd h nu=some all):∀ (us:List Pa) (acc:Int×Int) (t a:Option D),(∀ p∈us,okU ns o (kdG p.1)) ->
  ∃ t' a',zH [(nu,all)] (zO wU λ ρ' h'=>b_bodies_row_1.run cl ρ' h') (us.map pD) [some (.loc no),some 146,some (.int ev),some (pr2 acc),t,a] h=.nx [some (.loc no),some 146,some (.int ev),some (pr2 (us.foldl (qC rw ev o) acc)),t',a'] h
 | [],acc,t,a,_=>⟨t,a,by rw [Y12,zH,if_pos (stay1.mpr hu)];rfl⟩
 | p::us,acc,t,a,ok=>by
  obtain ⟨t',a',ih⟩:=Y0 cl U J Wo rw ev o ns no nu n x h e r ho all hu us (qC rw ev o acc p) (some p.1.d) (some (.int p.2)) λ q hq=>ok q (Y03 _ hq);refine ⟨t',a',?_⟩;rw [Y09,zH,if_pos (stay1.mpr hu),BV cl U J Wo rw ev o ns no nu n x h e r ho acc p (ok p Y05) t a];exact ih
theorem BW (cl:107)(U:VE cl 23)(J:WL cl 11)(Wo:z37 cl 12)(rw:XX)(ev:Int)(o:XY)(ns:XQ)(no n:Nat)(x:Int)(us:List Pa)(h:Hh)(ra:RestAt h no (jq o) x us)(r:RowsAt h n rw ns)(ho:okO o)(ok:∀ p∈us,okU ns o (kdG p.1)) :
  d_bodies_row.run cl [.loc no,.loc n,.int ev] h=.ok (pr2 (GZ rw ev o x us)) h:=by
 obtain ⟨nu,_,e,eu⟩:=ra.ex;obtain ⟨t',a',lp⟩:=Y0 cl U J Wo rw ev o ns no nu n x h e r ho _ (zS eu) us (x,0) none none ok;exact zg (zd (d:=pr2 (x,0)) (zX (cns (bnd rfl (QX e)) 119) (show 2<=1000 by decide)) (jp (q:=([(nu,us.map pD)],us.map pD)) (wX (bnd rfl (QY e)) eu) lp (zj rfl)))
noncomputable def It.ownS (it:It):Option Str:=match it.own with
 | .str x=>some x
 | _=>none
noncomputable def WM (f cr:141)(rw:XX)(ev:Int)(it:It):Int×Int:=GZ rw ev it.ownS (dnB cr f it.bods) (usB cr it.bods)
noncomputable def qj (f cr:141)(rw:XX)(ev:Int)(l:List Ni):List (Key×D):=l.map λ p=>(.inr p.1,pr2 (WM f cr rw ev p.2))
structure OkA (ns:XQ)(cr:141)(p:Ni):Prop where
 own:p.2.own=jq p.2.ownS
 oo:okO p.2.ownS
 us:∀ q∈usB cr p.2.bods,okU ns p.2.ownS (kdG q.1)
theorem RestAt.app {h J:Hh}{n:Nat}{bl:D}{x:Int}{us:List Pa}(r:RestAt h n bl x us):RestAt (h++J) n bl x us:=by
 obtain ⟨nu,l,e1,e2⟩:=r.ex;exact ⟨nu,l,zh e1,zh e2⟩
theorem RowsAt.app {h J:Hh}{n:Nat}{rw:XX}{ns:XQ}(r:RowsAt h n rw ns):RowsAt (h++J) n rw ns:=by
 obtain ⟨kvs,g,v⟩:=r.ex;exact ⟨kvs,g.imp zh zh,v⟩
theorem VF:∀ {L:List Nr}{q:Nr},q∈L->((L.map (·.1)).map (·.1)).Nodup->zI (nrK L) (.inr q.1.1)=some (.loc q.2)
 | y::L,q,hq,nd=>by
  rw [Y09,Y09,Y15] at nd;unfold nrK;rw [Y09];rcases Y06.mp hq with rfl | hq
  ·simp [zI]
  ·have ne:¬ y.1.1=q.1.1:=λ z=>nd.1 (z▸Y0c.mpr ⟨q.1,Y0c.mpr ⟨q,hq,rfl⟩,rfl⟩);have ih:=VF hq nd.2;unfold nrK at ih;simp [zI,ne] at ih ⊢;exact ih
noncomputable def Ug (cl:107)(i:Nat):Prop:=∀ (rw:XX) (ev:Int) (o:XY) (ns:XQ) (no n:Nat) (x:Int) (us:List Pa) (h:Hh),RestAt h no (jq o) x us->RowsAt h n rw ns->okO o->(∀ p∈us,okU ns o (kdG p.1))->cl i [.loc no,.loc n,.int ev] h=.ok (pr2 (GZ rw ev o x us)) h
theorem Y1 (cl:107)(Br:Ug cl 21)(f cr:141)(rw:XX)(ev:Int)(ns:XQ)(nr n:Nat)(h:Hh)(L0:List Nr)(hr:h[nr]?=some (.fK (nrK L0)))(ro:RestsOk h nr f cr L0)(ra:RowsAt h n rw ns)(nd:((L0.map (·.1)).map (·.1)).Nodup)(ok:∀ q∈L0,OkA ns cr q.1)(hl:L0.length<=900):∀ (L dn:List Nr) (t:Option D),L0=dn++L ->
  ∃ t',zH [] (zO wT λ ρ' h'=>b_asked_rows_1.run cl ρ' h') (L.map λ q=>.str q.1.1) [some (.loc nr),some 146,some (.int ev),some 121,t] (h++[.dK (qj f cr rw ev (dn.map (·.1)))])=.nx [some (.loc nr),some 146,some (.int ev),some 121,t'] (h++[.dK (qj f cr rw ev (L0.map (·.1)))])
 | [],dn,t,e=>⟨t,by rw [Y12,zH,if_pos zu,e,Y13]⟩
 | q::L,dn,t,e=>by
  have hq:q∈L0:=by rw [e];exact Y0o _ Y05
  obtain ⟨t',ih⟩:=Y1 cl Br f cr rw ev ns nr n h L0 hr ro ra nd ok hl L (dn++[q]) (some (.str q.1.1)) (by rw [e,Y0k];rfl);refine ⟨t',?_⟩;have o:=ok q hq;have r1:=(ro q hq).2;rw [o.own] at r1;have v:jC (.loc nr) (.str q.1.1) (h++[.dK (qj f cr rw ev (dn.map (·.1)))])=.ok (.loc q.2) (h++[.dK (qj f cr rw ev (dn.map (·.1)))]):=by
   simp [jC,zh hr,jD,VF hq nd]
  have b:=Br rw ev q.1.2.ownS ns q.2 n _ _ (h++[.dK (qj f cr rw ev (dn.map (·.1)))]) r1.app ra.app o.oo o.us;have hn:∀ u∈qj f cr rw ev (dn.map (·.1)),u.1≠.inr q.1.1:=λ u hu z=>by
   unfold qj at hu;obtain ⟨y,hy,rfl⟩:=Y0c.mp hu;have z:y.1=q.1.1:=Sum.inr.inj z;rw [e,Y0q,Y0q,Y09,Y09] at nd;exact (Y28.mp nd).2.2 y.1 (Y0c.mpr ⟨y,hy,rfl⟩) q.1.1 Y05 z
  have ll:(qj f cr rw ev (dn.map (·.1))).length<1000000:=by
   unfold qj;rw [Y04,Y04];rw [e,Y0e] at hl;omega
  have st:zO wT (λ ρ' h'=>b_asked_rows_1.run cl ρ' h') (.str q.1.1) [some (.loc nr),some 146,some (.int ev),some 121,t] (h++[.dK (qj f cr rw ev (dn.map (·.1)))])=.nx [some (.loc nr),some 146,some (.int ev),some 121,some (.str q.1.1)] (h++[.dK (qj f cr rw ev ((dn++[q]).map (·.1)))]):=by
   refine QM (zC (bnd rfl (bnd rfl v)) 139 b) rfl rfl (yR (zo _ _) ll hn) ?_;rw [yP,Y0q];unfold qj;rw [Y0q];rfl
  rw [Y09,zH,if_pos zu,st];exact ih
theorem z6x {cl:107}{ρ:En}{h h1:Hh}{e:E}{n:Nat}{kvs:134}(he:e.ev cl ρ h=.ok 146 h1)(g:h1[n]?=some (.fK kvs)):(I.keys e).ev cl ρ h=.ok ([],kvs.map λ p=>dK1 p.1) h1:=by
 rw [z4e,he];show Zp 146 h1=_;unfold Zp;dsimp only;rw [g]
theorem BX {cl:107}{ρ:En}{h h1:Hh}{e:E}{n:Nat}{kvs:134}(he:e.ev cl ρ h=.ok 146 h1)(g:h1[n]?=some 192):(I.keys e).ev cl ρ h=.ok ([],kvs.map λ p=>dK1 p.1) (h1.set n (.fK kvs)):=by
 rw [z4e,he];show Zp 146 h1=_;unfold Zp;dsimp only;rw [g]
theorem z38 (cl:107)(Br:Ug cl 21)(f cr:141)(rw:XX)(ev:Int)(ns:XQ)(nr n:Nat)(h:Hh)(L:List Nr)(hr:h[nr]?=some (.fK (nrK L)))(ro:RestsOk h nr f cr L)(ra:RowsAt h n rw ns)(nd:((L.map (·.1)).map (·.1)).Nodup)(ok:∀ q∈L,OkA ns cr q.1)(hl:L.length<=900) :
  d_asked_rows.run cl [.loc nr,.loc n,.int ev] h=.ok 121 (h++[.dK (qj f cr rw ev (L.map (·.1)))]):=by
 obtain ⟨t',lp⟩:=Y1 cl Br f cr rw ev ns nr n h L hr ro ra nd ok hl L [] none rfl;have ek:(nrK L).map (λ p=>dK1 p.1)=L.map λ q=>.str q.1.1:=by unfold nrK;rw [Y10];rfl
 exact zg (zd rfl (jp (q:=([],L.map λ q:Nr=>D.str q.1.1)) ((z6x rfl (zh hr)).trans (by rw [ek];rfl)) lp (zj rfl)))
noncomputable def j0 (ns:XQ)(r:XX):List (Key×D):=ns.map λ x=>(.inr x,pr2 (r x))
theorem yS {r:XX}{x:Str}:∀ {ns:XQ},x∈ns->zI (j0 ns r) (.inr x)=some (pr2 (r x))
 | y::ns,hx=>by
  unfold j0;rw [Y09];by_cases c:y=x
  ·subst c;simp [zI]
  ·have ih:=yS (r:=r) ((Y06.mp hx).resolve_left λ z=>c z.symm);unfold j0 at ih;simp [zI,c] at ih ⊢;exact ih
theorem BY (h:Hh)(p:Int×Int):D.pe h (pr2 p)=some (.tuple [.int p.1,.int p.2]):=rfl
theorem JO (h:Hh)(r1 r2:XX)(all:XQ):∀ {ns:XQ},(∀ x∈ns,x∈all)->qH h (j0 all r2) (j0 ns r1)=some (ns.all λ x=>decide (r1 x=r2 x))
 | [],_=>rfl
 | x::ns,hs=>by
  have ih:=JO h r1 r2 all λ y hy=>hs y (Y03 _ hy);have v:=yS (r:=r2) (hs x Y05);show qH h (j0 all r2) ((.inr x,pr2 (r1 x))::j0 ns r1)=_;rw [qH,v];dsimp only;rw [BY,BY,ih];have e:PyData.eqv (.tuple [.int (r1 x).1,.int (r1 x).2]) (.tuple [.int (r2 x).1,.int (r2 x).2])=decide (r1 x=r2 x):=by
   simp [PyData.eqv,PyData.eqvAll,Prod.ext_iff];rfl
  show (if _ then some (_&&_) else none)=_;rw [if_pos (by rfl),e];rfl
theorem z6y {h:Hh}{n m:Nat}{ns:XQ}{r1 r2:XX}(ha:J5 h n=some (j0 ns r1))(hb:J5 h m=some (j0 ns r2)):YX true 146 (.loc m) h=.ok (.bl (!ns.all λ x=>decide (r1 x=r2 x))) h:=by
 unfold YX;dsimp only;rw [ha,hb];dsimp only;rw [if_pos (by unfold j0;simp),JO h r1 r2 ns λ x hx=>hx];rfl
theorem Qn {h:Hh}{n:Nat}{kvs:134}(g:h[n]?=some 192):J5 h n=some kvs:=by unfold J5;rw [g]
theorem RowsAt.tab {h:Hh}{n:Nat}{ns:XQ}{r:XX}(g:h[n]?=some (.dK (j0 ns r))):RowsAt h n r ns:=⟨_,.inl g,λ _ hx=>yS hx⟩
noncomputable def yz (f cr:141)(ev:Int)(l:List Ni)(r:XX)(x:Str):Int×Int:=match l.find? λ p=>decide (p.1=x) with
 | some p=>WM f cr r ev p.2
 | none=>(0,0)
noncomputable def rwN (f cr:141)(ev:Int)(l:List Ni):Nat->Str->Int×Int
 | 0=>λ _=>(0,0)
 | n+1=>yz f cr ev l (rwN f cr ev l n)
theorem yT:∀ {l:List Ni}{p:Ni},p∈l->(l.map (·.1)).Nodup->(l.find? λ q=>decide (q.1=p.1))=some p
 | y::l,p,hp,nd=>by
  rw [Y09,Y15] at nd;rcases Y06.mp hp with rfl | hp
  ·simp
  ·have ne:¬ y.1=p.1:=λ z=>nd.1 (z▸Y0c.mpr ⟨p,hp,rfl⟩);rw [Y1c (by simpa using ne)];exact yT hp nd.2
theorem VG (f cr:141)(ev:Int)(l:List Ni)(nd:(l.map (·.1)).Nodup)(r:XX):qj f cr r ev l=j0 194 (yz f cr ev l r):=by
 unfold qj j0;rw [Y10];refine List.map_congr_left λ p hp=>?_;show _=(Sum.inr p.1,pr2 (yz f cr ev l r p.1));unfold yz;rw [yT hp nd]
noncomputable def WN (cl:107)(i:Nat)(f cr:141)(ev:Int)(ns:XQ)(nr:Nat)(L:List Nr):Prop:=∀ (h:Hh) (r:XX) (n:Nat),h[nr]?=some (.fK (nrK L))->RestsOk h nr f cr L->RowsAt h n r ns->cl i [.loc nr,.loc n,.int ev] h=.ok 121 (h++[.dK (qj f cr r ev (L.map (·.1)))])
noncomputable def Fix (f cr:141)(ev:Int)(l:List Ni)(m:Nat):Prop:=∀ x∈l.map (·.1),rwN f cr ev l (m+1) x=rwN f cr ev l m x
theorem RestsOk.app {h J:Hh}{nr:Nat}{f cr:141}{L:List Nr}(r:RestsOk h nr f cr L):RestsOk (h++J) nr f cr L:=λ q hq=>⟨(r q hq).1,(r q hq).2.app⟩
theorem Uh (cl:107)(f cr:141)(ev:Int)(nr:Nat)(L:List Nr)(l:List Ni)(el:L.map (·.1)=l)(nd:(l.map (·.1)).Nodup)(A:WN cl 20 f cr ev 194 nr L)(pr dd:D)(lo:Nat):∀ (k n:Nat) (h:Hh) (a b:Nat),lo<=a/\lo<=b/\lo<=h.length->(∃ m,n<=m/\m<=n+k/\Fix f cr ev l m)->h[nr]?=some (.fK (nrK L))->RestsOk h nr f cr L->h[a]?=some (.dK (j0 194 (rwN f cr ev l n)))->h[b]?=some (.dK (j0 194 (rwN f cr ev l (n+1)))) ->
  ∃ J a' b' m,whR (λ ρ h=>w_found_rows_1.evT cl ρ h) (λ ρ h=>b_found_rows_1.run cl ρ h) [some pr,some dd,some (.loc nr),some (.int ev),some (.loc a),some (.loc b)] h=.nx [some pr,some dd,some (.loc nr),some (.int ev),some (.loc a'),some (.loc b')] (h++J)/\(h++J)[a']?=some (.dK 133)/\Fix f cr ev l m/\lo<=a':=by
 intro k;have tst:∀ (n:Nat) (h:Hh) (a b:Nat),h[a]?=some (.dK (j0 194 (rwN f cr ev l n)))->h[b]?=some (.dK (j0 194 (rwN f cr ev l (n+1))))->∀ t,((l.map (·.1)).all λ x=>decide (rwN f cr ev l (n+1) x=rwN f cr ev l n x))=t->w_found_rows_1.evT cl [some pr,some dd,some (.loc nr),some (.int ev),some (.loc a),some (.loc b)] h=.ok (!t) h:=λ n h a b ga gb t ht=>by
  have q:=z6y (Qn gb) (Qn ga);rw [ht] at q;exact bnd (bnd rfl (bnd rfl q)) rfl
 have fin:∀ (n:Nat) (h:Hh) (a b:Nat),lo<=a->Fix f cr ev l n->h[a]?=some (.dK (j0 194 (rwN f cr ev l n)))->h[b]?=some (.dK (j0 194 (rwN f cr ev l (n+1)))) ->
  ∃ J a' b' m,whR (λ ρ h=>w_found_rows_1.evT cl ρ h) (λ ρ h=>b_found_rows_1.run cl ρ h) [some pr,some dd,some (.loc nr),some (.int ev),some (.loc a),some (.loc b)] h=.nx [some pr,some dd,some (.loc nr),some (.int ev),some (.loc a'),some (.loc b')] (h++J)/\(h++J)[a']?=some (.dK 133)/\Fix f cr ev l m/\lo<=a':=λ n h a b la fx ga gb =>
  ⟨[],a,b,n,by rw [Y13];exact qI (tst n h a b ga gb true (Y1e.mpr λ x hx=>decide_eq_true (fx x hx))),by rw [Y13];exact ga,fx,la⟩
 induction k with
 | zero =>
  intro n h a b lo3 ⟨m,m1,m2,fx⟩ hr ro ga gb;have e:m=n:=by omega
  subst e;exact fin m h a b lo3.1 fx ga gb
 | succ k ih =>
  intro n h a b lo3 ⟨m,m1,m2,fx⟩ hr ro ga gb;by_cases c:Fix f cr ev l n
  ·exact fin n h a b lo3.1 c ga gb
  ·have mn:m≠n:=λ z=>c (z▸fx);have ne:((l.map (·.1)).all λ x=>decide (rwN f cr ev l (n+1) x=rwN f cr ev l n x))=false:=by
    rw [Bool.eq_false_iff];intro z;exact c λ x hx=>of_decide_eq_true (Y1e.mp z x hx)
   have e1:=A h (rwN f cr ev l (n+1)) b hr ro (RowsAt.tab gb);rw [el,VG f cr ev l nd] at e1;obtain ⟨J,a',b',m',e2,g2,fx2,la2⟩:=ih (n+1) (h++[.dK (j0 194 (rwN f cr ev l (n+2)))]) b h.length ⟨lo3.2.1,lo3.2.2,by rw [Y0e];omega⟩ ⟨m,by omega,by omega,fx⟩ (zh hr) ro.app (zh gb) (zo _ _);refine ⟨[.dK (j0 194 (rwN f cr ev l (n+2)))]++J,a',b',m',?_,by rw [<- Y0k];exact g2,fx2,la2⟩;rw [<- Y0k,<- e2];refine Zn (tst n h a b ga gb false ne) ?_;exact zd rfl (zd (zC rfl 139 e1) rfl)
theorem JP:∀ (more acc:134),(more.map (·.1)).Nodup->(∀ u∈more,∀ v∈acc,v.1≠u.1)->yg acc more=acc++more
 | [],acc,_,_=>(Y13 _).symm
 | u::r,acc,nd,dj=>by
  rw [Y09,Y15] at nd;show yg (Zk acc u.1 u.2) r=_;rw [WH (λ p hp=>dj u Y05 p hp),JP r _ nd.2,Y0k]
  ·rfl
  ·intro y hy v hv;rcases Y0r.mp hv with z | z
   ·exact dj y (Y03 _ hy) v z
   ·rw [Y0g.mp z];exact λ q=>nd.1 (q▸Y0c.mpr ⟨y,hy,rfl⟩)
theorem O1 {ns:XQ}(nd:ns.Nodup)(r:XX):yg [] (j0 ns r)=j0 ns r:=by
 rw [JP _ _ _ (λ _ _ v hv=>absurd hv 111),Y0s];unfold j0;rw [Y10];exact nd.map (f:=λ x:Str=>(Sum.inr x:Key)) (λ a b z q=>z (Sum.inr.inj q))
theorem JQ (r:XX):∀ ns:List Str,wv (ns.map λ x=>D.tup [.str x,pr2 (r x)])=some (j0 ns r)
 | []=>rfl
 | x::ns=>by rw [Y09,wv,JQ r ns];rfl
theorem z9i {cl:107}{ρ:En}{h h1:Hh}{e:E}{n:Nat}{ns:XQ}{r:XX}{p p1:Pos}(he:e.ev cl ρ h=.ok 146 h1)(g:h1[n]?=some (.lst (ns.map λ x=>D.tup [.str x,pr2 (r x)])))(nd:ns.Nodup)(hl:ns.length<=1000000):E.ev cl (.dicP e p p1) ρ h=.ok (.loc h1.length) (h1++[.dK (j0 ns r)]):=by
 refine bnd he ?_;show QC 146 h1=_;unfold QC;dsimp only;rw [zS g];dsimp only;rw [if_pos (by rw [Y04];exact hl),JQ];show new (O.dK (yg [] (j0 ns r))) h1=_;rw [O1 nd];rfl
theorem z39 (cl:107)(f cr:141)(ev:Int)(ds:XQ)(l:List Ni)(nn:(l.map (·.1)).Nodup)(hl:l.length<=900)
  (Rs:∀ (h:Hh) (nd:Nat),h[nd]?=some (.lst (txs ds))->∃ h' nr L,cl 13 [.tup 135,.loc nd] h=.ok (.loc nr) h'/\Kx [] h h'/\h.length<=nr/\L.map (·.1)=l/\h'[nr]?=some (.dK (nrK L))/\RestsOk h' nr f cr L)
  (Rb:∀ (h:Hh) (nd:Nat),h[nd]?=some (.lst (txs ds))->cl 6 [.loc nd,.loc nd] h=.ok (.int ev) (h++[.dK (zA 0 ds)]))
  (A:∀ (nr:Nat) (L:List Nr),L.map (·.1)=l->WN cl 20 f cr ev 194 nr L) (fx:∃ m,m<=900/\Fix f cr ev l m) (nd:Nat) (h:Hh) (hd:h[nd]?=some (.lst (txs ds))) :
  ∃ h' a m,d_found_rows.run cl [.tup 135,.loc nd] h=.ok (.loc a) h'/\Kx [] h h'/\h'[a]?=some (.dK 133)/\Fix f cr ev l m/\h.length<=a:=by
 obtain ⟨h1,nr,L,e1,k1,ln,el,g1,r1⟩:=Rs h nd hd;have e2:=Rb h1 nd (k1.2 _ _ hd 111);have g2:(h1++162)[nr]?=some (.dK (nrK L)):=zh g1;have r2:RestsOk (h1++162) nr f cr L:=r1.app;have k2:Kx [] h (h1++162):=k1.trans (Kx.app _ _);generalize hh2:h1++162=h2 at e2 g2 r2 k2;have g3:(h2.set nr (.fK (nrK L)))[nr]?=some (.fK (nrK L)):=wY g2;have r3:RestsOk (h2.set nr (.fK (nrK L))) nr f cr L:=λ q hq=>⟨(r2 q hq).1,(r2 q hq).2.keep (Kx.set _ _ 111) (r2 q hq).1⟩;have k3:Kx [] h (h2.set nr (.fK (nrK L))):=⟨by rw [Y1w];exact k2.1,λ i o ei _=>by
  have li:=(Y01.mp ei).1;exact j5 (k2.2 i o ei 111) 109⟩
 have kd:=λ (ρ:En) (e:E) (he:e.ev cl ρ h2=.ok (.loc nr) h2)=>BX he g2;generalize hh3:h2.set nr (.fK (nrK L))=h3 at g3 r3 k3 kd;have ek:(nrK L).map (λ p=>dK1 p.1)=(l.map (·.1)).map D.str:=by unfold nrK;rw [<- el,Y10,Y10,Y10];rfl
 have key:=zW (λ x:Str=>D.str x) (c:=[]) (f:=j4 ZH (jE [none] [some (.tup 135),some 138,some (.loc nr),some (.int ev),none,none]) (λ ρ' h2=>c_found_rows_2.evC cl ρ' h2) (λ ρ' h2=>e_found_rows_2.ev cl ρ' h2)) (h:=h3) zu (λ x=>some (.tup [.str x,pr2 (rwN f cr ev l 0 x)])) 194 [] (λ x _=>rfl);rw [jX,Y0s] at key;have e4:=A nr L el (h3++[O.lst ((l.map (·.1)).map λ x=>D.tup [.str x,pr2 (rwN f cr ev l 0 x)])]++[.dK (j0 194 (rwN f cr ev l 0))]) (rwN f cr ev l 0) _ (zh (zh g3)) r3.app.app (RowsAt.tab (zo _ _));rw [el,VG f cr ev l nn] at e4;obtain ⟨m,m1,fx⟩:=fx;have k3l:=k3.1;obtain ⟨J,a',b',m',e5,g5,fx5,la5⟩:=Uh cl f cr ev nr L l el nn (A nr L el) (.tup 135) 138 h.length 900 0 _ _ _ ⟨by simp;omega,by simp;omega,by simp;omega⟩ ⟨m,Y1h _,by omega,fx⟩ (zh (J:=[O.dK (j0 194 (rwN f cr ev l 1))]) (zh (zh g3))) r3.app.app.app (zh (zo (h3++[O.lst ((l.map (·.1)).map λ x=>D.tup [.str x,pr2 (rwN f cr ev l 0 x)])]) _)) (zo _ _);refine ⟨_,a',m',?_,k3.trans ((Kx.app _ _).trans ((Kx.app _ _).trans ((Kx.app _ _).trans (Kx.app _ J)))),g5,fx5,la5⟩;exact zg (zd (zC rfl 119 e1) (zd (zC rfl 119 e2) (zd (z9i (zT (q:=([],(l.map λ p:Ni=>p.1).map D.str)) ((kd _ _ rfl).trans (by rw [ek])) (by rw [Y04,Y04];omega) key) (zo _ _) nn (by rw [Y04];omega)) (zd (zC rfl 139 e4) (BQ e5 (zj rfl))))))
section
variable {f cr:141}{ev:Int}{l:List Ni}{rank:Str->Nat}
noncomputable def Dep (f cr:141)(ev:Int)(l:List Ni)(rank:Str->Nat):Prop:=∀ p∈l,∀ r r':Str->Int×Int,(∀ x∈l.map (·.1),rank x<rank p.1->r x=r' x)->WM f cr r ev p.2=WM f cr r' ev p.2
theorem WO (nn:(l.map (·.1)).Nodup)(r:XX){p:Ni}(hp:p∈l):yz f cr ev l r p.1=WM f cr r ev p.2:=by
 unfold yz;rw [yT hp nn]
theorem Y2 (nn:(l.map (·.1)).Nodup)(d:Dep f cr ev l rank):∀ (n:Nat),∀ x∈l.map (·.1),rank x<n->rwN f cr ev l (n+1) x=rwN f cr ev l n x
 | 0,_,_,h=>absurd h (Nat.not_lt_zero _)
 | n+1,x,hx,h=>by
  obtain ⟨p,hp,rfl⟩:=Y0c.mp hx;show yz f cr ev l (rwN f cr ev l (n+1)) p.1=yz f cr ev l (rwN f cr ev l n) p.1;rw [WO nn _ hp,WO nn _ hp];exact d p hp _ _ λ y hy hl=>Y2 nn d n y hy 109
end
theorem WP {cl:107}{ρ:En}{h h1:Hh}{o v:E}{fl c:Str}{p1 p:Pos}{r:Ss}{R:RS}{z:D}{n:Nat}{fs:List (Str×D)}(hv:v.ev cl ρ h=.ok z h1)(ho:o.ev cl ρ h1=.ok 146 h1)(g:h1[n]?=some (.obj c fs))(hl:fs.length<1000)(k:Ss.run cl r ρ (h1.set n (.obj c (QB fl z fs)))=R):Ss.run cl (.cons (.setF o fl v p1 p) r) ρ h=R:=by
 have e:qJ 146 fl z h1=some (h1.set n (.obj c (QB fl z fs))):=by
  unfold qJ;dsimp only;rw [g];exact if_pos hl
 rw [jW,Bp,hv,andS_ok,ho,andS_ok,e];exact k
theorem qt {cl:107}{ρ:En}{h h1:Hh}{o:E}{fl c:Str}{p:Pos}{n:Nat}{fs:List (Str×D)}{d:D}(ho:o.ev cl ρ h=.ok 146 h1)(g:h1[n]?=some (.obj c fs))(q:fs.lookup fl=some d):E.ev cl (.fld o fl p) ρ h=.ok d h1:=by
 refine bnd ho ?_;show J6 146 fl h1=_;unfold J6;dsimp only;rw [g];dsimp only;rw [q]
theorem BZ {h:Hh}{n m:Nat}{c:Str}{fs:List (Str×D)}{o:O}(g:h[n]?=some (.obj c fs))(g2:h[m]?=some o)(ho:∀ c fs,o≠.obj c fs):m≠n:=λ z=>by
 subst z;rw [g] at g2;cases g2;exact ho _ _ rfl
theorem z3a (cl:107)(f cr:141)(ev:Int)(ds:XQ)(l:List Ni)(nn:(l.map (·.1)).Nodup)(hl:l.length<=900)(okc:∀ p∈l,okI p/\(∀ d∈p.2.heads,d∈ds)/\p.2.heads.length<=1000)(dl:ds.length<=1000)(dn:ds.Nodup)
  (D4:∀ h:Hh,∃ nd h',cl 4 [.tup 135] h=.ok 138 h'/\Kx [] h h'/\h'[nd]?=some (.lst (txs ds)))
  (Rb:∀ (h:Hh) (nd:Nat),h[nd]?=some (.lst (txs ds))->cl 6 [.loc nd,.loc nd] h=.ok (.int ev) (h++[.dK (zA 0 ds)])) (Bi:Uf cl 5) (C:ZR cl 14 f ds (zA 0 ds))
  (Fd:∀ (h:Hh) (nd:Nat),h[nd]?=some (.lst (txs ds))->∃ h' a m,cl 19 [.tup 135,.loc nd] h=.ok (.loc a) h'/\Kx [] h h'/\h'[a]?=some (.dK 133)/\Fix f cr ev l m/\h.length<=a) (h:Hh) :
  ∃ h' nd nc a m,d_init_Found.run cl [.loc h.length,.tup 135] (h++[.obj "Found" []])=.ok .non h'/\Kx [] h h'/\h'[h.length]?=some (.obj "Found" [186,("every",.int ev),("clauses",.loc nc),("rows",.loc a)])/\h'[nd]?=some (.lst (txs ds))/\h'[a]?=some (.dK 133)/\Fix f cr ev l m/\h.length<=a:=by
 have kk:∀ {a b:Hh}{o:O},Kx [] h a->Kx [h.length] a b->Kx [] h b:=λ {a b o} x y=>⟨Y0n x.1 y.1,λ i o ei _=>y.2 i o (x.2 i o ei 111) (by have:=(Y01.mp ei).1;simp;omega)⟩;obtain ⟨nd,h1,e1,k1,g1⟩:=D4 (h++[.obj "Found" []]);have o1:=k1.2 _ _ (zo h (.obj "Found" [])) 111;have n1:nd≠h.length:=BZ o1 g1 (λ _ _ z=>by cases z);have o2:=wY (o:=O.obj "Found" [186]) o1;have g2:=j5 (o:=O.obj "Found" [186]) g1 n1;have k2:Kx [] h (h1.set h.length (O.obj "Found" [186])):=kk (o:=O.lst []) ((Kx.app h _).trans k1) (Kx.set _ _ 111);generalize hh2:h1.set h.length (O.obj "Found" [186])=h2 at o2 g2 k2;have e3:=Rb h2 nd g2;have o3:=wY (o:=O.obj "Found" [186,("every",.int ev)]) (zh (J:=162) o2);have g3:=j5 (o:=O.obj "Found" [186,("every",.int ev)]) (zh (J:=162) g2) n1;have k3:Kx [] h ((h2++162).set h.length (O.obj "Found" [186,("every",.int ev)])):=kk (o:=O.lst []) (k2.trans (Kx.app _ _)) (Kx.set _ _ 111);generalize hh3:(h2++162).set h.length (O.obj "Found" [186,("every",.int ev)])=h3 at o3 g3 k3;have e4:=Bi h3 nd ds g3 dl dn;obtain ⟨h4,e5,k5,g5⟩:=C h3.length l (h3++162) (zo _ _) okc nn hl;have o5:=wY (o:=O.obj "Found" [186,("every",.int ev),("clauses",.loc (h3++162).length)]) (k5.2 _ _ (zh o3) 111);have g6:=j5 (o:=O.obj "Found" [186,("every",.int ev),("clauses",.loc (h3++162).length)]) (k5.2 _ _ (zh g3) 111) n1;have k6:Kx [] h (h4.set h.length (O.obj "Found" [186,("every",.int ev),("clauses",.loc (h3++162).length)])):=kk (o:=O.lst []) ((k3.trans (Kx.app _ _)).trans k5) (Kx.set _ _ 111);have o4:=k5.2 _ _ (zh (J:=162) o3) 111;generalize hnc:(h3++162).length=nc at *
 generalize hh6:h4.set h.length (O.obj "Found" [186,("every",.int ev),("clauses",.loc nc)])=h6 at o5 g6 k6;obtain ⟨h7,a,m,e7,k7,g7,fx,la⟩:=Fd h6 nd g6;have o7:=k7.2 _ _ o5 111;have na:a≠h.length:=BZ o7 g7 (λ _ _ z=>by cases z);refine ⟨h7.set h.length (O.obj "Found" [186,("every",.int ev),("clauses",.loc nc),("rows",.loc a)]),nd,nc,a,m,?_,kk (o:=O.lst []) (k6.trans k7) (Kx.set _ _ 111),wY o7,j5 (k7.2 _ _ g6 111) n1,j5 g7 na,fx,Y0n k6.1 la⟩;refine z6j (ρ:=[some 121,some (.tup 135)]) (WP (zC rfl rfl e1) rfl o1 108 ?_);refine (congrArg _ hh2).trans (WP (zC (qt rfl o2 rfl) (cns (qt rfl o2 rfl) rfl) e3) rfl (zh o2) (show 1<1000 by decide) ?_);refine (congrArg _ hh3).trans (WP (zC rfl (cns (zC (qt rfl o3 rfl) rfl e4) rfl) e5) rfl o4 (show 2<1000 by decide) ?_);refine (congrArg _ hh6).trans (WP (zC rfl (cns (qt rfl o5 rfl) rfl) e7) rfl o7 (show 3<1000 by decide) ?_);rfl
noncomputable def foO (nd:Nat)(ev:Int)(nc a:Nat):O:=.obj "Found" [186,("every",.int ev),("clauses",.loc nc),("rows",.loc a)]
noncomputable def z6z (r:XX):Option Str->Int
 | none=>0
 | some b=>(r b).1
noncomputable def qS (r:XX)(x:Str)(o:XY):Int:=Builtin.bitOr (r x).1 (Builtin.bitAnd (r x).2 (z6z r o))
theorem z70 (cl:107)(F:ZS cl 10)(n nd nc a:Nat)(ev:Int)(r:XX)(ns:XQ)(x:Str)(o:XY)(h:Hh)(g:h[n]?=some (foO nd ev nc a))(ra:RowsAt h a r ns)(hx:x∈ns)(ho:∀ b,o=some b->b∈ns) :
  d_spot_row.run cl [.loc n,.str x,jq o] h=.ok (.int (qS r x o)) h:=by
 have v:=ra.sub hx;have fr:∀ (ρ:En) (p p1:Pos),ρ[0]?=some (some 146)->E.ev cl (.fld (.var 0 p) "rows" p1) ρ h=.ok (.loc a) h:=λ ρ p p1 q=>qt (by rw [we,q]) g rfl;cases o with
 | none=>exact zg (zj (zC (bnd (fr _ _ _ rfl) (bnd rfl v)) (cns (bnd (jo 132) rfl) rfl) (F _ _ _ h)))
 | some b =>
  have v2:=ra.sub (ho b rfl);exact zg (zj (zC (bnd (fr _ _ _ rfl) (bnd rfl v)) (cns (bnd (jo 132) (bnd (bnd (fr _ _ _ rfl) (bnd rfl v2)) 174)) rfl) (F _ _ _ h)))
noncomputable def WQ (cl:107)(i:Nat):Prop:=∀ (h:Hh) (nd:Nat) (R:Int) (ds:XQ),h[nd]?=some (.lst (txs ds))->ds.length<=1000->cl i [.int R,.loc nd] h=.ok 121 (h++[.lst (txs (zy R ds))])
noncomputable def z00 (cl:107)(i:Nat):Prop:=∀ (n nd nc a:Nat) (ev:Int) (r:XX) (ns:XQ) (x:Str) (o:XY) (h:Hh),h[n]?=some (foO nd ev nc a)->RowsAt h a r ns->x∈ns->(∀ b,o=some b->b∈ns)->cl i [.loc n,.str x,jq o] h=.ok (.int (qS r x o)) h
noncomputable def WR (cl:107)(i:Nat)(f cr:141)(ev:Int)(ds:XQ)(l:List Ni):Prop:=∀ h:Hh,∃ h' nd nc a m,cl i [.loc h.length,.tup 135] (h++[.obj "Found" []])=.ok .non h'/\Kx [] h h'/\h'[h.length]?=some (foO nd ev nc a)/\h'[nd]?=some (.lst (txs ds))/\h'[a]?=some (.dK 133)/\Fix f cr ev l m/\h.length<=a
theorem z3b (cl:107)(f cr:141)(ev:Int)(ds:XQ)(l:List Ni)(T:WQ cl 7)(S:z00 cl 22)(Fo:WR cl 43 f cr ev ds l)(dl:ds.length<=1000)(x:Str)(o:XY)(hx:x∈l.map (·.1))(ho:∀ b,o=some b->b∈l.map (·.1))(h:Hh) :
  ∃ h' n m,d_row_of.run cl [.tup 135,.str x,jq o] h=.ok 146 h'/\Kx [] h h'/\h'[n]?=some (.lst (txs (zy (qS (rwN f cr ev l m) x o) ds)))/\Fix f cr ev l m:=by
 obtain ⟨h1,nd,nc,a,m,e1,k1,g1,g2,g3,fx,la⟩:=Fo h;have e2:=S h.length nd nc a ev (rwN f cr ev l m) 194 x o h1 g1 (RowsAt.tab g3) hx ho;have e3:=T h1 nd (qS (rwN f cr ev l m) x o) ds g2 dl;refine ⟨_,_,m,?_,k1.trans (Kx.app _ _),zo _ _,fx⟩;refine zg (zd (d:=.loc h.length) (h':=h1) (bnd rfl (bnd rfl ?_)) (zj (zC (zC rfl 139 e2) (cns (qt rfl g1 rfl) rfl) e3)));show mkR _ (cl 43 [.loc h.length,.tup 135] (h++[.obj "Found" []]))=_;rw [e1];rfl
abbrev Tl:=Str×Nat×Nat
noncomputable def kvT (l:List Tl):List (Key×D):=l.map λ q=>(.inr q.1,.tup [.loc q.2.1,.loc q.2.2])
noncomputable def TabOk (h:Hh)(nt:Nat)(r:XX)(ds:XQ)(l:List Tl):Prop:=∀ q∈l,nt<q.2.1/\nt<q.2.2/\h[q.2.1]?=some (.lst (txs (zy (r q.1).1 ds)))/\h[q.2.2]?=some (.lst (txs (zy (r q.1).2 ds)))
theorem TabOk.keep {h h':Hh}{nt:Nat}{r:XX}{ds:XQ}{l:List Tl}(t:TabOk h nt r ds l)(k:Kx [nt] h h'):TabOk h' nt r ds l:=λ q hq=>⟨(t q hq).1,(t q hq).2.1,k.2 _ _ (t q hq).2.2.1 (by simpa using Y25 (t q hq).1),k.2 _ _ (t q hq).2.2.2 (by simpa using Y25 (t q hq).2.1)⟩
theorem RowsAt.keep {h h':Hh}{n nt:Nat}{rw:XX}{ns:XQ}(r:RowsAt h n rw ns)(k:Kx [nt] h h')(z:n≠nt):RowsAt h' n rw ns:=by
 obtain ⟨kvs,g,v⟩:=r.ex;exact ⟨kvs,g.imp (λ e=>k.2 _ _ e (by simpa using z)) (λ e=>k.2 _ _ e (by simpa using z)),v⟩
theorem JR (cl:107)(T:WQ cl 7)(r:XX)(ds ns:XQ)(dl:ds.length<=1000)(pr:D)(n nd nc a nt:Nat)(ev:Int)(z1:n≠nt)(z2:a≠nt)(z3:nd≠nt):∀ (L:XQ) (tl:List Tl) (t w:Option D) (h:Hh),h[n]?=some (foO nd ev nc a)->RowsAt h a r ns->h[nd]?=some (.lst (txs ds))->h[nt]?=some (.dK (kvT tl))->TabOk h nt r ds tl->(∀ x∈L,x∈ns)->(tl.map (·.1)++L).Nodup->tl.length+L.length<=900 ->
  ∃ h' tl' t' w',zH [] (zO qr λ ρ' h'=>b_open_rows_1.run cl ρ' h') (L.map D.str) [some pr,some 146,some (.loc nt),t,w] h=.nx [some pr,some 146,some (.loc nt),t',w'] h'/\Kx [nt] h h'/\tl'.map (·.1)=tl.map (·.1)++L/\h'[nt]?=some (.dK (kvT tl'))/\TabOk h' nt r ds tl'
 | [],tl,t,w,h,g1,ra,g2,g3,to,_,_,_=>⟨h,tl,t,w,by rw [Y12,zH,if_pos zu],Kx.refl _ _,by rw [Y13],g3,to⟩
 | x::L,tl,t,w,h,g1,ra,g2,g3,to,hs,nn,hl=>by
  rw [Y08] at hl;have v:=ra.sub (hs x Y05);have lt:nt<h.length:=(Y01.mp g3).1;have e1:=T h nd (r x).1 ds g2 dl;have e2:=T (h++129) nd (r x).2 ds (zh g2) dl;have hn:∀ u∈kvT tl,u.1≠.inr x:=λ u hu z=>by
   unfold kvT at hu;obtain ⟨y,hy,rfl⟩:=Y0c.mp hu;have z:y.1=x:=Sum.inr.inj z;exact (Y28.mp nn).2.2 y.1 (Y0c.mpr ⟨y,hy,rfl⟩) x Y05 z
  have kk:Kx [nt] h ((h++129++[O.lst (txs (zy (r x).2 ds))]).set nt (.dK (kvT tl++[(.inr x,.tup [.loc h.length,.loc (h++129).length])]))):=(Kx.app _ _).trans ((Kx.app _ _).trans (Kx.set _ _ 111));have st:zO qr (λ ρ' h'=>b_open_rows_1.run cl ρ' h') (.str x) [some pr,some 146,some (.loc nt),t,w] h=.nx [some pr,some 146,some (.loc nt),some (.str x),some (pr2 (r x))] ((h++129++[O.lst (txs (zy (r x).2 ds))]).set nt (.dK (kvT tl++[(.inr x,.tup [.loc h.length,.loc (h++129).length])]))) :=
   zd (bnd (qt rfl g1 rfl) (bnd rfl v)) (QM (zX (cns (zC 112 (cns (qt rfl g1 rfl) rfl) e1) (cns (zC 112 (cns (qt rfl (zh g1) rfl) rfl) e2) rfl)) (show 2<=1000 by decide)) rfl rfl (yR (zh (zh g3)) (by unfold kvT;rw [Y04];omega) hn) rfl)
  have g3':=wY (o:=O.dK (kvT (tl++[(x,h.length,(h++129).length)]))) (zh (J:=[O.lst (txs (zy (r x).2 ds))]) (zh (J:=129) g3));have ek:kvT tl++[(.inr x,.tup [.loc h.length,.loc (h++129).length])]=kvT (tl++[(x,h.length,(h++129).length)]):=by unfold kvT;rw [Y0q];rfl
  rw [ek] at st kk;have l2:(h++129).length=h.length+1:=by simp
  have to':TabOk ((h++129++[O.lst (txs (zy (r x).2 ds))]).set nt (.dK (kvT (tl++[(x,h.length,(h++129).length)])))) nt r ds (tl++[(x,h.length,(h++129).length)]):=λ q hq=>by
   rcases Y0r.mp hq with hq | hq
   ·exact (to.keep kk) q hq
   ·cases Y0g.mp hq;exact ⟨lt,by show nt<(h++129).length;rw [l2];omega,j5 (zh (zo _ _)) (by show h.length≠nt;omega),j5 (zo _ _) (by show (h++129).length≠nt;rw [l2];omega)⟩
  obtain ⟨h2,tl2,t2,w2,e3,k3,m3,g4,to3⟩:=JR cl T r ds ns dl pr n nd nc a nt ev z1 z2 z3 L _ (some (.str x)) (some (pr2 (r x))) _ (kk.2 _ _ g1 (by simpa using z1)) (ra.keep kk z2) (kk.2 _ _ g2 (by simpa using z3)) g3' to' (λ y hy=>hs y (Y03 _ hy)) (by rw [Y0q,Y0k];exact nn) 175;refine ⟨h2,tl2,t2,w2,?_,kk.trans k3,by rw [m3,Y0q,Y0k];rfl,g4,to3⟩;rw [Y09,zH,if_pos zu,st];exact e3
theorem z01 (ns:XQ)(r:XX):(j0 ns r).map (λ p=>dK1 p.1)=ns.map D.str:=by unfold j0;rw [Y10];rfl
theorem z71 (cl:107)(f cr:141)(ev:Int)(ds:XQ)(l:List Ni)(T:WQ cl 7)(Fo:WR cl 43 f cr ev ds l)(dl:ds.length<=1000)(nn:(l.map (·.1)).Nodup)(hl:l.length<=900)(h:Hh) :
  ∃ h' nt tl m,d_open_rows.run cl [.tup 135] h=.ok (.loc nt) h'/\Kx [] h h'/\h.length<=nt/\tl.map (·.1)=l.map (·.1)/\h'[nt]?=some (.dK (kvT tl))/\TabOk h' nt (rwN f cr ev l m) ds tl/\Fix f cr ev l m:=by
 obtain ⟨h1,nd,nc,a,m,e1,k1,g1,g2,g3,fx,lo⟩:=Fo h;have l1:h.length<h1.length:=(Y01.mp g1).1;have la:a<h1.length:=(Y01.mp g3).1;have ld:nd<h1.length:=(Y01.mp g2).1;have na:h.length≠a:=(BZ (n:=h.length) g1 g3 (λ _ _ z=>by cases z)).symm;have nda:nd≠a:=λ z=>by rw [z,g3] at g2;cases g2
 have g3':(h1++[O.dK []])[a]?=some (.dK 133):=zh g3;have f1:((h1++[O.dK []]).set a (.fK 133))[h.length]?=some (foO nd ev nc a):=j5 (zh g1) na;have f2:((h1++[O.dK []]).set a (.fK 133))[nd]?=some (.lst (txs ds)):=j5 (zh g2) nda;have f3:RowsAt ((h1++[O.dK []]).set a (.fK 133)) a (rwN f cr ev l m) 194:=⟨_,.inr (wY g3'),λ _ hx=>yS hx⟩;have f4:((h1++[O.dK []]).set a (.fK 133))[h1.length]?=some (.dK (kvT [])):=j5 (zo _ _) 109;obtain ⟨h2,tl,t',w',e2,k2,m2,g4,to⟩:=JR cl T (rwN f cr ev l m) ds 194 dl (.tup 135) h.length nd nc a h1.length ev 109 109 109 194 [] none none _ f1 f3 f2 f4 (λ q hq=>absurd hq 111) (λ x hx=>hx) (by simpa using nn) (by simpa using hl);refine ⟨h2,h1.length,tl,m,?_,⟨?_,λ i o ei _=>?_⟩,by omega,m2,g4,to,fx⟩
 ·refine zg (zd (d:=.loc h.length) (h':=h1) (bnd rfl (bnd rfl ?_)) (zd rfl (jp (q:=([],(l.map λ p:Ni=>p.1).map D.str)) ((BX (qt rfl (zh g1) rfl) g3').trans (by rw [z01])) e2 (zj rfl))));show mkR _ (cl 43 [.loc h.length,.tup 135] (h++[.obj "Found" []]))=_;rw [e1];rfl
 ·have:=k2.1
  simp at this
  have:=k1.1
  omega
 ·have li:=(Y01.mp ei).1;have ia:a≠i:=by omega
  exact k2.2 i o (j5 (zh (k1.2 i o ei 111)) (Ne.symm ia)) 175
end K31
namespace K31
open PySem L2 PI KB
noncomputable def msk (hb:Str->Bool)(k:Kd)(n:Nat):List Bool:=match k with
 | .handle x=>[false,hb x]
 | _=>List.replicate n false
section
variable (hb:Str->Bool)(P:Kd->Bool)
mutual
noncomputable def sm:G->Bool
 | .nd k ps=>P k||sms ps (msk hb k ps.length)
noncomputable def sms:List G->List Bool->Bool
 | [],_=>false
 | _::_,[]=>false
 | g::r,x::xs=>(!x&&sm g)||sms r xs
end
theorem VH:∀ ps:List G,sms hb P ps (List.replicate ps.length false)=ps.any (sm hb P)
 | []=>by rw [sms];rfl
 | g::r=>by rw [Y08,Y14,sms,VH r];rfl
theorem JS (k:Kd)(ps:List G)(hk:k.hnd=none):sm hb P (.nd k ps)=(P k||ps.any (sm hb P)):=by
 have e:msk hb k ps.length=List.replicate ps.length false:=by cases k<;>first | rfl | cases hk
 rw [sm,e,VH]
theorem VI (x:Str)(s b:G):sm hb P (.nd (.handle x) [s,b])=(P (.handle x)||(sm hb P s||(!hb x&&sm hb P b))):=by
 rw [sm];show (_||sms hb P [s,b] [false,hb x])=_;rw [sms,sms,sms,Y3b];rfl
end
theorem z3c (cr:141)(i:Nat)(k:Kd)(a:Int)(n:Nat):(GX cr k a n).map (λ x=>tb x i)=(msk (λ x=>tb (cr x) i) k n).map (λ m=>tb a i||m):=by
 cases k with
 | handle x=>show [tb a i,tb (Builtin.bitOr a (cr x)) i]=[tb a i||false,tb a i||tb (cr x) i];rw [zD,Y3b]
 | _=>show (List.replicate n a).map _=(List.replicate n false).map _;simp
section
variable (cr:141)(i:Nat)(P:Kd->Bool)
mutual
theorem z02:∀ (g:G) (a:Int),(wk cr g a).any (λ p=>P (kdG p.1)&&!tb p.2 i)=(!tb a i&&sm (λ x=>tb (cr x) i) P g)
 | .nd k ps,a=>by
  rw [wk,Y0u,wks_any ps (GX cr k a ps.length) (msk (λ x=>tb (cr x) i) k ps.length) a (z3c ..),sm];show (P k&&!tb a i||_)=_;cases P k<;>cases tb a i<;>simp
theorem wks_any:∀ (gs:List G) (as:195) (ms:List Bool) (a:Int),as.map (λ x=>tb x i)=ms.map (λ m=>tb a i||m)->(wks cr gs as).any (λ p=>P (kdG p.1)&&!tb p.2 i)=(!tb a i&&sms (λ x=>tb (cr x) i) P gs ms)
 | [],as,ms,a,h=>by rw [wks,sms];simp
 | g::r,[],[],a,h=>by rw [wks,sms];simp
 | g::r,[],m::ms,a,h=>by simp at h
 | g::r,x::xs,[],a,h=>by simp at h
 | g::r,x::xs,m::ms,a,h=>by
  rw [Y09,Y09] at h;injection h with h1 h2;rw [wks,List.any_append,wks_any r xs ms a h2,z02 g x,sms,h1];cases tb a i<;>cases m<;>simp [Bool.or_comm]
end
theorem WS:∀ bs:List G,(wkW cr (bs.map λ g=>(g,0))).any (λ p=>P (kdG p.1)&&!tb p.2 i)=bs.any (sm (λ x=>tb (cr x) i) P)
 | []=>rfl
 | g::r=>by
  rw [Y09,wkW,List.any_append,WS r,Y0u];show (_||(wk cr g 0).any _)=_;rw [z02,zm,Bool.or_comm];rfl
end
noncomputable def dP (f:141)(i:Nat):Kd->Bool
 | .doo d=>tb (f d) i
 | _=>false
theorem JT (x y:Int)(i:Nat):tb (lsI x y) i=(tb x i&&!tb y i):=by unfold lsI;rw [jQ,ZA]
theorem VJ (f:141)(i:Nat):∀ (L:List Pa) (x:Int),tb (L.foldl (qR f) x) i=(tb x i||L.any λ p=>dP f i (kdG p.1)&&!tb p.2 i)
 | [],x=>by simp
 | p::L,x=>by
  rw [Y1i,VJ f i L,Y0u,<- Y3p]
  congr 1
  obtain ⟨⟨k,ps⟩,a⟩:=p;cases k with
  | doo d=>show tb (Builtin.bitOr x (lsI (f d) a)) i=_;rw [zD,JT];rfl
  | _=>show tb x i=(tb x i||(false&&_));simp
theorem Y3 (rw':XX)(ev:Int)(ob:XY)(i:Nat):∀ (us:List Pa) (acc:Int×Int),(tb acc.2 i=true->tb acc.1 i=false) ->
  tb (us.foldl (qC rw' ev ob) acc).1 i=(tb acc.1 i||us.any λ p=>tb (j9 rw' ev ob (kdG p.1)).1 i&&!tb p.2 i) /\
  tb (us.foldl (qC rw' ev ob) acc).2 i=(!tb (us.foldl (qC rw' ev ob) acc).1 i&&(tb acc.2 i||us.any λ p=>tb (j9 rw' ev ob (kdG p.1)).2 i&&!tb p.2 i))
 | [],acc,h=>by
  refine ⟨by simp,?_⟩;show tb acc.2 i=(!tb acc.1 i&&(tb acc.2 i||false));cases e1:tb acc.1 i<;>cases e2:tb acc.2 i<;>simp_all
 | p::us,acc,h=>by
  have q1:tb (qC rw' ev ob acc p).1 i=(tb acc.1 i||(tb (j9 rw' ev ob (kdG p.1)).1 i&&!tb p.2 i)):=by
   show tb (Builtin.bitOr acc.1 (lsI _ p.2)) i=_;rw [zD,JT]
  have q2:tb (qC rw' ev ob acc p).2 i=(!tb (qC rw' ev ob acc p).1 i&&(tb acc.2 i||(tb (j9 rw' ev ob (kdG p.1)).2 i&&!tb p.2 i))):=by
   rw [q1];show tb (lsI (Builtin.bitOr acc.2 (lsI (lsI _ p.2) (lsI _ p.2))) (Builtin.bitOr acc.1 (lsI _ p.2))) i=_;rw [JT,zD,zD,JT,JT,JT];generalize tb acc.2 i=A;generalize tb acc.1 i=B;generalize tb (j9 rw' ev ob (kdG p.1)).1 i=C;generalize tb (j9 rw' ev ob (kdG p.1)).2 i=E;generalize tb p.2 i=F
   revert A B C E F
   decide
  obtain ⟨i1,i2⟩:=Y3 rw' ev ob i us (qC rw' ev ob acc p) (λ z=>by rw [q2,Y0h] at z;simpa using z.1);rw [Y1i,Y0u,Y0u];refine ⟨by rw [i1,q1,Y3p],?_⟩;rw [i2,q2,i1];generalize (us.any λ p=>tb (j9 rw' ev ob (kdG p.1)).1 i&&!tb p.2 i)=U;generalize (us.any λ p=>tb (j9 rw' ev ob (kdG p.1)).2 i&&!tb p.2 i)=V;generalize tb acc.2 i=A;generalize (tb (j9 rw' ev ob (kdG p.1)).2 i&&!tb p.2 i)=B;generalize tb (qC rw' ev ob acc p).1 i=C
  revert U V A B C
  decide
theorem Y4 (L:List Pa)(F:Pa->Bool)(h:∀ p,jU p=false->F p=false):(L.filter jU).any F=L.any F:=by
 induction L with
 | nil=>rfl
 | cons p L ih =>
  rw [Y3h];cases e:jU p with
  | true=>rw [if_pos rfl,Y0u,Y0u,ih]
  | false=>rw [if_neg 111,Y0u,ih,h p e];rfl
noncomputable def oK (f:141)(rw':XX)(ev:Int)(ob:XY)(i:Nat)(k:Kd):Bool:=dP f i k||tb (j9 rw' ev ob k).1 i
noncomputable def lK (rw':XX)(ev:Int)(ob:XY)(i:Nat)(k:Kd):Bool:=tb (j9 rw' ev ob k).2 i
theorem z72 {α:Type}(L:List α)(F G:α->Bool):(L.any F||L.any G)=L.any λ p=>F p||G p:=by
 induction L with
 | nil=>rfl
 | cons x L ih =>
  rw [Y0u,Y0u,Y0u,<- ih];cases F x<;>cases G x<;>simp
theorem z03 (rw':XX)(ev:Int)(ob:XY)(p:Pa)(h:jU p=false):j9 rw' ev ob (kdG p.1)=(0,0):=by
 obtain ⟨⟨k,ps⟩,a⟩:=p;cases k<;>first | rfl | cases h
theorem z04 (f cr:141)(rw':XX)(ev:Int)(it:It)(i:Nat) :
  tb (WM f cr rw' ev it).1 i=it.bods.any (sm (λ x=>tb (cr x) i) (oK f rw' ev it.ownS i)) /\
  tb (WM f cr rw' ev it).2 i=(!tb (WM f cr rw' ev it).1 i&&it.bods.any (sm (λ x=>tb (cr x) i) (lK rw' ev it.ownS i))):=by
 obtain ⟨e1,e2⟩:=Y3 rw' ev it.ownS i (usB cr it.bods) (dnB cr f it.bods,0) (λ z=>by rw [zm] at z;cases z);have u1:(usB cr it.bods).any (λ p=>tb (j9 rw' ev it.ownS (kdG p.1)).1 i&&!tb p.2 i)=(wkW cr (it.bods.map λ g=>(g,0))).any λ p=>tb (j9 rw' ev it.ownS (kdG p.1)).1 i&&!tb p.2 i:=Y4 _ _ λ p hp=>by rw [z03 _ _ _ p hp,zm];rfl
 have u2:(usB cr it.bods).any (λ p=>tb (j9 rw' ev it.ownS (kdG p.1)).2 i&&!tb p.2 i)=(wkW cr (it.bods.map λ g=>(g,0))).any λ p=>tb (j9 rw' ev it.ownS (kdG p.1)).2 i&&!tb p.2 i:=Y4 _ _ λ p hp=>by rw [z03 _ _ _ p hp,zm];rfl
 rw [u1] at e1;rw [u2,zm,Y3q] at e2;refine ⟨?_,?_⟩
 ·rw [<- WS];refine e1.trans ?_;show (tb (dnB cr f it.bods) i||_)=_;unfold dnB;rw [VJ,zm,Y3q,z72]
  congr 1
  funext p
  unfold oK;cases dP f i (kdG p.1)<;>simp
 ·rw [<- WS];exact e2
mutual
noncomputable def AllN (Q:Kd->Nat->Prop):G->Prop
 | .nd k ps=>Q k ps.length/\AllNs Q ps
noncomputable def AllNs (Q:Kd->Nat->Prop):List G->Prop
 | []=>True
 | g::r=>AllN Q g/\AllNs Q r
end
theorem qT {Q:Kd->Nat->Prop}{k:Kd}{ps:List G}(h:Q k ps.length)(r:∀ g∈ps,AllN Q g):AllN Q (.nd k ps):=by
 have aux:∀ ps:List G,(∀ g∈ps,AllN Q g)->AllNs Q ps:=λ ps=>by
  induction ps with
  | nil=>intro _;rw [AllNs];trivial
  | cons g r ih=>intro h;rw [AllNs];exact ⟨h g Y05,ih λ x hx=>h x (Y03 _ hx)⟩
 rw [AllN];exact ⟨h,aux ps r⟩
mutual
theorem AllN.mono {Q Q':Kd->Nat->Prop}(h:∀ k n,Q k n->Q' k n):∀ g:G,AllN Q g->AllN Q' g
 | .nd k ps,a=>by rw [AllN] at a ⊢;exact ⟨h _ _ a.1,AllNs.mono h ps a.2⟩
theorem AllNs.mono {Q Q':Kd->Nat->Prop}(h:∀ k n,Q k n->Q' k n):∀ gs:List G,AllNs Q gs->AllNs Q' gs
 | [],_=>by rw [AllNs];trivial
 | g::r,a=>by rw [AllNs] at a ⊢;exact ⟨AllN.mono h g a.1,AllNs.mono h r a.2⟩
end
mutual
theorem wZ {hb hb':Str->Bool}{P P':Kd->Bool}:∀ g:G,AllN (λ k _=>P k=P' k/\∀ x,k=.handle x->hb x=hb' x) g->sm hb P g=sm hb' P' g
 | .nd k ps,a=>by
  rw [AllN] at a;obtain ⟨⟨a1,a2⟩,a3⟩:=a;have e:msk hb k ps.length=msk hb' k ps.length:=by
   cases k with
   | handle x=>show [false,hb x]=[false,hb' x];rw [a2 x rfl]
   | _=>rfl
  rw [sm,sm,a1,e,sms_congr ps _ a3]
theorem sms_congr {hb hb':Str->Bool}{P P':Kd->Bool}:∀ (gs:List G) (ms:List Bool),AllNs (λ k _=>P k=P' k/\∀ x,k=.handle x->hb x=hb' x) gs->sms hb P gs ms=sms hb' P' gs ms
 | [],ms,_=>by rw [sms,sms]
 | g::r,[],_=>by rw [sms,sms]
 | g::r,m::ms,a=>by rw [AllNs] at a;rw [sms,sms,wZ g a.1,sms_congr r ms a.2]
end
section
variable (cr:141){Q:Kd->Nat->Prop}
mutual
theorem Y5:∀ (g:G) (a:Int),AllN Q g->∀ p∈wk cr g a,∃ k ps,p.1=.nd k ps/\Q k ps.length
 | .nd k ps,a,h,p,hp=>by
  rw [AllN] at h;rw [wk] at hp;rcases Y06.mp hp with rfl | hp
  ·exact ⟨k,ps,rfl,h.1⟩
  ·exact wks_nodes ps _ h.2 p hp
theorem wks_nodes:∀ (gs:List G) (as:195),AllNs Q gs->∀ p∈wks cr gs as,∃ k ps,p.1=.nd k ps/\Q k ps.length
 | [],_,_,p,hp=>by rw [wks] at hp;cases hp
 | _::_,[],_,p,hp=>by rw [wks] at hp;cases hp
 | g::r,x::xs,h,p,hp=>by
  rw [AllNs] at h;rw [wks] at hp;rcases Y0r.mp hp with hp | hp
  ·exact wks_nodes r xs h.2 p hp
  ·exact Y5 g x h.1 p hp
end
theorem yn:∀ (bs:List G),(∀ g∈bs,AllN Q g)->∀ p∈wkW cr (bs.map λ g=>(g,0)),∃ k ps,p.1=.nd k ps/\Q k ps.length
 | [],_,p,hp=>by cases hp
 | g::r,h,p,hp=>by
  rw [Y09,wkW] at hp;rcases Y0r.mp hp with hp | hp
  ·exact yn r (λ x hx=>h x (Y03 _ hx)) p hp
  ·exact Y5 cr g 0 (h g Y05) p hp
mutual
theorem z05:∀ (g:G) (a:Int),(wk cr g a).length<=g.size
 | .nd k ps,a=>by rw [wk,G.size,Y08];have:=wks_len ps (GX cr k a ps.length);omega
theorem wks_len:∀ (gs:List G) (as:195),(wks cr gs as).length<=G.sizes gs
 | [],_=>by rw [wks];simp
 | _::_,[]=>by rw [wks];simp
 | g::r,x::xs=>by rw [wks,G.sizes,Y0e];have:=wks_len r xs;have:=z05 g x;omega
end
theorem VL:∀ bs:List G,(wkW cr (bs.map λ g=>(g,0))).length<=G.sizes bs
 | []=>by simp [wkW]
 | g::r=>by
  rw [Y09,wkW,Y0e,G.sizes]
  have:=VL r
  have:(wk cr g 0).length<=g.size:=z05 cr g 0
  show _+(wk cr g 0).length<=_;omega
end
theorem ZT:∀ (gs:List G) (x:G),x∈pres gs ↔ ∃ g∈gs,x∈pre g
 | [],x=>by rw [pres];simp
 | g::r,x=>by
  rw [pres,Y0r,ZT r x];constructor
  ·rintro (⟨y,hy,hx⟩ | hx)
   ·exact ⟨y,Y03 _ hy,hx⟩
   ·exact ⟨g,Y05,hx⟩
  ·rintro ⟨y,hy,hx⟩
   rcases Y06.mp hy with rfl | hy
   ·exact .inr hx
   ·exact .inl ⟨y,hy,hx⟩
theorem qU (k:Kd)(ps:List G)(d:Str):d∈gdd (.nd k ps) ↔ k=.doo d\/∃ g∈ps,d∈gdd g:=by
 unfold gdd;rw [pre,Y1o];have e:(dd1 (.nd k ps)=some d) ↔ k=.doo d:=by
  cases k<;>simp [dd1]
 have f:d∈(pres ps).filterMap dd1 ↔ ∃ g∈ps,d∈(pre g).filterMap dd1:=by
  rw [Y1m];constructor
  ·rintro ⟨x,hx,q⟩
   obtain ⟨g,hg,hx⟩:=(ZT ps x).mp hx;exact ⟨g,hg,Y1m.mpr ⟨x,hx,q⟩⟩
  ·rintro ⟨g,hg,q⟩
   obtain ⟨x,hx,q⟩:=Y1m.mp q;exact ⟨x,(ZT ps x).mpr ⟨g,hg,hx⟩,q⟩
 cases c:dd1 (.nd k ps) with
 | none =>
  rw [c] at e;simp only [f];constructor
  ·exact .inr
  ·rintro (z | z)
   ·exact absurd (e.mpr z) 111
   ·exact z
 | some d' =>
  rw [c] at e;simp only [Y06,f];constructor
  ·rintro (z | z)
   ·exact .inl (e.mp (by rw [z]))
   ·exact .inr z
  ·rintro (z | z)
   ·have:=e.mpr z
    injection this with this;exact .inl this.symm
   ·exact .inr z
theorem Ui:∀ (j k:Nat),tb (2 ^ j) k=decide (k=j)
 | 0,0=>by decide
 | 0,k+1=>by
  rw [j2,show ((2:Int) ^ 0)/2=0 by decide,zm];exact (decide_eq_false 109).symm
 | j+1,0=>by
  rw [jb,Y27];rw [decide_eq_false 109,decide_eq_false 109]
 | j+1,k+1=>by
  rw [j2,Y27,Int.mul_ediv_cancel _ 108,Ui j k];simp
theorem z73 (j k:Nat):tb (1*2 ^ j) k=decide (k=j):=by rw [Int.one_mul,Ui]
theorem Uj:∀ (j k:Nat) (x:Int),tb x j=false->tb (x+2 ^ j) k=(tb x k||decide (k=j))
 | 0,0,x,h=>by
  rw [jb] at h ⊢;have h:=of_decide_eq_false h;rw [jb,decide_eq_true (show (x+2 ^ 0)%2=1 by have:(2:Int) ^ 0=1:=rfl;omega)];simp
 | 0,k+1,x,h=>by
  rw [jb] at h;have h:=of_decide_eq_false h;rw [j2,j2,show (x+2 ^ 0)/2=x/2 by have:(2:Int) ^ 0=1:=rfl;omega];simp
 | j+1,0,x,h=>by
  rw [jb,jb,Y27,show (x+2 ^ j*2)%2=x%2 by omega];simp
 | j+1,k+1,x,h=>by
  rw [j2] at h;rw [j2,j2,Y27,show (x+2 ^ j*2)/2=x/2+2 ^ j by omega,Uj j k _ h];simp
theorem z74 {k:Nat}(h:k<8):tb 255 k=true:=by
 have:k=0\/k=1\/k=2\/k=3\/k=4\/k=5\/k=6\/k=7:=by omega
 rcases this with rfl | rfl | rfl | rfl | rfl | rfl | rfl | rfl<;>decide
structure Kn where
 kd:Str
 nm:Str
 own:Int
 lets:Int
 x4:Int
noncomputable def Kn.d (q:Kn):D:=.tup [.str q.kd,.str q.nm,.int q.own,.int q.lets,.int q.x4]
noncomputable def qV (T:Str->Kn)(kn:List Kn):Prop:=∀ q∈kn,T q.nm=q
noncomputable def hL (T:Str->Kn)(k:Nat)(x:Str):Bool:=tb (T x).x4 k
noncomputable def WT (d:Str):Kd->Bool
 | .doo e=>decide (e=d)
 | _=>false
noncomputable def oL (T:Str->Kn)(k:Nat)(d:Str)(ob:XY):Kd->Bool
 | .doo e=>decide (e=d)
 | .handle x=>tb (T x).own k
 | .call g o=>if ob=some g then false else match o with
  | none=>tb (T g).own k
  | some b=>if ob=some b then tb (T g).own k else tb (T g).own k||(tb (T g).lets k&&tb (T b).own k)
 | _=>false
noncomputable def lL (T:Str->Kn)(k:Nat)(ob:XY):Kd->Bool
 | .call g o=>if ob=some g then true else match o with
  | none=>false
  | some b=>if ob=some b then tb (T g).lets k&&!tb (T g).own k else false
 | _=>false
noncomputable def okK (dd:XQ)(kn:List Kn)(ob:XY)(k:Kd)(n:Nat):Prop:=n<=1000/\match k with
 | .handle x=>n=2/\∃ q∈kn,q.nm=x/\q.kd="handler"
 | .doo d=>d∈dd
 | .call g o=>PyData.strOk g=true/\okO o/\(ob≠some g->(∃ q∈kn,q.nm=g)/\∀ b,o=some b->ob≠some b->∃ q∈kn,q.nm=b)
 | _=>True
structure Inv (dd:XQ)(kn:List Kn)(ob:XY)(g:G)(o l s:Int):Prop where
 own:∀ T,qV T kn->∀ j d,dd[j]?=some d->sm (hL T j) (oL T j d ob) g=tb o j
 lets:∀ T,qV T kn->∀ j d,dd[j]?=some d->(tb l j&&!tb o j)=(sm (hL T j) (lL T j ob) g&&!tb o j)
 seen:∀ j d,dd[j]?=some d->tb s j=decide (d∈gdd g)
 sub:∀ j d,dd[j]?=some d->tb o j=true->tb s j=true\/∃ q∈kn,tb q.own j=true
 nl:ob=none->l=0
 nodes:AllN (okK dd kn ob) g
noncomputable def Lf (g:G):Prop:=(∃ n,g=.nd (.num n) [])\/∃ x,g=.nd (.var x) []
theorem Lf.num (n:Int):Lf (.nd (.num n) []):=.inl ⟨n,rfl⟩
theorem Lf.var (x:Str):Lf (.nd (.var x) []):=.inr ⟨x,rfl⟩
theorem Lf.own {g:G}(h:Lf g)(hb:Str->Bool)(T:Str->Kn)(j:Nat)(d:Str)(ob:XY):sm hb (oL T j d ob) g=false:=by
 rcases h with ⟨n,rfl⟩ | ⟨x,rfl⟩<;>(rw [JS _ _ _ _ rfl];rfl)
theorem Lf.lets {g:G}(h:Lf g)(hb:Str->Bool)(T:Str->Kn)(j:Nat)(ob:XY):sm hb (lL T j ob) g=false:=by
 rcases h with ⟨n,rfl⟩ | ⟨x,rfl⟩<;>(rw [JS _ _ _ _ rfl];rfl)
theorem Lf.gdd {g:G}(h:Lf g)(d:Str):¬ d∈gdd g:=by
 rcases h with ⟨n,rfl⟩ | ⟨x,rfl⟩<;>(rw [qU];rintro (z | ⟨_,z,_⟩)<;>cases z)
theorem Lf.nodes {g:G}(h:Lf g)(dd:XQ)(kn:List Kn)(ob:XY):AllN (okK dd kn ob) g:=by
 rcases h with ⟨n,rfl⟩ | ⟨x,rfl⟩<;>exact qT ⟨by simp,trivial⟩ (λ _ z=>by cases z)
theorem Lf.size {g:G}(h:Lf g):g.size=1:=by
 rcases h with ⟨n,rfl⟩ | ⟨x,rfl⟩<;>(rw [G.size,G.sizes])
noncomputable def doG (d:Str)(lf:G):G:=.nd (.doo d) [lf]
section
variable {lf:G}(h:Lf lf)
include h
theorem z06 (e d:Str)(hb:Str->Bool)(T:Str->Kn)(j:Nat)(ob:XY):sm hb (oL T j d ob) (doG e lf)=decide (e=d):=by
 unfold doG;rw [JS _ _ _ _ rfl,Y0u,h.own];simp [oL]
theorem VM (e:Str)(hb:Str->Bool)(T:Str->Kn)(j:Nat)(ob:XY):sm hb (lL T j ob) (doG e lf)=false:=by
 unfold doG;rw [JS _ _ _ _ rfl,Y0u,h.lets];simp [lL]
theorem WU (e d:Str):d∈gdd (doG e lf) ↔ e=d:=by
 unfold doG;rw [qU];constructor
 ·rintro (z | ⟨g,hg,z⟩)
  ·injection z
  ·rw [Y0g.mp hg] at z;exact absurd z (h.gdd d)
 ·intro z;exact .inl (by rw [z])
theorem Y6 {dd:XQ}{e:Str}(he:e∈dd)(kn:List Kn)(ob:XY):AllN (okK dd kn ob) (doG e lf) :=
 qT ⟨by simp,he⟩ (λ g hg=>by rw [Y0g.mp hg];exact h.nodes dd kn ob)
end
theorem qi {F:G->Bool}{g dt:G}{w:Bool}{ps:List G}(hg:g∈ps)(hw:w=true->dt∈ps)(hp:∀ x∈ps,x=g\/(w=true/\x=dt)\/Lf x)(hF:∀ x,Lf x->F x=false):ps.any F=(F g||(w&&F dt)):=by
 rw [Y1x,Y1z];constructor
 ·rintro ⟨x,hx,q⟩
  rcases hp x hx with rfl | ⟨w1,rfl⟩ | z
  ·rw [q];rfl
  ·rw [q,w1];simp
  ·rw [hF x z] at q;cases q
 ·intro q;rcases Bool.or_eq_true_iff.mp q with q | q
  ·exact ⟨g,hg,q⟩
  ·rw [Y0h] at q;exact ⟨dt,hw q.1,q.2⟩
theorem Inv.nd {dd:XQ}{kn:List Kn}{ob:XY}{g:G}{o l s o' l' s':Int}(I:150){k:Kd}{ps:List G}(hk:k.hnd=none)(w:Bool){d0:Str}{lf:G}(hlf:Lf lf)(hg:g∈ps)(hw:w=true->doG d0 lf∈ps)(hp:∀ x∈ps,x=g\/(w=true/\x=doG d0 lf)\/Lf x)(hd:w=true->d0∈dd)
  (ho:∀ T,qV T kn->∀ j d,dd[j]?=some d->tb o' j=(tb o j||(oL T j d ob k||(w&&decide (d0=d)))))
  (hl:∀ T,qV T kn->∀ j d,dd[j]?=some d->(tb l' j&&!tb o' j)=((tb l j||lL T j ob k)&&!tb o' j))
  (hs:∀ j d,dd[j]?=some d->tb s' j=(tb s j||(WT d k||(w&&decide (d0=d)))))
  (hsub:∀ j d,dd[j]?=some d->tb o' j=true->tb s' j=true\/∃ q∈kn,tb q.own j=true) (nl:ob=none->l'=0) (hok:okK dd kn ob k ps.length):Inv dd kn ob (.nd k ps) o' l' s':=by
 refine ⟨λ T ag j d hd=>?_,λ T ag j d hd=>?_,λ j d hd=>?_,hsub,nl,qT hok λ x hx=>?_⟩
 ·rw [JS _ _ _ _ hk,qi hg hw hp (λ x z=>z.own _ T j d ob),I.own T ag j d hd,z06 hlf,ho T ag j d hd];generalize tb o j=A;generalize oL T j d ob k=B;generalize (w&&decide (d0=d))=C
  revert A B C;decide
 ·rw [JS _ _ _ _ hk,qi hg hw hp (λ x z=>z.lets _ T j ob),VM hlf,hl T ag j d hd,ho T ag j d hd];have q:=I.lets T ag j d hd
  revert q
  generalize tb o j=A;generalize tb l j=L;generalize sm (hL T j) (lL T j ob) g=M;generalize lL T j ob k=N;generalize oL T j d ob k=B;generalize (w&&decide (d0=d))=C;rw [Y3m]
  revert A L M N B C
  decide
 ·rw [hs j d hd,I.seen j d hd,Y1x];have e:(WT d k=true) ↔ k=.doo d:=by cases k<;>simp [WT]
  simp only [Y16,Y0h,decide_eq_true_eq,e];rw [qU];constructor
  ·rintro (z | z | ⟨z1,z2⟩)
   ·exact .inr ⟨g,hg,z⟩
   ·exact .inl z
   ·exact .inr ⟨_,hw z1,(WU hlf d0 d).mpr z2⟩
  ·rintro (z | ⟨x,hx,z⟩)
   ·exact .inr (.inl z)
   ·rcases hp x hx with rfl | ⟨w1,rfl⟩ | lx
    ·exact .inl z
    ·exact .inr (.inr ⟨w1,(WU hlf d0 d).mp z⟩)
    ·exact absurd z (lx.gdd d)
 ·rcases hp x hx with rfl | ⟨w1,rfl⟩ | lx
  ·exact I.nodes
  ·exact Y6 hlf (hd w1) kn ob
  ·exact lx.nodes dd kn ob
theorem Inv.inB {dd:XQ}{kn:List Kn}{ob:XY}{g:G}{o l s:Int} (I:150) {q:Kn} (hq:q∈kn) (kq:q.kd="handler") {lf:G} (hlf:Lf lf) :
  Inv dd kn ob (.nd (.handle q.nm) [lf,g]) (Builtin.bitOr (o-Builtin.bitAnd o q.x4) q.own) (l-Builtin.bitAnd l q.x4) s:=by
 refine ⟨λ T ag j d hd=>?_,λ T ag j d hd=>?_,λ j d hd=>?_,λ j d hd z=>?_,λ z=>?_,qT ⟨by simp,rfl,q,hq,rfl,kq⟩ λ x hx=>?_⟩
 ·rw [VI,hlf.own,I.own T ag j d hd,zD,wS];show (tb (T q.nm).own j||(false||(!tb (T q.nm).x4 j&&tb o j)))=_;rw [ag q hq];generalize tb o j=A;generalize tb q.own j=B;generalize tb q.x4 j=C
  revert A B C;decide
 ·rw [VI,hlf.lets,zD,wS,wS];show _=((false||(false||(!tb (T q.nm).x4 j&&_)))&&_);rw [ag q hq];have z:=I.lets T ag j d hd
  revert z
  generalize tb o j=A;generalize tb q.own j=B;generalize tb q.x4 j=C;generalize tb l j=L;generalize sm (hL T j) (lL T j ob) g=M
  revert A B C L M;decide
 ·rw [I.seen j d hd,Y1x,decide_eq_true_eq,decide_eq_true_eq,qU];constructor
  ·exact λ z=>.inr ⟨g,by simp,z⟩
  ·rintro (z | ⟨x,hx,z⟩)
   ·cases z
   ·simp only [Y06,Y0p,or_false] at hx;rcases hx with rfl | rfl
    ·exact absurd z (hlf.gdd d)
    ·exact z
 ·rw [zD,wS,Y16,Y0h] at z;rcases z with z | z
  ·exact I.sub j d hd z.1
  ·exact .inr ⟨q,hq,z⟩
 ·rw [I.nl z];rw [show Builtin.bitAnd 0 q.x4=0 from z6l λ k=>by rw [jQ,zm];rfl];rfl
 ·simp only [Y06,Y0p,or_false] at hx;rcases hx with rfl | rfl
  ·exact hlf.nodes dd kn ob
  ·exact I.nodes
theorem Inv.inS {dd:XQ}{kn:List Kn}{ob:XY}{g:G}{o l s bit:Int} (I:150) {q:Kn} (hq:q∈kn) (kq:q.kd="handler") {lf:G} (hlf:Lf lf) {d0:Str} (h0:d0∈dd) (hbit:∀ j d,dd[j]?=some d->tb bit j=decide (d0=d)) :
  Inv dd kn ob (.nd (.handle q.nm) [g,doG d0 lf]) (Builtin.bitOr (Builtin.bitOr o (bit-Builtin.bitAnd bit q.x4)) q.own) l (Builtin.bitOr s bit):=by
 refine ⟨λ T ag j d hd=>?_,λ T ag j d hd=>?_,λ j d hd=>?_,λ j d hd z=>?_,I.nl,qT ⟨by simp,rfl,q,hq,rfl,kq⟩ λ x hx=>?_⟩
 ·rw [VI,z06 hlf,I.own T ag j d hd,zD,zD,wS,hbit j d hd];show (tb (T q.nm).own j||(_||(!tb (T q.nm).x4 j&&_)))=_;rw [ag q hq];generalize tb o j=A;generalize tb q.own j=B;generalize tb q.x4 j=C;generalize decide (d0=d)=E
  revert A B C E;decide
 ·rw [VI,VM hlf,zD,zD,wS];show _=((false||(_||(_&&false)))&&_);have z:=I.lets T ag j d hd
  revert z
  generalize tb o j=A;generalize tb q.own j=B;generalize tb q.x4 j=C;generalize tb l j=L;generalize sm (hL T j) (lL T j ob) g=M;generalize tb bit j=E;rw [Y3m]
  revert A B C L M E;decide
 ·rw [zD,I.seen j d hd,hbit j d hd,Y1x,Y16,decide_eq_true_eq,decide_eq_true_eq,decide_eq_true_eq,qU];constructor
  ·rintro (z | z)
   ·exact .inr ⟨g,by simp,z⟩
   ·exact .inr ⟨_,by simp,(WU hlf d0 d).mpr z⟩
  ·rintro (z | ⟨x,hx,z⟩)
   ·cases z
   ·simp only [Y06,Y0p,or_false] at hx;rcases hx with rfl | rfl
    ·exact .inl z
    ·exact .inr ((WU hlf d0 d).mp z)
 ·rw [zD,zD,wS,Y16,Y16,Y0h] at z;rw [zD,Y16];rcases z with (z | z) | z
  ·exact (I.sub j d hd z).imp .inl id
  ·exact .inl (.inr z.1)
  ·exact .inr ⟨q,hq,z⟩
 ·simp only [Y06,Y0p,or_false] at hx;rcases hx with rfl | rfl
  ·exact I.nodes
  ·exact Y6 hlf h0 kn ob
noncomputable def gD (g:G)(o l s:Int):D:=.tup [g.d,.int o,.int l,.int s]
theorem d0 (k:Kd):(G.nd k []).d=k.enc []:=by rw [G.d,G.ds]
theorem d1 (k:Kd)(a:G):(G.nd k [a]).d=k.enc [a.d]:=by rw [G.d,G.ds,G.ds]
theorem d2 (k:Kd)(a b:G):(G.nd k [a,b]).d=k.enc [a.d,b.d]:=by rw [G.d,G.ds,G.ds,G.ds]
theorem d3 (k:Kd)(a b c:G):(G.nd k [a,b,c]).d=k.enc [a.d,b.d,c.d]:=by rw [G.d,G.ds,G.ds,G.ds,G.ds]
abbrev nu (n:Int):G:=.nd (.num n) []
theorem z1 (k:Kd)(a:G):(G.nd k [a]).size=a.size+1:=by simp only [G.size,G.sizes];omega
theorem z2 (k:Kd)(a b:G):(G.nd k [a,b]).size=a.size+b.size+1:=by simp only [G.size,G.sizes];omega
theorem z3 (k:Kd)(a b c:G):(G.nd k [a,b,c]).size=a.size+b.size+c.size+1:=by simp only [G.size,G.sizes];omega
theorem zn (n:Int):(nu n).size=1:=by simp only [G.size,G.sizes]
section
variable {dd:XQ}{kn:List Kn}{ob:XY}{g:G}{o l s bit:Int}
noncomputable def Neu:Kd->Bool
 | .op _ | .lett _ | .ite | .go | .guard=>true
 | _=>false
theorem VN {k:Kd}(h:Neu k=true):k.hnd=none:=by cases k<;>first | rfl | cases h
theorem VO {k:Kd}(h:Neu k=true)(T:Str->Kn)(j:Nat)(d:Str)(ob:XY):oL T j d ob k=false:=by cases k<;>first | rfl | cases h
theorem Y7 {k:Kd}(h:Neu k=true)(T:Str->Kn)(j:Nat)(ob:XY):lL T j ob k=false:=by cases k<;>first | rfl | cases h
theorem z07 {k:Kd}(h:Neu k=true)(d:Str):WT d k=false:=by cases k<;>first | rfl | cases h
theorem z08 {k:Kd}(h:Neu k=true)(dd:XQ)(kn:List Kn)(ob:XY){n:Nat}(hn:n<=1000):okK dd kn ob k n:=by cases k<;>first | exact ⟨hn,trivial⟩ | cases h
theorem Inv.quiet (I:150){k:Kd}{ps:List G}(hk:Neu k=true)(hg:g∈ps)(hp:∀ x∈ps,x=g\/Lf x)(hn:ps.length<=1000):Inv dd kn ob (.nd k ps) o l s :=
 I.nd (d0:="") (lf:=nu 0) (VN hk) false (Lf.num 0) hg 167 (λ x hx=>(hp x hx).imp id .inr) 167
  (λ T ag j d hd=>by rw [VO hk];simp) (λ T ag j d hd=>by rw [Y7 hk];simp) (λ j d hd=>by rw [z07 hk];simp) (λ j d hd z=>I.sub j d hd z) I.nl (z08 hk dd kn ob hn)
theorem Inv.beside (I:150){k:Kd}{ps:List G}(hk:Neu k=true){e:Str}{lf:G}(hlf:Lf lf)(he:e∈dd)(hbit:∀ j d,dd[j]?=some d->tb bit j=decide (e=d))(hg:g∈ps)(hw:doG e lf∈ps)(hp:∀ x∈ps,x=g\/x=doG e lf\/Lf x)(hn:ps.length<=1000):Inv dd kn ob (.nd k ps) (Builtin.bitOr o bit) l (Builtin.bitOr s bit) :=
 I.nd (d0:=e) (lf:=lf) (VN hk) true hlf hg (λ _=>hw) (λ x hx=>(hp x hx).imp id λ z=>z.imp (λ z=>⟨rfl,z⟩) id) (λ _=>he)
  (λ T ag j d hd=>by rw [VO hk,zD,hbit j d hd];simp) (λ T ag j d hd=>by rw [Y7 hk];simp) (λ j d hd=>by rw [z07 hk,zD,hbit j d hd];simp)
  (λ j d hd z=>by
   rw [zD,Y16] at z ⊢;rcases z with z | z
   ·exact (I.sub j d hd z).imp .inl id
   ·exact .inl (.inr z)) I.nl (z08 hk dd kn ob hn)
theorem Inv.doo (I:150){e:Str}(he:e∈dd)(hbit:∀ j d,dd[j]?=some d->tb bit j=decide (e=d)):Inv dd kn ob (.nd (.doo e) [g]) (Builtin.bitOr o bit) l (Builtin.bitOr s bit) :=
 I.nd (d0:="") (lf:=nu 0) rfl false (Lf.num 0) 111 167 (λ x hx=>.inl (Y0g.mp hx)) 167
  (λ T ag j d hd=>by rw [zD,hbit j d hd];simp [oL]) (λ T ag j d hd=>by simp [lL]) (λ j d hd=>by rw [zD,hbit j d hd];simp [WT])
  (λ j d hd z=>by
   rw [zD,Y16] at z ⊢;rcases z with z | z
   ·exact (I.sub j d hd z).imp .inl id
   ·exact .inl (.inr z)) I.nl ⟨by simp,he⟩
theorem Inv.callB (I:150)(h8:dd.length<=8){b:Str}(hb:ob=some b)(sb:PyData.strOk b=true):Inv dd kn ob (.nd (.call b none) [g]) o (Builtin.bitOr l 255) s :=
 I.nd (d0:="") (lf:=nu 0) rfl false (Lf.num 0) 111 167 (λ x hx=>.inl (Y0g.mp hx)) 167
  (λ T ag j d hd=>by simp [oL,hb]) (λ T ag j d hd=>by
   have:j<8:=by have:=(Y01.mp hd).1;omega
   rw [zD,z74 this];simp [lL,hb]) (λ j d hd=>by simp [WT]) (λ j d hd z=>I.sub j d hd z) (λ z=>by rw [hb] at z;cases z)
  ⟨by simp,sb,(λ x z=>by cases z),λ z=>absurd hb z⟩
theorem Y8 {n:Nat}{x:G}(hx:x∈List.replicate n (nu 6)++[g]):x=g\/Lf x:=by
 rcases Y0r.mp hx with z | z
 ·exact .inr (by rw [(List.mem_replicate.mp z).2];exact Lf.num 6)
 ·exact .inl (Y0g.mp z)
theorem Inv.callG (I:150){b:Str}(hb:ob=some b)(sb:PyData.strOk b=true){q:Kn}(hq:q∈kn)(sq:PyData.strOk q.nm=true)(nq:ob≠some q.nm){n:Nat}(hn:n<=900) :
  Inv dd kn ob (.nd (.call q.nm (some b)) (List.replicate n (nu 6)++[g])) (Builtin.bitOr o q.own) (Builtin.bitOr l q.lets) s :=
 I.nd (d0:="") (lf:=nu 0) rfl false (Lf.num 0) 111 167 (λ x hx=>(Y8 hx).imp id .inr) 167
  (λ T ag j d hd=>by rw [zD,oL,if_neg nq];rw [if_pos hb,ag q hq];simp)
  (λ T ag j d hd=>by
   rw [zD,zD,lL,if_neg nq];rw [if_pos hb,ag q hq];generalize tb l j=A;generalize tb q.lets j=B;generalize tb o j=C;generalize tb q.own j=D
   revert A B C D;decide) (λ j d hd=>by simp [WT])
  (λ j d hd z=>by
   rw [zD,Y16] at z;rcases z with z | z
   ·exact I.sub j d hd z
   ·exact .inr ⟨q,hq,z⟩) (λ z=>by rw [hb] at z;cases z)
  ⟨by simp;omega,sq,(λ x z=>by injection z with z;rw [<- z];exact sb),λ _=>⟨⟨q,hq,rfl⟩,λ x z y=>by injection z with z;exact absurd (z▸hb) y⟩⟩
theorem Inv.callF (I:150){f:Kn}(hf:f∈kn)(sf:PyData.strOk f.nm=true)(nf:ob≠some f.nm){q:Kn}(hq:q∈kn)(sq:PyData.strOk q.nm=true)(nq:ob≠some q.nm){n:Nat}(hn:n<=900) :
  Inv dd kn ob (.nd (.call q.nm (some f.nm)) (List.replicate n (nu 6)++[g])) (Builtin.bitOr (Builtin.bitOr o q.own) (Builtin.bitAnd q.lets f.own)) l s :=
 I.nd (d0:="") (lf:=nu 0) rfl false (Lf.num 0) 111 167 (λ x hx=>(Y8 hx).imp id .inr) 167
  (λ T ag j d hd=>by rw [zD,zD,jQ,oL,if_neg nq];rw [if_neg nf,ag q hq,ag f hf];simp [Y3p])
  (λ T ag j d hd=>by rw [lL,if_neg nq];rw [if_neg nf];simp) (λ j d hd=>by simp [WT])
  (λ j d hd z=>by
   rw [zD,zD,jQ,Y16,Y16,Y0h] at z;rcases z with (z | z) | z
   ·exact I.sub j d hd z
   ·exact .inr ⟨q,hq,z⟩
   ·exact .inr ⟨f,hf,z.2⟩) I.nl
  ⟨by simp;omega,sq,(λ x z=>by injection z with z;rw [<- z];exact sf),λ _=>⟨⟨q,hq,rfl⟩,λ x z y=>by injection z with z;exact ⟨f,hf,z⟩⟩⟩
theorem Inv.callP (I:150){f:Kn}(hf:f∈kn)(sf:PyData.strOk f.nm=true)(nf:ob≠some f.nm) :
  Inv dd kn ob (.nd (.call f.nm none) [g]) (Builtin.bitOr o f.own) l s :=
 I.nd (d0:="") (lf:=nu 0) rfl false (Lf.num 0) 111 167 (λ x hx=>.inl (Y0g.mp hx)) 167
  (λ T ag j d hd=>by rw [zD,oL,if_neg nf];rw [ag f hf];simp)
  (λ T ag j d hd=>by rw [lL,if_neg nf];simp) (λ j d hd=>by simp [WT])
  (λ j d hd z=>by
   rw [zD,Y16] at z;rcases z with z | z
   ·exact I.sub j d hd z
   ·exact .inr ⟨f,hf,z⟩) I.nl
  ⟨by simp,sf,(λ x z=>by cases z),λ _=>⟨⟨f,hf,rfl⟩,λ x z _=>by cases z⟩⟩
theorem Inv.start (dd:XQ)(kn:List Kn)(ob:XY):Inv dd kn ob (.nd (.var "x") []) 0 0 0 :=
 ⟨λ T ag j d hd=>by rw [(Lf.var "x").own,zm],λ T ag j d hd=>by rw [(Lf.var "x").lets,zm],λ j d hd=>by rw [zm];exact (decide_eq_false ((Lf.var "x").gdd d)).symm,λ j d hd z=>(by rw [zm] at z;cases z),λ _=>rfl,(Lf.var "x").nodes dd kn ob⟩
end
section
variable {cl:107}{ρ:En}{h h1 h2:Hh}{e e':E}{p p1 p2 p3 p4:Pos}
theorem jH {x k:Int}(he:e.ev cl ρ h=.ok (.int x) h1)(hk:e'.ev cl ρ h1=.ok (.int k) h2)(z:0<k/\k<1073741824):E.ev cl (.bin .FloorDiv e e' p) ρ h=.ok (.int (x/k)) h2:=bnd he (bnd hk (fdk z))
theorem j7 {x k:Int}(he:e.ev cl ρ h=.ok (.int x) h1)(hk:e'.ev cl ρ h1=.ok (.int k) h2)(z:0<k):E.ev cl (.bin .Mod e e' p) ρ h=.ok (.int (x%k)) h2:=bnd he (bnd hk (mdk z))
theorem yo {x k:Int}(he:e.ev cl ρ h=.ok (.int x) h1)(hk:e'.ev cl ρ h1=.ok (.int k) h2):E.ev cl (.bin .Add e e' p) ρ h=.ok (.int (x+k)) h2:=bnd he (bnd hk rfl)
theorem VP {n:Nat}{xs:153}{i:Int}{d:D}(g:h[n]?=some 178)(h0:0<=i)(q:xs[i.toNat]?=some d):jC 146 187 h=.ok d h:=by
 unfold jC;dsimp only;rw [g];dsimp only;rw [qM h0,q]
theorem qD {n:Nat}{xs:153}{i:Int}{d:D}(he:e.ev cl ρ h=.ok 146 h1)(hi:e'.ev cl ρ h1=.ok 187 h2)(g:h2[n]?=some 178)(h0:0<=i)(q:xs[i.toNat]?=some d):E.ev cl (.sub e e' p) ρ h=.ok d h2:=bnd he (bnd hi (VP g h0 q))
theorem q9 {n:Nat}{xs:153}(he:e.ev cl ρ h=.ok 146 h1)(g:h1[n]?=some 178):E.ev cl (.len e p p1) ρ h=.ok (.int xs.length) h1:=bnd he (by
 show Qz 146 h1=_;unfold Qz;dsimp only;rw [zS g])
theorem wn {x k:Int}(he:e.ev cl ρ h=.ok (.int x) h1)(hk:e'.ev cl ρ h1=.ok (.int k) h2):E.evT cl (.cmp .Eq e e' p) ρ h=.ok (x==k) h2:=zi he hk eqI
theorem z09 {x k:Int}(he:e.ev cl ρ h=.ok (.int x) h1)(hk:e'.ev cl ρ h1=.ok (.int k) h2):E.evT cl (.cmp .Lt e e' p) ρ h=.ok (decide (x<k)) h2:=zi he hk rfl
theorem yU {tg:Tg}{ρ':En}{x:D}{ct:En->Hh->Res Bool}{ce:En->Hh->Res D}(hb:je tg x ρ=some ρ')(hc:ct ρ' h=.ok false h1):j4 tg ρ ct ce x h=.ok none h1:=by
 show (match je tg x ρ with | some ρ'=>(ct ρ' h).bind λ b h1=>if b then (ce ρ' h1).bind λ d h2=>.ok (some d) h2 else .ok none h1 | none=>.no)=_
 rw [hb];exact bnd hc rfl
theorem VQ {r:Es}{b:Bool}(hc:e.evT cl ρ h=.ok b h1):Es.evC cl (.cons e r) ρ h=.ok b h1:=by
 have:=jo hc
 exact bnd this rfl
end
noncomputable def Smp (P:Nat->Prop)(x:Str)(n:Nat):Prop:=(∀ c∈cs x,P c)/\(cs x).length<=n
section
variable {P:Nat->Prop}{x y:Str}{a b:Nat}
theorem Smp.app (hx:Smp P x a)(hy:Smp P y b):Smp P (x++y) (a+b):=by
 have h1:=hx.2;have h2:=hy.2;refine ⟨λ c hc=>?_,by rw [qh,Y0e];omega⟩;rw [qh] at hc;exact (Y0r.mp hc).elim (hx.1 c) (hy.1 c)
theorem z0a (x:Array Nat):∀ (n:Nat) (a:Array Nat),((List.replicate n x).foldl (·++·) a).toList=a.toList++(List.replicate n x.toList).flatten
 | 0,a=>by simp
 | n+1,a=>by rw [Y14,Y1i,z0a x n,Y14];simp
theorem Smp.mul {m:Nat}{j:Int}(hx:Smp P x a)(hj:j<=m):Smp P (Txt.mul x j) (m*a):=by
 unfold Txt.mul;by_cases c1:j<1
 ·rw [if_pos c1];exact ⟨λ c hc=>by simp [cs,Str.empty] at hc,by simp [cs,Str.empty]⟩
 rw [if_neg c1];by_cases c2:(j==1||x.length==0)=true
 ·rw [if_pos c2];exact ⟨hx.1,Y0n hx.2 (Nat.le_mul_of_pos_left a 109)⟩
 rw [if_neg c2];have e:cs ⟨(List.replicate j.toNat x.cps).foldl (·++·) #[]⟩=(List.replicate j.toNat (cs x)).flatten:=by
  unfold cs;rw [z0a];simp
 refine ⟨λ c hc=>?_,?_⟩
 ·rw [e] at hc;obtain ⟨l,hl,hc⟩:=List.mem_flatten.mp hc;rw [(List.mem_replicate.mp hl).2] at hc;exact hx.1 c hc
 ·rw [e,List.length_flatten,List.map_replicate,List.sum_replicate_nat];exact Nat.mul_le_mul 109 hx.2
theorem z4l {i:Int}(hn:(cs x).length<=1000000)(h0:0<=i)(h1:i<(cs x).length):∃ y c,cs y=[c]/\(cs x)[i.toNat]?=some c/\∀ h,jC (.str x) 187 h=.ok (.str y) h:=by
 have hi:i.toNat<(cs x).length:=by omega
 refine ⟨⟨#[(cs x)[i.toNat]]⟩,(cs x)[i.toNat],by simp [cs],Y07 hi,λ h=>?_⟩;show (if x.length<=1000000 then (match atI x.cps.toList i with | some c=>Res.ok (D.str ⟨#[c]⟩) h | none=>.no) else .no)=_
 rw [if_pos (by rw [Wy];omega),qM h0,show x.cps.toList=cs x from rfl,Y07 hi]
theorem z4m (hx:Smp P x a)(hy:Smp P y b)(hl:a+b<=1000000)(h:Hh):jl .Add (.str x) (.str y) h=.ok (.str (x++y)) h:=if_pos (by
 have:=hx.2
 have:=hy.2
 rw [Wy,Wy];omega)
theorem z4n {j:Int}(hx:Smp P x a)(ha:a<=1000)(h0:0<=j)(h1:j<=1000)(h:Hh):jl .Mult (.str x) (.int j) h=.ok (.str (Txt.mul x j)) h:=if_pos ⟨h0,h1,by
 have:=hx.2
 rw [Wy];omega⟩
end
noncomputable def NmK (k:Nat)(x:Str):Prop:=Smp (λ c=>c<1114112/\(c=97+k\/106<=c)) x 100/\97+k∈cs x
theorem NmK.ok {k:Nat}{x:Str}(h:NmK k x):PyData.strOk x=true:=z97 λ c hc=>(h.1.1 c hc).1
theorem NmK.ne {k j:Nat}{x y:Str}(hx:NmK k x)(hy:NmK j y)(hk:k<9)(h:k≠j):x≠y:=λ z=>by
 subst z
 have:=(hy.1.1 _ hx.2).2
 omega
theorem Uk:cs "jqxz"=[106,113,120,122]:=by decide +kernel
theorem Ul:cs "abcdefghi"=[97,98,99,100,101,102,103,104,105]:=by decide +kernel
theorem z75 {k c:Nat}(h:([97,98,99,100,101,102,103,104,105]:List Nat)[k]?=some c):c=97+k:=by
 have hk:k<9:=(Y01.mp h).1
 have:k=0\/k=1\/k=2\/k=3\/k=4\/k=5\/k=6\/k=7\/k=8:=by omega
 rcases this with rfl | rfl | rfl | rfl | rfl | rfl | rfl | rfl | rfl<;>(simp at h;omega)
theorem WV (k:Nat)(c:Int)(hk:k<9):∃ x,NmK k x/\∀ cl h,d_law_name.run cl [.int k,.int c] h=.ok (.str x) h:=by
 obtain ⟨fl,f0,f1,f2,f3⟩:=z4l (x:="jqxz") (i:=c/64%4) (by rw [Uk];decide) 109 (by rw [Uk];simp;omega);obtain ⟨a,a0,a1,a2,a3⟩:=z4l (x:="abcdefghi") (i:=k) (by rw [Ul];decide) 109 (by rw [Ul];simp;omega);rw [Uk] at f2;rw [Ul,show ((k:Nat):Int).toNat=k from by omega] at a2;have ha:=z75 a2;have hf:=Y0v f2;simp only [Y06,Y0p,or_false] at hf;have sf:Smp (λ c=>c<1114112/\(c=97+k\/106<=c)) fl 1:=⟨λ x hx=>by rw [f1,Y0g] at hx;subst hx;omega,by rw [f1];simp⟩;have sa:Smp (λ c=>c<1114112/\(c=97+k\/106<=c)) a 1:=⟨λ x hx=>by rw [a1,Y0g] at hx;subst hx;omega,by rw [a1];simp⟩;obtain ⟨n,en⟩:∃ n,n=1+c%8:=125;have hn:1<=n/\n<=8:=by omega
 obtain ⟨t,et⟩:∃ t,t=c/8%n:=125;have ht:0<=t/\t<n:=by rw [et];exact ⟨Y2m _ 109,Y24 _ 109⟩
 have m1:Smp (λ c=>c<1114112/\(c=97+k\/106<=c)) (Txt.mul fl t) (8*1):=sf.mul 109;have m2:Smp (λ c=>c<1114112/\(c=97+k\/106<=c)) (Txt.mul fl (n-1-t)) (8*1):=sf.mul 109;have s1:=m1.app sa;have s2:=s1.app m2;refine ⟨Txt.mul fl t++a++Txt.mul fl (n-1-t),⟨⟨s2.1,Y0n s2.2 108⟩,?_⟩,λ cl h=>?_⟩
 ·rw [qh,qh,a1,ha];simp
 ·subst en;subst et;exact zg (zd (yo rfl 196) (zd (j7 182 rfl 109) (zd (bnd rfl (bnd (j7 182 rfl 108) (f3 h)))
   (zj (bnd (bnd (bnd rfl (bnd rfl (z4n sf 108 ht.1 109 h))) (bnd (bnd rfl (bnd rfl (a3 h))) (z4m m1 sa 108 h))) (bnd (bnd rfl (bnd rfl (z4n sf 108 109 109 h))) (z4m s1 m2 108 h)))))))
open Classical in
noncomputable def nmv (k:Nat)(c:Int):Str:=if h:k<9 then Classical.choose (WV k c h) else ""
theorem Um {k:Nat}{c:Int}(h:k<9):NmK k (nmv k c):=by
 unfold nmv;rw [dif_pos h];exact (Classical.choose_spec (WV k c h)).1
theorem z76 {k:Nat}{c:Int}(hk:k<9)(cl:107)(h:Hh):d_law_name.run cl [.int k,.int c] h=.ok (.str (nmv k c)) h:=by
 unfold nmv;rw [dif_pos hk];exact (Classical.choose_spec (WV k c hk)).2 cl h
theorem z77 (cl:107)(h:Hh)(ns:195)(i:Int)(hi:0<=i):d_law_cell.run cl [scr ns,.int i] h=.ok (.int (wf ns i)) h:=by
 by_cases c:i<(ns.length:Int)
 ·exact zg (ja (zi rfl 174 (by show Res.ok (D.bl (decide _)) _=_;rw [Y04,decide_eq_true c])) (zj (bnd rfl (bnd rfl (by show (match atI (ns.map D.int) i with | some d=>Res.ok d h | none=>.no)=_;rw [z6i ns i hi c])))))
 ·rw [Bt ns i c];exact zg (zx (zi rfl 174 (by show Res.ok (D.bl (decide _)) _=_;rw [Y04,decide_eq_false c])) (zj rfl))
noncomputable def Uo (cl:107)(i:Nat):Prop:=∀ (k:Nat) (c:Int) (h:Hh),k<9->cl i [.int k,.int c] h=.ok (.str (nmv k c)) h
noncomputable def NmsK (l:XQ):Prop:=∀ k x,l[k]?=some x->NmK k x
theorem NmsK.nodup {l:XQ}(h:NmsK l)(hl:l.length<=9):l.Nodup:=by
 refine Y0y.mpr λ i j hi hj hij z=>?_;exact (h i _ (Y07 hi)).ne (h j _ (Y07 hj)) 109 109 z
theorem z3d (cl:107)(N:Uo cl 25)(m c:Int)(hm:1<=m/\m<=8)(h:Hh) :
  ∃ nms:List Str,d_law_names.run cl [.int m,.int c] h=.ok 121 (h++[.lst (txs nms)])/\nms.length=m.toNat/\NmsK nms:=by
 refine ⟨(List.range m.toNat).map λ k=>nmv k (c+k*9*(c/256%2)),?_,by simp,λ k x hx=>?_⟩
 ·have key:=zW (λ k:Nat=>D.int k) (c:=[]) (f:=j4 Ja (jE [none,some 1] [some (.int m),some (.int c)]) (λ ρ' h2=>c_law_names_1.evC cl ρ' h2) (λ ρ' h2=>e_law_names_1.ev cl ρ' h2)) (h:=h) zu (λ k=>some (.str (nmv k (c+k*9*(c/256%2))))) (List.range m.toNat) [] (λ k hk=>by
   have hk:=Y1l.mp hk;have z2:c/256%2=0\/c/256%2=1:=by omega
   exact jK rfl rfl (zC rfl (cns (yo rfl (bnd (bnd rfl (bnd rfl (mlk (qg 109) (qg 108)))) (bnd (j7 182 rfl 108) (mlk (qg 109) (qg 109))))) rfl) (N k _ h 109)))
  rw [jX,Y0s] at key;have em:(List.range m.toNat).map (λ k:Nat=>D.str (nmv k (c+k*9*(c/256%2))))=txs ((List.range m.toNat).map λ k=>nmv k (c+k*9*(c/256%2))):=by unfold txs;rw [Y10];rfl
  rw [em] at key;exact zg (zj (zT (q:=([],(List.range m.toNat).map λ k:Nat=>D.int k)) (QO rfl 109) 175 key))
 ·rw [Y0l] at hx;have hk:k<m.toNat:=by
   rcases Nat.lt_or_ge k m.toNat with z | z
   ·exact z
   ·rw [Y1s (by simpa using z)] at hx;cases hx
  rw [List.getElem?_range hk] at hx;cases hx;exact Um 109
noncomputable def pkD:Option Kn->D
 | none=>.non
 | some q=>q.d
structure KnsOk (kn:List Kn)(ob:XY):Prop where
 sn:∀ q∈kn,PyData.strOk q.nm=true
 sk:∀ q∈kn,PyData.strOk q.kd=true
 op:∀ q∈kn,q.kd="open"->1<=q.x4/\q.x4<=2
 nb:∀ q∈kn,ob≠some q.nm
 sb:okO ob
 ln:kn.length<=100
theorem qW:PyData.strOk "open"=true:=by decide +kernel
theorem jS:PyData.strOk "plain"=true:=by decide +kernel
theorem VR {α β:Type}(c:α->Bool)(f:α->β)(l:List α):l.filterMap (λ x=>if c x then some (f x) else none)=(l.filter c).map f:=by
 induction l with
 | nil=>rfl
 | cons x r ih =>
  rw [Y1o,Y3h];cases e:c x<;>simp [ih]
theorem z78 (cl:107)(kn:List Kn)(nk:Nat)(kind:Str)(c:Int)(h:Hh)(hk:h[nk]?=some (.lst (kn.map Kn.d)))(sk:PyData.strOk kind=true)(s2:∀ q∈kn,PyData.strOk q.kd=true)(hl:kn.length<=100) :
  ∃ h' r,d_law_pick.run cl [.loc nk,.str kind,.int c] h=.ok (pkD r) h'/\Kx [] h h'/\(∀ q,r=some q->q∈kn/\q.kd=kind):=by
 have key:=zW Kn.d (c:=[(nk,kn.map Kn.d)]) (f:=j4 WC (jE [none,some 1] [some (.loc nk),some (.str kind),some (.int c),none]) (λ ρ' h2=>c_law_pick_1.evC cl ρ' h2) (λ ρ' h2=>e_law_pick_1.ev cl ρ' h2)) (h:=h) (stay_one.mpr (zS hk)) (λ q=>if q.kd==kind then some q.d else none) kn [] (λ q hq=>by
  have e1:=eqS (h:=h) (s2 q hq) sk;have e2:∀ b,(q.kd==kind)=b->Es.evC cl c_law_pick_1 [some q.d,some (.str kind)] h=.ok b h:=λ b hb=>VQ (zi 112 rfl (by rw [<- hb];exact e1));cases hb:q.kd==kind with
  | true=>rw [if_pos rfl];exact jK rfl (e2 _ hb) rfl
  | false=>rw [if_neg 111];exact yU rfl (e2 _ hb))
 rw [VR,Y0s] at key;obtain ⟨L,eL⟩:∃ L,L=kn.filter λ q=>q.kd==kind:=125;rw [<- eL] at key;have gl:(h++[O.lst (L.map Kn.d)])[h.length]?=some (.lst (L.map Kn.d)):=zo _ _;have st:=λ (o:RS) (k:Ss.run cl (jc 1 d_law_pick.body) [some (.loc nk),some (.str kind),some (.int c),some (.loc h.length)] (h++[O.lst (L.map Kn.d)])=o)=>(zd (i:=3) (zT (wX (ρ:=[some (.loc nk),some (.str kind),some (.int c),none]) rfl hk) (by rw [Y04];omega) key) k:Ss.run cl d_law_pick.body [some (.loc nk),some (.str kind),some (.int c),none] h=o);by_cases z:L=[]
 ·have l0:(L.map Kn.d).length=0:=by rw [z];rfl
  exact ⟨h++[O.lst (L.map Kn.d)],none,zg (st _ (ja ((wn (q9 rfl gl) rfl).trans (by rw [l0];rfl)) (zj rfl))),Kx.app _ _,λ q hq=>by cases hq⟩
 ·have lp:0<L.length:=List.length_pos_iff.mpr z;have m0:0<=c%(L.length:Int):=Y2m _ 109;have m1:c%(L.length:Int)<L.length:=Y24 _ 109;have hi:(c%(L.length:Int)).toNat<L.length:=by omega
  have hm:L[(c%(L.length:Int)).toNat]∈kn.filter λ q=>q.kd==kind:=by rw [<- eL];exact Y3g hi
  obtain ⟨hm1,hm2⟩:=Y1a.mp hm;refine ⟨_,some L[(c%(L.length:Int)).toNat],zg (st _ (zx ((wn (q9 rfl gl) rfl).trans ?_) (zj (qD rfl (j7 rfl (q9 rfl gl) ?_) gl ?_ ?_)))),Kx.app _ _,λ q hq=>by cases hq;exact ⟨hm1,by simpa using hm2⟩⟩
  ·rw [Y04,beq_false_of_ne 109]
  ·rw [Y04];omega
  ·rw [Y04];exact m0
  ·rw [Y04,Y0l,Y07 hi];rfl
noncomputable def WW (cl:107)(i:Nat):Prop:=∀ (kn:List Kn) (nk:Nat) (kind:Str) (c:Int) (h:Hh),h[nk]?=some (.lst (kn.map Kn.d))->PyData.strOk kind=true->(∀ q∈kn,PyData.strOk q.kd=true)->kn.length<=100->∃ h' r,cl i [.loc nk,.str kind,.int c] h=.ok (pkD r) h'/\Kx [] h h'/\(∀ q,r=some q->q∈kn/\q.kd=kind)
theorem z79 (cl:107)(q:Kn)(g:G)(h:Hh)(hq:1<=q.x4/\q.x4<=2) :
  ∃ h',d_law_args.run cl [q.d,g.d] h=.ok (.tup (G.ds (List.replicate (q.x4-1).toNat (nu 6)++[g]))) h'/\Kx [] h h':=by
 have hc:q.x4=1\/q.x4=2:=by omega
 have gl:∀ xs:List D,(h++140++[O.lst xs]++[O.lst [g.d]])[(h++140).length]?=some 178:=λ xs=>zh (zo _ _);have m1:jl .Mult 121 (.int (q.x4-1)) (h++140)=.ok (.loc (h++140).length) (h++140++154):=by
  show z25 121 (.int (q.x4-1)) (h++140)=_;unfold z25;dsimp only;rw [zo];dsimp only;rw [if_pos ⟨by omega,by omega,by decide⟩];rcases hc with e | e<;>rw [e]<;>rfl
 have m2:jl .Add (.loc (h++140).length) (.loc (h++140++154).length) (h++140++154++[O.lst [g.d]])=.ok (.loc (h++140++154++[O.lst [g.d]]).length) (h++140++154++[O.lst [g.d]]++[O.lst (List.replicate (q.x4-1).toNat (.tup [.str "num",.int 6])++[g.d])]):=by
  show GD (.loc _) (.loc _) _=_;unfold GD;dsimp only;rw [gl,zo];dsimp only;rw [if_pos (by rw [List.length_replicate];show _+1<=_;omega)]
 have e:G.ds (List.replicate (q.x4-1).toNat (nu 6)++[g])=List.replicate (q.x4-1).toNat (.tup [.str "num",.int 6])++[g.d]:=by
  rw [yl,w5,w5,List.map_replicate,d0];rfl
 rw [e];refine ⟨_,zg (zj (Uc (bnd (bnd (z6p (cns (zX 139 (show 2<=1000 by decide)) rfl) (show 1<=1000 by decide)) (bnd (bnd 112 174) m1)) (bnd (z6p 119 (show 1<=1000 by decide)) m2)) (zS (zo _ _)))),(Kx.app _ _).trans ((Kx.app _ _).trans ((Kx.app _ _).trans (Kx.app _ _)))⟩
noncomputable def z0b (cl:107)(i:Nat):Prop:=∀ (q:Kn) (g:G) (h:Hh),1<=q.x4/\q.x4<=2->∃ h',cl i [q.d,g.d] h=.ok (.tup (G.ds (List.replicate (q.x4-1).toNat (nu 6)++[g]))) h'/\Kx [] h h'
noncomputable def Sub (ks kn:List Kn):Prop:=(∀ q∈ks,q∈kn)/\ks.length<=100
noncomputable def Gr (dd:XQ)(kn:List Kn)(ob:XY)(g:G)(h:Hh)(r:Res D):Prop:=∃ h' g' o' l' s',r=.ok (gD g' o' l' s') h'/\Kx [] h h'/\Inv dd kn ob g' o' l' s'/\g'.size<=g.size+4
theorem O2 (n:Nat):G.sizes (List.replicate n (nu 6))=n:=by
 induction n with
 | zero=>rw [List.replicate_zero,G.sizes]
 | succ n ih=>rw [Y14,G.sizes,ih,zn];omega
theorem JU (k:Kd)(n:Nat)(g:G):(G.nd k (List.replicate n (nu 6)++[g])).size=g.size+n+1:=by
 rw [G.size,jv,O2,G.sizes,G.sizes];omega
theorem z0c (cl:107)(Pk:WW cl 27)(Ar:z0b cl 28){dd:XQ}{kn ks:List Kn}{ob:XY}{g:G}{o l s:Int}(nk:Nat)(c:Int)(h:Hh)(hk:h[nk]?=some 184)(sub:Sub ks kn)(ok:KnsOk kn ob)(I:150)(h8:dd.length<=8) :
  Gr dd kn ob g h (d_law_called.run cl [.int c,gD g o l s,.loc nk,jq ob] h):=by
 obtain ⟨h1,rg,e1,k1,q1⟩:=Pk ks nk "open" (c/4) h hk qW (λ q hq=>ok.sk q (sub.1 q hq)) sub.2;obtain ⟨h2,rf,e2,k2,q2⟩:=Pk ks nk "plain" (c/32) h1 (k1.2 _ _ hk 111) jS (λ q hq=>ok.sk q (sub.1 q hq)) sub.2;replace q1:∀ q,rg=some q->q∈kn/\q.kd="open":=λ q hq=>⟨sub.1 q (q1 q hq).1,(q1 q hq).2⟩;replace q2:∀ q,rf=some q->q∈kn/\q.kd="plain":=λ q hq=>⟨sub.1 q (q2 q hq).1,(q2 q hq).2⟩;have k12:=k1.trans k2;have st:∀ {x:Res D},jy (Ss.run cl (jc 3 d_law_called.body) 148 h2)=x->d_law_called.run cl [.int c,gD g o l s,.loc nk,jq ob] h=x:=λ {x} k=>by
  rw [<- k];exact congrArg jy (wC rfl rfl (zd (zC rfl (cns rfl (cns 182 rfl)) e1) (zd (zC rfl (cns rfl (cns 182 rfl)) e2) rfl)))
 have tl:Gr dd kn ob g h (jy (Ss.run cl (jc 5 d_law_called.body) 148 h2)):=by
  have t2:Gr dd kn ob g h (jy (Ss.run cl (jc 6 d_law_called.body) 148 h2)):=by
   cases rf with
   | none =>
    refine ⟨h2,.nd .guard [nu 1,g],o,l,s,zg (zx 132 (zj ?_)),k12,I.quiet rfl 111 (λ x hx=>?_) 111,by rw [z2,zn];omega⟩
    ·unfold gD;rw [d2,d0];exact zX (cns (zX (cns rfl (cns (zX 139 (show 2<=1000 by decide)) 119)) (show 3<=1000 by decide)) (cns rfl 139)) (show 4<=1000 by decide)
    ·simp only [Y06,Y0p,or_false] at hx;exact hx.symm.imp id λ z=>by rw [z];exact Lf.num 1
   | some f =>
    obtain ⟨f1,f2⟩:=q2 f rfl;refine ⟨h2,.nd (.call f.nm none) [g],Builtin.bitOr o f.own,l,s,zg (ja 132 (zj ?_)),k12,I.callP f1 (ok.sn f f1) (ok.nb f f1),by rw [z1];omega⟩;unfold gD;rw [d1];exact zX (cns (zX (cns rfl (cns 112 (cns rfl (cns (zX 119 (show 1<=1000 by decide)) rfl)))) (show 4<=1000 by decide)) (cns (bnd rfl (bnd 112 rfl)) 139)) (show 4<=1000 by decide)
  cases rg with
  | none=>exact (congrArg (Gr dd kn ob g h) (congrArg jy (zx (Wz 132) rfl))).mpr t2
  | some q =>
   cases rf with
   | none=>exact (congrArg (Gr dd kn ob g h) (congrArg jy (zx (Bv 132 132) rfl))).mpr t2
   | some f =>
    by_cases z:c%4<3
    ·obtain ⟨f1,f2⟩:=q2 f rfl;obtain ⟨g1,g2⟩:=q1 q rfl;have x4:=ok.op q g1 g2;obtain ⟨h3,e3,k3⟩:=Ar q g h2 x4;refine ⟨h3,.nd (.call q.nm (some f.nm)) (List.replicate (q.x4-1).toNat (nu 6)++[g]),_,l,s,zg (ja (WA 132 132 ((z09 196 rfl).trans (by rw [decide_eq_true z]))) (zj ?_)),k12.trans k3,I.callF f1 (ok.sn f f1) (ok.nb f f1) g1 (ok.sn q g1) (ok.nb q g1) 109,by rw [JU];omega⟩;unfold gD;rw [G.d];exact zX (cns (zX (cns rfl (cns 112 (cns 112 (cns (zC rfl 119 e3) rfl)))) (show 4<=1000 by decide)) (cns (bnd (bnd rfl (bnd 112 rfl)) (bnd (bnd 112 (bnd 112 rfl)) rfl)) 139)) (show 4<=1000 by decide)
    ·exact (congrArg (Gr dd kn ob g h) (congrArg jy (zx (WA 132 132 ((z09 196 rfl).trans (by rw [decide_eq_false z]))) rfl))).mpr t2
 refine (congrArg (Gr dd kn ob g h) (st rfl)).mpr ?_;cases ob with
 | none=>exact (congrArg (Gr dd kn none g h) (congrArg jy (zx (Wz 132) (zx (Wz 132) rfl)))).mpr tl
 | some b =>
  have sb:=ok.sb b rfl;by_cases z:c%4=0
  ·refine ⟨h2,.nd (.call b none) [g],o,Builtin.bitOr l 255,s,zg (ja (Bu 132 ((wn 196 rfl).trans (by rw [z];rfl))) (zj ?_)),k12,I.callB h8 rfl sb,by rw [z1];omega⟩;unfold gD;rw [d1];exact zX (cns (zX (cns rfl (cns rfl (cns rfl (cns (zX 119 (show 1<=1000 by decide)) rfl)))) (show 4<=1000 by decide)) (cns rfl (cns 112 119))) (show 4<=1000 by decide)
  ·refine (congrArg (Gr dd kn (some b) g h) (congrArg jy (zx (Bu 132 ((wn 196 rfl).trans (by rw [beq_false_of_ne z]))) rfl))).mpr ?_;cases rg with
   | none=>exact (congrArg (Gr dd kn (some b) g h) (congrArg jy (zx (Bv 132 132) rfl))).mpr tl
   | some q =>
    by_cases z':c%4=1
    ·obtain ⟨g1,g2⟩:=q1 q rfl;have x4:=ok.op q g1 g2;obtain ⟨h3,e3,k3⟩:=Ar q g h2 x4;refine ⟨h3,.nd (.call q.nm (some b)) (List.replicate (q.x4-1).toNat (nu 6)++[g]),_,_,s,zg (ja (WA 132 132 ((wn 196 rfl).trans (by rw [z'];rfl))) (zj ?_)),k12.trans k3,I.callG rfl sb g1 (ok.sn q g1) (ok.nb q g1) 109,by rw [JU];omega⟩;unfold gD;rw [G.d];exact zX (cns (zX (cns rfl (cns 112 (cns rfl (cns (zC rfl 119 e3) rfl)))) (show 4<=1000 by decide)) (cns (bnd rfl (bnd 112 rfl)) (cns (bnd rfl (bnd 112 rfl)) 119))) (show 4<=1000 by decide)
    ·exact (congrArg (Gr dd kn (some b) g h) (congrArg jy (zx (WA 132 132 ((wn 196 rfl).trans (by rw [beq_false_of_ne z']))) rfl))).mpr tl
section
variable {cl:107}{dd:XQ}{kn ks:List Kn}{ob:XY}{g:G}{o l s:Int}
theorem z3e (Pk:WW cl 27)(nk:Nat)(c bit:Int){e:Str}{lf:G}(h:Hh)(hk:h[nk]?=some 184)(sub:Sub ks kn)(ok:KnsOk kn ob)(I:150)(hlf:Lf lf)(he:e∈dd)(hbit:∀ j d,dd[j]?=some d->tb bit j=decide (e=d)) :
  Gr dd kn ob g h (d_law_under.run cl [.int c,gD g o l s,.loc nk,(doG e lf).d,.int bit] h):=by
 obtain ⟨h1,r,e1,k1,q1⟩:=Pk ks nk "handler" (c/2) h hk jR (λ q hq=>ok.sk q (sub.1 q hq)) sub.2;replace q1:∀ q,r=some q->q∈kn/\q.kd="handler":=λ q hq=>⟨sub.1 q (q1 q hq).1,(q1 q hq).2⟩;refine (congrArg (Gr dd kn ob g h) (congrArg jy (show Ss.run cl d_law_under.body _ h=Ss.run cl (jc 2 d_law_under.body) [some (.int c),some (gD g o l s),some (.loc nk),some (doG e lf).d,some (.int bit),some g.d,some (.int o),some (.int l),some (.int s),some (pkD r)] h1 from wC rfl rfl (zd (zC rfl (cns rfl (cns 182 rfl)) e1) rfl)))).mpr ?_;cases r with
 | none =>
  refine ⟨h1,.nd .guard [g,nu 7],o,l,s,zg (ja 132 (zj ?_)),k1,I.quiet rfl 111 (λ x hx=>?_) 111,by rw [z2,zn];omega⟩
  ·unfold gD;rw [d2,d0];rfl
  ·simp only [Y06,Y0p,or_false] at hx;exact hx.imp id λ z=>by rw [z];exact Lf.num 7
 | some q =>
  obtain ⟨m1,m2⟩:=q1 q rfl;by_cases z:c%2=0
  ·refine ⟨h1,.nd (.handle q.nm) [nu 3,g],_,_,s,zg (zx 132 (ja ((wn 196 rfl).trans (by rw [z];rfl)) (zd rfl (zj ?_)))),k1,I.inB m1 m2 (Lf.num 3),by rw [z2,zn];omega⟩;unfold gD;rw [d2,d0];rfl
  ·refine ⟨h1,.nd (.handle q.nm) [g,doG e lf],_,_,_,zg (zx 132 (zx ((wn 196 rfl).trans (by rw [beq_false_of_ne z])) (zj ?_))),k1,I.inS m1 m2 hlf he hbit,by rw [z2];unfold doG;rw [z1,hlf.size];omega⟩;unfold gD;rw [d2];rfl
noncomputable def ZU (g t:G):List G:=[.nd (.op "+") [g,t],.nd (.op "<") [t,g],.nd (.lett "x") [g,t],.nd (.lett "y") [t,g],.nd .ite [g,t,nu 0],.nd .ite [nu 1,g,t],.nd .ite [t,nu 2,g],.nd .guard [g,t],.nd .guard [t,g],.nd .go [g,t],.nd .go [t,g]]
theorem z3f (g t:G):∀ x∈ZU g t,∃ k ps,x=.nd k ps/\Neu k=true/\g∈ps/\t∈ps/\(∀ x∈ps,x=g\/x=t\/Lf x)/\ps.length<=3/\x.size<=g.size+t.size+2:=by
 have aux:∀ (ps:List G),(∀ x∈ps,x=g\/x=t\/∃ n,x=nu n)->∀ x∈ps,x=g\/x=t\/Lf x:=λ ps h x hx=>(h x hx).imp id λ z=>z.imp id λ ⟨n,e⟩=>by rw [e];exact Lf.num n
 intro x hx;simp only [ZU,Y06,Y0p,or_false] at hx;rcases hx with rfl | rfl | rfl | rfl | rfl | rfl | rfl | rfl | rfl | rfl | rfl <;>
  exact ⟨_,_,rfl,rfl,by simp,by simp,aux _ (by intro x hx;simp only [Y06,Y0p,or_false] at hx;first | (rcases hx with h | h<;>first | exact .inl h | exact .inr (.inl h) | exact .inr (.inr ⟨_,h⟩)) | (rcases hx with h | h | h<;>first | exact .inl h | exact .inr (.inl h) | exact .inr (.inr ⟨_,h⟩))),by simp,by simp only [z2,z3,zn];omega⟩
theorem z0d (i:Int)(h0:0<=i)(h1:i<11)(g t:G)(h:Hh):∃ x h',d_law_beside.run cl [.int i,g.d,t.d] h=.ok x.d h'/\Kx [] h h'/\x∈ZU g t:=by
 have hi:i.toNat<(ZU g t).length:=by show _<11;omega
 have ed:((ZU g t).map G.d)=[.tup [.str "op",.str "+",g.d,t.d],.tup [.str "op",.str "<",t.d,g.d],.tup [.str "let",.str "x",g.d,t.d],.tup [.str "let",.str "y",t.d,g.d],.tup [.str "if",g.d,t.d,.tup [.str "num",.int 0]],.tup [.str "if",.tup [.str "num",.int 1],g.d,t.d],.tup [.str "if",t.d,.tup [.str "num",.int 2],g.d],.tup [.str "guard",g.d,t.d],.tup [.str "guard",t.d,g.d],.tup [.str "go",g.d,t.d],.tup [.str "go",t.d,g.d]]:=by
  simp only [ZU,Y09,Y12,d2,d3,d0,Kd.enc]
 have eg:((ZU g t).map G.d)[i.toNat]?=some ((ZU g t)[i.toNat]).d:=by rw [Y0l,Y07 hi];rfl
 rw [ed] at eg;have a1:∀ (H:Hh) (xs ys:153),xs.length+ys.length<=1000->jl .Add (.loc H.length) (.loc (H++[O.lst xs]).length) (H++[O.lst xs]++[O.lst ys])=.ok (.loc (H++[O.lst xs]++[O.lst ys]).length) (H++[O.lst xs]++[O.lst ys]++[O.lst (xs++ys)]):=λ H xs ys hl=>by
  show GD (.loc _) (.loc _) _=_;unfold GD;dsimp only;rw [zh (zo _ _),zo];dsimp only;rw [if_pos 109]
 refine ⟨(ZU g t)[i.toNat],_,zg (zd (d:=.loc h.length) rfl (zd (bnd rfl (bnd rfl (a1 h _ _ 111))) (zd (bnd rfl (bnd rfl (a1 (h++[_]++[_]) _ _ 111))) (zj (qD rfl rfl (zo _ _) h0 eg))))),(Kx.app _ _).trans ((Kx.app _ _).trans ((Kx.app _ _).trans ((Kx.app _ _).trans (Kx.app _ _)))),Y3g hi⟩
end
noncomputable def Y9 (cl:107)(i:Nat):Prop:=∀ (dd:XQ) (kn ks:List Kn) (ob:XY) (g:G) (o l s:Int) (nk:Nat) (c:Int) (h:Hh),h[nk]?=some 184->Sub ks kn->KnsOk kn ob->Inv dd kn ob g o l s->dd.length<=8->Gr dd kn ob g h (cl i [.int c,gD g o l s,.loc nk,jq ob] h)
noncomputable def VS (cl:107)(i:Nat):Prop:=∀ (dd:XQ) (kn ks:List Kn) (ob:XY) (g:G) (o l s:Int) (nk:Nat) (c bit:Int) (e:Str) (lf:G) (h:Hh),h[nk]?=some 184->Sub ks kn->KnsOk kn ob->Inv dd kn ob g o l s->Lf lf->e∈dd->(∀ j d,dd[j]?=some d->tb bit j=decide (e=d))->Gr dd kn ob g h (cl i [.int c,gD g o l s,.loc nk,(doG e lf).d,.int bit] h)
noncomputable def ZV (cl:107)(i:Nat):Prop:=∀ (i':Int) (g t:G) (h:Hh),0<=i'->i'<11->∃ x h',cl i [.int i',g.d,t.d] h=.ok x.d h'/\Kx [] h h'/\x∈ZU g t
theorem z0e {dd:XQ}{kk:Nat}{e:Str}(nn:dd.Nodup)(hk:dd[kk]?=some e):∀ j d,dd[j]?=some d->tb (1*2 ^ kk) j=decide (e=d):=λ j d hj=>by
 rw [z73,decide_eq_decide];obtain ⟨l1,e1⟩:=Y01.mp hk;obtain ⟨l2,e2⟩:=Y01.mp hj;constructor
 ·intro z;subst z;rw [<- e1,<- e2]
 ·intro z;rcases Y2o j kk with q | q | q
  ·exact absurd (e2.trans (z.symm.trans e1.symm)) (Y0y.mp nn j kk l2 l1 q)
  ·exact q
  ·exact absurd (e1.trans (z.trans e2.symm)) (Y0y.mp nn kk j l1 l2 q)
theorem z7a {k:Int}{h:Hh}(h0:0<=k)(h1:k<=1000):jl .LShift (.int 1) (.int k) h=.ok (.int (1*2 ^ k.toNat)) h:=if_pos ⟨by decide,h0,by omega⟩
section
variable {cl:107}{dd:XQ}{kn ks:List Kn}{ob:XY}{g:G}{o l s:Int}
theorem Gr.bes {x:G}{e:Str}{lf:G}{bit:Int}(I:150)(hlf:Lf lf)(he:e∈dd)(hbit:∀ j d,dd[j]?=some d->tb bit j=decide (e=d))(hx:x∈ZU g (doG e lf)):Inv dd kn ob x (Builtin.bitOr o bit) l (Builtin.bitOr s bit)/\x.size<=g.size+4:=by
 obtain ⟨k,ps,rfl,n1,n2,n3,n4,n5,n6⟩:=z3f g (doG e lf) x hx;refine ⟨I.beside n1 hlf he hbit n2 n3 n4 109,?_⟩;unfold doG at n6;rw [z1,hlf.size] at n6;omega
theorem z3g (Ca:Y9 cl 29)(Un:VS cl 30)(Be:ZV cl 31)(nk nd:Nat)(c:Int)(h:Hh)(hk:h[nk]?=some 184)(sub:Sub ks kn)(hd:h[nd]?=some 144)(ok:KnsOk kn ob)(I:150)(h1:1<=dd.length)(h8:dd.length<=8)(nn:dd.Nodup) :
  Gr dd kn ob g h (d_law_grown.run cl [.int c,gD g o l s,.loc nk,jq ob,.loc nd] h):=by
 obtain ⟨N,eN⟩:∃ N:Int,N=((txs dd).length:Nat):=125;have N1:0<N/\N<1073741824:=by rw [eN,txs_len];omega
 have NN:N=dd.length:=by rw [eN,txs_len]
 have ln:∀ (ρ:En) (i:Nat) (p p1 p2:Pos),ρ[i]?=some (some 138)->E.ev cl (.len (.var i p) p1 p2) ρ h=.ok (.int N) h:=λ ρ i p p1 p2 q=>by rw [eN];exact q9 (by rw [we,q]) hd
 obtain ⟨k,ek⟩:∃ k,k=c%N:=125;obtain ⟨r,er⟩:∃ r,r=c/N:=125;have kb:0<=k/\k<N:=by rw [ek];exact ⟨Y2m _ 109,Y24 _ N1.1⟩
 have kl:k.toNat<dd.length:=by omega
 obtain ⟨e,ee⟩:∃ e,dd[k.toNat]?=some e:=⟨_,Y07 kl⟩;have et:(txs dd)[k.toNat]?=some (.str e):=by unfold txs;rw [Y0l,ee];rfl
 have he:e∈dd:=Y0v ee;have hbit:=z0e nn ee;have sh:∀ h:Hh,jl .LShift (.int 1) (.int k) h=.ok (.int (1*2 ^ k.toNat)) h:=λ h=>z7a kb.1 109;generalize hb:(1*2 ^ k.toNat:Int)=bit at hbit sh;have dd':(doG e (nu (r%1000))).d=.tup [.str "do",.str e,.tup [.str "num",.int (r%1000)]]:=by unfold doG;rw [d1,d0];rfl
 have st:Ss.run cl d_law_grown.body [some (.int c),some (gD g o l s),some (.loc nk),some (jq ob),some 138,none,none,none,none,none,none,none] h=Ss.run cl (jc 4 d_law_grown.body) [some (.int c),some (gD g o l s),some (.loc nk),some (jq ob),some 138,some g.d,some (.int o),some (.int l),some (.int s),some (.int k),some (.int r),some (doG e (nu (r%1000))).d] h:=by
  rw [dd',ek,er];exact wC rfl rfl (zd (j7 rfl (ln _ 4 _ _ _ rfl) N1.1) (zd (jH rfl (ln _ 4 _ _ _ rfl) N1) (zd (zX (cns rfl (cns (qD rfl rfl hd (by rw [<- ek];exact kb.1) (by rw [<- ek];exact et)) (cns (zX (cns rfl (cns 196 rfl)) (show 2<=1000 by decide)) rfl))) (show 3<=1000 by decide)) rfl)))
 refine (congrArg (Gr dd kn ob g h) (congrArg jy st)).mpr ?_;have tm:∀ (ρ:En) (j:Int) (b:Bool) (p p1 p2 p3 p4:Pos),ρ[10]?=some (some (.int r))->decide (r%8<j)=b->E.evT cl (.cmp .Lt (.bin .Mod (.var 10 p) (.int 8 p1) p2) (.int j p3) p4) ρ h=.ok b h:=λ ρ j b p p1 p2 p3 p4 q z=>by rw [<- z];exact z09 (j7 (by rw [we,q]) rfl 108) rfl
 by_cases z0:r%8<2
 ·refine ⟨h,.nd (.doo e) [g],Builtin.bitOr o bit,l,Builtin.bitOr s bit,zg (ja (tm _ 2 true _ _ _ _ _ rfl (decide_eq_true z0)) (zj ?_)),Kx.refl _ _,I.doo he hbit,by rw [z1];omega⟩;unfold gD;rw [d1];exact zX (cns (zX (cns rfl (cns (qD rfl rfl hd kb.1 et) 119)) (show 3<=1000 by decide)) 161) (show 4<=1000 by decide)
 by_cases z5:r%8<5
 ·obtain ⟨h',g',o',l',s',e1,k1,i1,s1⟩:=Ca dd kn ks ob g o l s nk (r/8) h hk sub ok I h8;exact ⟨h',g',o',l',s',zg (zx (tm _ 2 false _ _ _ _ _ rfl (decide_eq_false z0)) (ja (tm _ 5 true _ _ _ _ _ rfl (decide_eq_true z5)) (zj (zC 182 (cns rfl 139) e1)))),k1,i1,s1⟩
 by_cases z7:r%8<7
 ·obtain ⟨h',g',o',l',s',e1,k1,i1,s1⟩:=Un dd kn ks ob g o l s nk (r/8) bit e (nu (r%1000)) h hk sub ok I (Lf.num _) he hbit;exact ⟨h',g',o',l',s',zg (zx (tm _ 2 false _ _ _ _ _ rfl (decide_eq_false z0)) (zx (tm _ 5 false _ _ _ _ _ rfl (decide_eq_false z5)) (ja (tm _ 7 true _ _ _ _ _ rfl (decide_eq_true z7)) (zj (zC 182 (cns rfl (cns rfl (cns rfl (cns (bnd rfl (bnd rfl (sh _))) rfl)))) e1))))),k1,i1,s1⟩
 ·obtain ⟨x,h',e1,k1,m1⟩:=Be (r/8%9) g (doG e (nu (r%1000))) h 109 109;obtain ⟨i1,s1⟩:=Gr.bes I (Lf.num (r%1000)) he hbit m1;exact ⟨h',x,Builtin.bitOr o bit,l,Builtin.bitOr s bit,zg (zx (tm _ 2 false _ _ _ _ _ rfl (decide_eq_false z0)) (zx (tm _ 5 false _ _ _ _ _ rfl (decide_eq_false z5)) (zx (tm _ 7 false _ _ _ _ _ rfl (decide_eq_false z7)) (zj (zX (cns (zC (j7 182 rfl 108) 139 e1) 161) (show 4<=1000 by decide)))))),k1,i1,s1⟩
theorem z7b (Be:ZV cl 31)(nd:Nat)(c:Int)(h:Hh)(hd:h[nd]?=some 144)(I:150)(h1:1<=dd.length)(h8:dd.length<=8)(nn:dd.Nodup) :
  Gr dd kn ob g h (d_law_gone.run cl [.int c,gD g o l s,.loc nd] h):=by
 obtain ⟨N,eN⟩:∃ N:Int,N=((txs dd).length:Nat):=125;have N1:0<N/\N<1073741824:=by rw [eN,txs_len];omega
 have NN:N=dd.length:=by rw [eN,txs_len]
 have ln:∀ (ρ:En) (i:Nat) (p p1 p2:Pos),ρ[i]?=some (some 138)->E.ev cl (.len (.var i p) p1 p2) ρ h=.ok (.int N) h:=λ ρ i p p1 p2 q=>by rw [eN];exact q9 (by rw [we,q]) hd
 obtain ⟨k,ek⟩:∃ k,k=c/4%N:=125;have kb:0<=k/\k<N:=by rw [ek];exact ⟨Y2m _ 109,Y24 _ N1.1⟩
 have kl:k.toNat<dd.length:=by omega
 obtain ⟨e,ee⟩:∃ e,dd[k.toNat]?=some e:=⟨_,Y07 kl⟩;have et:(txs dd)[k.toNat]?=some (.str e):=by unfold txs;rw [Y0l,ee];rfl
 have he:e∈dd:=Y0v ee;have hbit:=z0e nn ee;have sh:∀ h:Hh,jl .LShift (.int 1) (.int k) h=.ok (.int (1*2 ^ k.toNat)) h:=λ h=>z7a kb.1 109;generalize hb:(1*2 ^ k.toNat:Int)=bit at hbit sh;have dd':(doG e (.nd (.var "y") [])).d=.tup [.str "do",.str e,.tup [.str "var",.str "y"]]:=by unfold doG;rw [d1,d0];rfl
 have st:Ss.run cl d_law_gone.body [some (.int c),some (gD g o l s),some 138,none,none,none,none,none] h=Ss.run cl (jc 2 d_law_gone.body) [some (.int c),some (gD g o l s),some 138,some g.d,some (.int o),some (.int l),some (.int s),some (.int k)] h:=by
  rw [ek];exact wC rfl rfl (zd (j7 182 (ln _ 2 _ _ _ rfl) N1.1) rfl)
 refine (congrArg (Gr dd kn ob g h) (congrArg jy st)).mpr ?_;by_cases z:c%4<2
 ·have m2:c%2=0\/c%2=1:=by omega
  have pk:∀ x:G,((([.nd .go [g,nu 5],.nd .go [nu 6,g]]:List G).map G.d)[(c%2).toNat]?=some x.d)->Inv dd kn ob x o l s->x.size<=g.size+4->Gr dd kn ob g h (jy (Ss.run cl (jc 2 d_law_gone.body) [some (.int c),some (gD g o l s),some 138,some g.d,some (.int o),some (.int l),some (.int s),some (.int k)] h)):=λ x hx ix sx=>by
   have ed:(([.nd .go [g,nu 5],.nd .go [nu 6,g]]:List G).map G.d)=[.tup [.str "go",g.d,.tup [.str "num",.int 5]],.tup [.str "go",.tup [.str "num",.int 6],g.d]]:=by
    simp only [Y09,Y12,d2,d0,Kd.enc]
   rw [ed] at hx;exact ⟨_,x,o,l,s,zg (ja ((z09 196 rfl).trans (by rw [decide_eq_true z])) (zj (zX (cns (qD rfl 196 (zo _ _) 109 hx) (cns rfl 139)) (show 4<=1000 by decide)))),Kx.app _ _,ix,sx⟩
  rcases m2 with m2 | m2
  ·exact pk (.nd .go [g,nu 5]) (by rw [m2];rfl) (I.quiet rfl 111 (λ x hx=>by simp only [Y06,Y0p,or_false] at hx;exact hx.imp id λ z=>by rw [z];exact Lf.num 5) 111) (by rw [z2,zn];omega)
  ·exact pk (.nd .go [nu 6,g]) (by rw [m2];rfl) (I.quiet rfl 111 (λ x hx=>by simp only [Y06,Y0p,or_false] at hx;exact hx.symm.imp id λ z=>by rw [z];exact Lf.num 6) 111) (by rw [z2,zn];omega)
 ·obtain ⟨x,h',e1,k1,m1⟩:=Be (9+c%2) g (doG e (.nd (.var "y") [])) h 109 109;obtain ⟨i1,s1⟩:=Gr.bes I (Lf.var "y") he hbit m1;rw [dd'] at e1;exact ⟨h',x,Builtin.bitOr o bit,l,Builtin.bitOr s bit,zg (zx ((z09 196 rfl).trans (by rw [decide_eq_false z])) (zd (zC (yo rfl 196) (cns rfl (cns (zX (cns rfl (cns (qD rfl rfl hd kb.1 et) 119)) (show 3<=1000 by decide)) rfl)) e1) (zj (zX (cns rfl 161) (show 4<=1000 by decide))))),k1,i1,s1⟩
end
noncomputable def qX (cl:107)(i:Nat):Prop:=∀ (dd:XQ) (kn ks:List Kn) (ob:XY) (g:G) (o l s:Int) (nk nd:Nat) (c:Int) (h:Hh),h[nk]?=some 184->Sub ks kn->h[nd]?=some 144->KnsOk kn ob->Inv dd kn ob g o l s->1<=dd.length->dd.length<=8->dd.Nodup->Gr dd kn ob g h (cl i [.int c,gD g o l s,.loc nk,jq ob,.loc nd] h)
noncomputable def z0f (cl:107)(i:Nat):Prop:=∀ (dd:XQ) (kn:List Kn) (ob:XY) (g:G) (o l s:Int) (nd:Nat) (c:Int) (h:Hh),h[nd]?=some 144->Inv dd kn ob g o l s->1<=dd.length->dd.length<=8->dd.Nodup->Gr dd kn ob g h (cl i [.int c,gD g o l s,.loc nd] h)
noncomputable def Bd (dd:XQ)(kn:List Kn)(ob:XY)(n:Nat)(h:Hh)(r:Res D):Prop:=∃ h' g o l s,r=.ok (gD g o l s) h'/\Kx [] h h'/\Inv dd kn ob g o l s/\g.size<=n
structure Dd (dd:XQ):Prop where
 l1:1<=dd.length
 l8:dd.length<=8
 nn:dd.Nodup
section
variable {cl:107}{dd:XQ}{kn ks:List Kn}{ob:XY}
theorem JV (Gw:qX cl 32)(nk nd nc:Nat)(all:153)(sub:Sub ks kn)(ok:KnsOk kn ob)(D8:Dd dd):∀ (cs:195) (g:G) (o l s:Int) (x:Option D) (h:Hh),rd h nc=some all->h[nk]?=some 184->h[nd]?=some 144->Inv dd kn ob g o l s ->
  ∃ h' g' o' l' s' x',zH [(nc,all)] (zO WD λ ρ' h'=>b_law_body_1.run cl ρ' h') (cs.map D.int) [some (.loc nc),some (.loc nk),some (jq ob),some 138,some (gD g o l s),x] h=.nx [some (.loc nc),some (.loc nk),some (jq ob),some 138,some (gD g' o' l' s'),x'] h'/\Kx [] h h'/\Inv dd kn ob g' o' l' s'/\g'.size<=g.size+4*cs.length
 | [],g,o,l,s,x,h,hc,hk,hd,I=>⟨h,g,o,l,s,x,by rw [Y12,zH,if_pos (stay_one.mpr hc)],Kx.refl _ _,I,by simp⟩
 | c::cs,g,o,l,s,x,h,hc,hk,hd,I=>by
  obtain ⟨h1,g1,o1,l1,s1,e1,k1,i1,z1⟩:=Gw dd kn ks ob g o l s nk nd c h hk sub hd ok I D8.l1 D8.l8 D8.nn;have hc1:rd h1 nc=some all:=by
   unfold rd at hc ⊢;split at hc
   ·rename_i xs e;rw [k1.2 _ _ e 111];exact hc
   ·cases hc
  obtain ⟨h2,g2,o2,l2,s2,x2,e2,k2,i2,z2⟩:=JV Gw nk nd nc all sub ok D8 cs g1 o1 l1 s1 (some (.int c)) h1 hc1 (k1.2 _ _ hk 111) (k1.2 _ _ hd 111) i1;exact ⟨h2,g2,o2,l2,s2,x2,QN (stay_one.mpr hc) (zd (zC rfl (cns rfl (cns rfl 139)) e1) rfl) e2,k1.trans k2,i2,by rw [Y08];omega⟩
theorem z7c (Gw:qX cl 32)(nk nd nc:Nat)(cs:195)(h:Hh)(hc:h[nc]?=some 198)(hk:h[nk]?=some 184)(hd:h[nd]?=some 144)(sub:Sub ks kn)(ok:KnsOk kn ob)(D8:Dd dd) :
  Bd dd kn ob (1+4*cs.length) h (d_law_body.run cl [.loc nc,.loc nk,jq ob,.loc nd] h):=by
 obtain ⟨h',g',o',l',s',x',e,k,i,z⟩:=JV Gw nk nd nc _ sub ok D8 cs (.nd (.var "x") []) 0 0 0 none h (zS hc) hk hd (Inv.start dd kn ob);rw [(Lf.var "x").size] at z;have e0:gD (.nd (.var "x") []) 0 0 0=.tup [.tup [.str "var",.str "x"],.int 0,.int 0,.int 0]:=by unfold gD;rw [d0];rfl
 rw [e0] at e;exact ⟨h',g',o',l',s',zg (zd rfl (jp (wX rfl hc) e (zj rfl))),k,i,z⟩
noncomputable def WX (cl:107)(i:Nat):Prop:=∀ (dd:XQ) (kn ks:List Kn) (ob:XY) (nk nd nc:Nat) (cs:195) (h:Hh),h[nc]?=some 198->h[nk]?=some 184->h[nd]?=some 144->Sub ks kn->KnsOk kn ob->Dd dd->Bd dd kn ob (1+4*cs.length) h (cl i [.loc nc,.loc nk,jq ob,.loc nd] h)
theorem VT (Gw:qX cl 32)(c nc at':D)(nk nd ncc:Nat)(all:153)(sub:Sub ks kn)(ok:KnsOk kn none)(D8:Dd dd):∀ (cs:195) (g:G) (o l s:Int) (x:Option D) (h:Hh),rd h ncc=some all->h[nk]?=some 184->h[nd]?=some 144->Inv dd kn none g o l s ->
  ∃ h' g' o' l' s' x',zH [(ncc,all)] (zO ZI λ ρ' h'=>b_law_clause_1.run cl ρ' h') (cs.map D.int) [some c,some nc,some (.loc nk),some 138,some at',some (gD g o l s),x] h=.nx [some c,some nc,some (.loc nk),some 138,some at',some (gD g' o' l' s'),x'] h'/\Kx [] h h'/\Inv dd kn none g' o' l' s'/\g'.size<=g.size+4*cs.length
 | [],g,o,l,s,x,h,hc,hk,hd,I=>⟨h,g,o,l,s,x,by rw [Y12,zH,if_pos (stay_one.mpr hc)],Kx.refl _ _,I,by simp⟩
 | y::cs,g,o,l,s,x,h,hc,hk,hd,I=>by
  obtain ⟨h1,g1,o1,l1,s1,e1,k1,i1,z1⟩:=Gw dd kn ks none g o l s nk nd y h hk sub hd ok I D8.l1 D8.l8 D8.nn;have hc1:rd h1 ncc=some all:=by
   unfold rd at hc ⊢;split at hc
   ·rename_i xs e;rw [k1.2 _ _ e 111];exact hc
   ·cases hc
  obtain ⟨h2,g2,o2,l2,s2,x2,e2,k2,i2,z2⟩:=VT Gw c nc at' nk nd ncc all sub ok D8 cs g1 o1 l1 s1 (some (.int y)) h1 hc1 (k1.2 _ _ hk 111) (k1.2 _ _ hd 111) i1;exact ⟨h2,g2,o2,l2,s2,x2,QN (stay_one.mpr hc) (zd (zC rfl (cns rfl (cns rfl 139)) e1) rfl) e2,k1.trans k2,i2,by rw [Y08];omega⟩
theorem z9j (cs:195)(lo hi:Option Int):∃ cs':List Int,wF (cs.map D.int) lo hi=cs'.map D.int/\cs'.length<=cs.length:=by
 unfold wF;rw [<- List.map_drop,<- List.map_take];exact ⟨_,rfl,by rw [Y2e,Y3x];omega⟩
theorem z4o {ρ:En}{h h1:Hh}{e:E}{lo hi:Eo}{p p1:Pos}{n:Nat}{xs:153}{a b:Option Int}(he:e.ev cl ρ h=.ok 146 h1)(hl:lo.ev cl ρ h1=.ok a h1)(hh:hi.ev cl ρ h1=.ok b h1)(g:h1[n]?=some 178):E.ev cl (.cut e lo hi p p1) ρ h=.ok (.loc h1.length) (h1++[.lst (wF xs a b)]):=bnd he (bnd hl (bnd hh (by
 show yG 146 a b h1=_;unfold yG;dsimp only;rw [zS g];rfl)))
noncomputable def noH (ks:List Kn):List Kn:=ks.filter λ q=>!(q.kd=="handler")
theorem VU (sub:Sub ks kn):Sub (noH ks) kn:=⟨λ q hq=>sub.1 q (Y1a.mp hq).1,Y0n (Y2r _ _) sub.2⟩
theorem Ya {ρ:En}{h:Hh}{nk:Nat}{tg:Tg}{ct:Es}{elt:E} (hk:h[nk]?=some 184) (sk:∀ q∈ks,PyData.strOk q.kd=true) (hct:∃ p1 p2 p3 p4 p5,ct=.cons (.cmp .NotEq (.sub (.var 0 p1) (.int 0 p2) p3) (.str "handler" p4) p5) .nil) (htg:∃ p,tg=.one 0 p) (hel:∃ p,elt=.var 0 p) :
  jJ [(nk,ks.map Kn.d)] (j4 tg (jE [none] ρ) (λ ρ' h2=>ct.evC cl ρ' h2) (λ ρ' h2=>elt.ev cl ρ' h2)) (ks.map Kn.d) [] h=.ok ((noH ks).map Kn.d) h:=by
 obtain ⟨p1,p2,p3,p4,p5,rfl⟩:=hct;obtain ⟨p6,rfl⟩:=htg;obtain ⟨p7,rfl⟩:=hel;have key:=zW Kn.d (c:=[(nk,ks.map Kn.d)]) (f:=j4 (.one 0 p6) (jE [none] ρ) (λ ρ' h2=>Es.evC cl (.cons (.cmp .NotEq (.sub (.var 0 p1) (.int 0 p2) p3) (.str "handler" p4) p5) .nil) ρ' h2) (λ ρ' h2=>E.ev cl (.var 0 p7) ρ' h2)) (h:=h) (stay_one.mpr (zS hk)) (λ q=>if !(q.kd=="handler") then some q.d else none) ks [] (λ q hq=>by
  have e1:=neS (h:=h) (sk q hq) jR;have e2:∀ b,(!(q.kd=="handler"))=b->Es.evC cl (.cons (.cmp .NotEq (.sub (.var 0 p1) (.int 0 p2) p3) (.str "handler" p4) p5) .nil) [some q.d] h=.ok b h:=λ b hb=>VQ (zi 112 rfl (by rw [<- hb];exact e1));cases hb:!(q.kd=="handler") with
  | true=>rw [if_pos rfl];exact jK rfl (e2 _ hb) rfl
  | false=>rw [if_neg 111];exact yU rfl (e2 _ hb))
 rw [VR,Y0s] at key;exact key
theorem O3 (Gw:qX cl 32)(Go:z0f cl 33)(Bo:WX cl 34)(c:Int)(nk nd nc:Nat)(cs:195)(h:Hh)(hc:h[nc]?=some 198)(hk:h[nk]?=some 184)(hd:h[nd]?=some 144)(sub:Sub ks kn)(ok:KnsOk kn none)(D8:Dd dd)(hl:cs.length<=63) :
  Bd dd kn none (5+8*cs.length) h (d_law_clause.run cl [.int c,.loc nc,.loc nk,.loc nd] h):=by
 obtain ⟨N,eN⟩:∃ N:Int,N=((cs.map D.int).length:Nat):=125;have NN:N=cs.length:=by rw [eN,Y04]
 have ln:∀ (h:Hh) (ρ:En) (i:Nat) (p p1 p2:Pos),h[nc]?=some 198->ρ[i]?=some (some (.loc nc))->E.ev cl (.len (.var i p) p1 p2) ρ h=.ok (.int N) h:=λ h ρ i p p1 p2 hc q=>by rw [eN];exact q9 (by rw [we,q]) hc
 obtain ⟨t,et⟩:∃ t,t=c%(N+2):=125;obtain ⟨c1,y1,y2⟩:=z9j cs none (some t);obtain ⟨c2,y3,y4⟩:=z9j cs (some t) none;have k0:Kx [] h (h++[O.lst (c1.map D.int)]):=Kx.app _ _;obtain ⟨h1,g1,o1,l1,s1,e1,k1,i1,w1⟩:=Bo dd kn ks none nk nd h.length c1 (h++[O.lst (c1.map D.int)]) (zo _ _) (zh hk) (zh hd) sub ok D8;have k01:=k0.trans k1;have hc1:=k01.2 _ _ hc 111;have hk1:=k01.2 _ _ hk 111;have hd1:=k01.2 _ _ hd 111;have st:∀ {x:RS},Ss.run cl (jc 2 d_law_clause.body) [some (.int c),some (.loc nc),some (.loc nk),some 138,some (.int t),some (gD g1 o1 l1 s1),none] h1=x->Ss.run cl d_law_clause.body [some (.int c),some (.loc nc),some (.loc nk),some 138,none,none,none] h=x:=λ {x} k=>by
  have e0:=z4o (cl:=cl) (ρ:=[some (.int c),some (.loc nc),some (.loc nk),some 138,some (.int t),none,none]) (e:=.var 1 123) (lo:=.none) (hi:=.some (.var 4 123)) (p:=123) (p1:=123) rfl rfl (yk rfl) hc;rw [y1] at e0;rw [<- k];refine zd (d:=.int t) (by rw [et];exact j7 rfl (yo (ln h _ 1 _ _ _ hc rfl) rfl) 109) (zd (zC e0 (cns rfl 139) e1) rfl)
 by_cases z:N<t
 ·exact ⟨h1,g1,o1,l1,s1,zg (st (ja (zi rfl (ln h1 _ 1 _ _ _ hc1 rfl) (by show Res.ok (D.bl (decide _)) _=_;rw [decide_eq_true z])) (zj rfl))),k01,i1,by omega⟩
 ·obtain ⟨h2,g2,o2,l2,s2,e2,k2,i2,w2⟩:=Go dd kn none g1 o1 l1 s1 nd (c/(N+2)) h1 hd1 i1 D8.l1 D8.l8 D8.nn;have hk2:=k2.2 _ _ hk1 111;have k012:=k01.trans k2;have hk3:(h2++[O.lst ((noH ks).map Kn.d)])[h2.length]?=some (.lst ((noH ks).map Kn.d)):=zo _ _;have hc3:(h2++[O.lst ((noH ks).map Kn.d)])[nc]?=some 198:=zh (k2.2 _ _ hc1 111);have hd3:(h2++[O.lst ((noH ks).map Kn.d)])[nd]?=some 144:=zh (k2.2 _ _ hd1 111);have k3:Kx [] h2 (h2++[O.lst ((noH ks).map Kn.d)]):=Kx.app _ _;have cp:=Ya (cl:=cl) (ρ:=[some (.int c),some (.loc nc),some (.loc nk),some 138,some (.int t),some (gD g2 o2 l2 s2),none]) (tg:=ZN) (ct:=ZM) (elt:=ZJ) hk2 (λ q hq=>ok.sk q (sub.1 q hq)) ⟨_,_,_,_,_,rfl⟩ 125 125;generalize hh3:h2++[O.lst ((noH ks).map Kn.d)]=h3 at hk3 hc3 hd3 k3;have e0:=z4o (cl:=cl) (ρ:=[some (.int c),some (.loc nc),some (.loc h2.length),some 138,some (.int t),some (gD g2 o2 l2 s2),none]) (e:=.var 1 123) (lo:=.some (.var 4 123)) (hi:=.none) (p:=123) (p1:=123) rfl (yk rfl) rfl hc3;rw [y3] at e0;obtain ⟨h4,g4,o4,l4,s4,x4,e4,k4,i4,w4⟩:=VT Gw (.int c) (.loc nc) (.int t) h2.length nd h3.length (c2.map D.int) (VU sub) ok D8 c2 g2 o2 l2 s2 none (h3++[O.lst (c2.map D.int)]) (zS (zo _ _)) (zh hk3) (zh hd3) i2;refine ⟨h4,g4,o4,l4,s4,zg (st (zx (zi rfl (ln h1 _ 1 _ _ _ hc1 rfl) (by show Res.ok (D.bl (decide _)) _=_;rw [decide_eq_false z])) (zd (zC (jH rfl (yo (ln h1 _ 1 _ _ _ hc1 rfl) rfl) 109) 139 e2) (zd (zT (wX rfl hk2) (by rw [Y04];have:=sub.2;omega) cp) ?_)))),k012.trans (k3.trans ((Kx.app _ _).trans k4)),i4,by omega⟩;rw [hh3];exact jp (wX e0 (zo _ _)) e4 (zj rfl)
noncomputable def z4p (cl:107)(i:Nat):Prop:=∀ (dd:XQ) (kn ks:List Kn) (c:Int) (nk nd nc:Nat) (cs:195) (h:Hh),h[nc]?=some 198->h[nk]?=some 184->h[nd]?=some 144->Sub ks kn->KnsOk kn none->Dd dd->cs.length<=63->Bd dd kn none (5+8*cs.length) h (cl i [.int c,.loc nc,.loc nk,.loc nd] h)
end
abbrev nD (k:Nat):D:=.int k
noncomputable def mkC (dd:XQ)(t:Int)(g:G):Nat->List Nat->List (Str×G)
 | _,[]=>[]
 | j,k::r=>(dd.getD k "",if (j:Int)=t then g else nu j)::mkC dd t g (j+1) r
theorem yp (dd:XQ)(t:Int)(g:G):∀ (j:Nat) (r:List Nat),(mkC dd t g j r).map (·.1)=r.map λ k=>dd.getD k ""
 | _,[]=>rfl
 | j,k::r=>by rw [mkC,Y09,yp dd t g (j+1) r];rfl
theorem Yb (dd:XQ)(t:Int)(g:G):∀ (j:Nat) (r:List Nat),∀ c∈mkC dd t g j r,c.2=g\/Lf c.2
 | _,[],c,hc=>by cases hc
 | j,k::r,c,hc=>by
  rw [mkC] at hc;rcases Y06.mp hc with rfl | hc
  ·show (if (j:Int)=t then g else nu j)=g\/Lf (if (j:Int)=t then g else nu j)
   split
   ·exact .inl rfl
   ·exact .inr (Lf.num _)
  ·exact Yb dd t g (j+1) r c hc
theorem VW (dd:XQ)(t:Int)(g:G):∀ (j:Nat) (r:List Nat),(j:Int)<=t->t<j+r.length->∃ c∈mkC dd t g j r,c.2=g
 | j,[],h1,h2=>by simp at h2;omega
 | j,k::r,h1,h2=>by
  rw [mkC];by_cases e:(j:Int)=t
  ·exact ⟨_,Y05,by show (if (j:Int)=t then g else nu j)=g;rw [if_pos e]⟩
  ·obtain ⟨c,hc,q⟩:=VW dd t g (j+1) r 109 (by rw [Y08] at h2;omega);exact ⟨c,Y03 _ hc,q⟩
theorem JW (dd:XQ)(t:Int)(g:G):∀ (j:Nat) (r:List Nat),G.sizes ((mkC dd t g j r).map (·.2))<=r.length+(if (j:Int)<=t then g.size else 0)
 | j,[]=>by rw [mkC,Y12,G.sizes];omega
 | j,k::r=>by
  have ih:=JW dd t g (j+1) r;rw [mkC,Y09,G.sizes,Y08];show (if (j:Int)=t then g else nu j).size+_<=_;by_cases e:(j:Int)=t
  ·rw [if_pos e,if_pos 109];rw [if_neg 109] at ih;omega
  ·rw [if_neg e,zn];split at ih
   ·rw [if_pos 109];omega
   ·split<;>omega
section
variable {cl:107}{dd:XQ}
theorem VX (x0 x1 x2 x3 x8 x9 x10 x12:Option D)(nd ns ncl:Nat)(t:Int)(g:G)(sel:List Nat)(hs9:sel.length<=100)(hsel:∀ k∈sel,k<dd.length)(hl:dd.length<=8)(n1:ns≠ncl)(n2:nd≠ncl):∀ (rest dn:List Nat) (A:List (Str×G)) (row:Int) (a b:Option D) (h:Hh),sel=dn++rest->A.length=dn.length->h[ns]?=some (.lst (sel.map nD))->h[nd]?=some 144->h[ncl]?=some (.lst (A.map clD))->rest.Nodup->(∀ k∈rest,tb row k=false) ->
  ∃ h' row' a' b',zH [] (zO wH λ ρ' h'=>b_law_handler_1.run cl ρ' h') ((List.range' dn.length rest.length).map nD) [x0,x1,x2,x3,some 138,some (.loc ns),some (.int t),some g.d,x8,x9,x10,some (.loc ncl),x12,some (.int row),a,b] h=.nx [x0,x1,x2,x3,some 138,some (.loc ns),some (.int t),some g.d,x8,x9,x10,some (.loc ncl),x12,some (.int row'),a',b'] h'/\Kx [ncl] h h'/\h'[ncl]?=some (.lst ((A++mkC dd t g dn.length rest).map clD))/\∀ k,tb row' k=(tb row k||decide (k∈rest))
 | [],dn,A,row,a,b,h,e,hA,hs,hd,hc,nn,hb=>⟨h,row,a,b,by rw [Y2y,List.range'_zero,Y12,zH,if_pos zu],Kx.refl _ _,by rw [mkC,Y13];exact hc,λ k=>by simp⟩
 | k::rest,dn,A,row,a,b,h,e,hA,hs,hd,hc,nn,hb=>by
  have hk:k∈sel:=by rw [e];simp
  have kl:=hsel k hk;have dl:dn.length<sel.length:=by rw [e];simp
  have s1:(sel.map nD)[((dn.length:Nat):Int).toNat]?=some (.int (k:Nat)):=by
   rw [show ((dn.length:Nat):Int).toNat=dn.length by omega,Y0l,e,Y0m 169,Y1q];rfl
  have s2:(txs dd)[((k:Nat):Int).toNat]?=some (.str (dd.getD k "")):=by
   rw [show ((k:Nat):Int).toNat=k by omega];unfold txs;rw [Y0l,Y0j,Y07 kl];rfl
  have sh:jl .LShift (.int 1) (.int (k:Nat)) (h.set ncl (.lst 136))=.ok (.int (1*2 ^ k)) _:=z7a (k:=(k:Nat)) 109 109;have hs':=j5 (o:=O.lst 136) hs n1;have hd':=j5 (o:=O.lst 136) hd n2;have lA:(A.map clD).length<1000000:=by rw [Y04];omega
  have st:zO wH (λ ρ' h'=>b_law_handler_1.run cl ρ' h') (nD dn.length) [x0,x1,x2,x3,some 138,some (.loc ns),some (.int t),some g.d,x8,x9,x10,some (.loc ncl),x12,some (.int row),a,b] h=.nx [x0,x1,x2,x3,some 138,some (.loc ns),some (.int t),some g.d,x8,x9,x10,some (.loc ncl),x12,some (.int (row+1*2 ^ k)),some (nD dn.length),some (if ((dn.length:Nat):Int)=t then g else nu dn.length).d] (h.set ncl (.lst 136)):=by
   by_cases q:((dn.length:Nat):Int)=t
   ·rw [if_pos q] at sh hs' hd' ⊢;exact zd rfl (qN ((wn rfl rfl).trans (by rw [q];simp)) (zd rfl rfl) 188)
   ·rw [if_neg q] at sh hs' hd' ⊢;have dn':(nu dn.length).d=.tup [.str "num",.int (dn.length:Nat)]:=by rw [d0];rfl
    unfold clD at sh hs' hd' ⊢;rw [dn'] at sh hs' hd' ⊢;exact zd rfl (zx ((wn rfl rfl).trans (by rw [beq_false_of_ne q])) 188)
  obtain ⟨n3,n4⟩:=Y15.mp nn;have tbn:∀ j,tb (row+1*2 ^ k) j=(tb row j||decide (j=k)):=λ j=>by rw [Int.one_mul];exact Uj k j row (hb k Y05)
  obtain ⟨h',row',a',b',e1,k1,g1,t1⟩:=VX x0 x1 x2 x3 x8 x9 x10 x12 nd ns ncl t g sel hs9 hsel hl n1 n2 rest (dn++[k]) (A++[(dd.getD k "",if ((dn.length:Nat):Int)=t then g else nu dn.length)]) (row+1*2 ^ k) (some (nD dn.length)) (some (if ((dn.length:Nat):Int)=t then g else nu dn.length).d) (h.set ncl (.lst 136)) (by rw [e,Y0k];rfl) (by simp [hA]) hs' hd' (by rw [wY hc,Y0q];rfl) n4 (λ j hj=>by
   have jk:¬ j=k:=λ z=>n3 (by rw [<- z];exact hj);rw [tbn j,hb j (Y03 _ hj),decide_eq_false jk];rfl)
  rw [Y0e] at e1 g1;refine ⟨h',row',a',b',?_,(Kx.set _ _ 111).trans k1,?_,λ j=>?_⟩
  ·rw [Y08,List.range'_succ,Y09,zH,if_pos zu,st];exact e1
  ·rw [g1,mkC,Y0k];rfl
  ·rw [t1 j,tbn j];by_cases q:j=k<;>simp [q]
end
structure ItI (dd:XQ)(kn:List Kn)(it:It)(q:Kn)(s:Int):Prop where
 nm:it.nm=.str q.nm
 kh:it.isH=true->q.kd="handler"
 sk:PyData.strOk q.kd=true
 hk:q.kd="handler"->it.isH=true
 op:q.kd="open"->1<=q.x4/\q.x4<=2
 own:it.own=jq it.ownS
 oo:okO it.ownS
 nodes:∀ g∈it.bods,AllN (okK dd kn it.ownS) g
 ow:∀ T,qV T kn->∀ j d,dd[j]?=some d->it.bods.any (sm (hL T j) (oL T j d it.ownS))=tb q.own j
 le:∀ T,qV T kn->∀ j d,dd[j]?=some d->(tb q.lets j&&!tb q.own j)=(it.bods.any (sm (hL T j) (lL T j it.ownS))&&!tb q.own j)
 seen:∀ j d,dd[j]?=some d->tb s j=decide (d∈it.dds)
 sub:∀ j d,dd[j]?=some d->tb q.own j=true->tb s j=true\/∃ r∈kn,tb r.own j=true
 hd:∀ d∈it.heads,d∈dd
 hn:it.heads.Nodup
 cls:it.isH=true->∀ j d,dd[j]?=some d->tb q.x4 j=decide (d∈it.heads)
 sz:G.sizes it.bods<=500
 bl:it.bods.length<=9
section
variable {dd:XQ}{kn:List Kn}{g:G}{o l s:Int}{ob:XY}
theorem Inv.item (I:150){it:It}(eo:it.ownS=ob)(hg:g∈it.bods)(hp:∀ x∈it.bods,x=g\/Lf x) :
  (∀ x∈it.bods,AllN (okK dd kn it.ownS) x)/\(∀ T,qV T kn->∀ j d,dd[j]?=some d->it.bods.any (sm (hL T j) (oL T j d it.ownS))=tb o j) /\
  (∀ T,qV T kn->∀ j d,dd[j]?=some d->(tb l j&&!tb o j)=(it.bods.any (sm (hL T j) (lL T j it.ownS))&&!tb o j))/\∀ d,d∈it.bods.flatMap gdd ↔ d∈gdd g:=by
 rw [eo];have hp':∀ x∈it.bods,x=g\/(false=true/\x=g)\/Lf x:=λ x hx=>(hp x hx).imp id .inr;refine ⟨λ x hx=>?_,λ T ag j d hd=>?_,λ T ag j d hd=>?_,λ d=>?_⟩
 ·rcases hp x hx with rfl | z
  ·exact I.nodes
  ·exact z.nodes dd kn ob
 ·rw [qi (w:=false) (dt:=g) hg 167 hp' (λ x z=>z.own _ T j d ob),I.own T ag j d hd];simp
 ·rw [qi (w:=false) (dt:=g) hg 167 hp' (λ x z=>z.lets _ T j ob),I.lets T ag j d hd];simp
 ·rw [Y3e];constructor
  ·rintro ⟨x,hx,z⟩
   rcases hp x hx with rfl | y
   ·exact z
   ·exact absurd z (y.gdd d)
  ·exact λ z=>⟨g,hg,z⟩
end
section
variable {dd:XQ}{kn:List Kn}{g:G}{o l s:Int}
theorem z4q {ob:XY} (I:150) {nm kd:Str}{ps:D}{n:Int} (so:okO ob) (sk:PyData.strOk kd=true) (nk:kd≠"handler") (hn:kd="open"->1<=n/\n<=2) (sz:g.size<=450):ItI dd kn (.df (.str nm) ps (jq ob) g) ⟨kd,nm,o,l,n⟩ s:=by
 have eo:(It.df (.str nm) ps (jq ob) g).ownS=ob:=by cases ob<;>rfl
 obtain ⟨i1,i2,i3,i4⟩:=I.item (it:=It.df (.str nm) ps (jq ob) g) eo (by simp [It.bods]) (λ x hx=>.inl (by simpa [It.bods] using hx));refine ⟨rfl,167,sk,λ z=>absurd z nk,hn,by rw [eo];rfl,by rw [eo];exact so,i1,i2,i3,λ j d hd=>?_,I.sub,(λ d hd=>by cases hd),List.nodup_nil,167,?_,by simp [It.bods]⟩
 ·rw [I.seen j d hd,decide_eq_decide,<- i4 d];unfold It.dds It.heads;rw [Y0s]
 ·show G.sizes [g]<=_;rw [G.sizes,G.sizes];omega
theorem yV (nm:D)(cs:List (Str×G))(e:G):(It.hd nm cs e).bods=cs.map (·.2)++[e]:=rfl
theorem z4r (I:Inv dd kn none g o l s) {nm:Str}{row t:Int}{sel:List Nat}{e:G} (nn:dd.Nodup) (l8:dd.length<=8) (sn:sel.Nodup) (hsel:∀ k∈sel,k<dd.length) (hs8:sel.length<=8) (h0:0<=t) (h1:t<=sel.length) (he:e=if t=sel.length then g else .nd (.var "x") []) (qB:∀ k,tb row k=decide (k∈sel)) (sz:g.size<=450) :
  ItI dd kn (.hd (.str nm) (mkC dd t g 0 sel) e) ⟨"handler",nm,o,0,row⟩ (Builtin.bitOr s row):=by
 have hds:(It.hd (.str nm) (mkC dd t g 0 sel) e).heads=sel.map λ k=>dd.getD k "":=yp dd t g 0 sel;have hg:g∈(It.hd (.str nm) (mkC dd t g 0 sel) e).bods:=by
  rw [yV];by_cases z:t=sel.length
  ·rw [he,if_pos z];simp
  ·obtain ⟨c,hc,q⟩:=VW dd t g 0 sel 109 109;exact Y0w _ (Y0c.mpr ⟨c,hc,q⟩)
 have hp:∀ x∈(It.hd (.str nm) (mkC dd t g 0 sel) e).bods,x=g\/Lf x:=λ x hx=>by
  rw [yV] at hx;rcases Y0r.mp hx with hx | hx
  ·obtain ⟨c,hc,rfl⟩:=Y0c.mp hx;exact Yb dd t g 0 sel c hc
  ·rw [Y0g.mp hx,he]
   split
   ·exact .inl rfl
   ·exact .inr (Lf.var "x")
 obtain ⟨i1,i2,i3,i4⟩:=I.item (it:=It.hd (.str nm) (mkC dd t g 0 sel) e) (ob:=none) rfl hg hp;have mem:∀ j d,dd[j]?=some d->(j∈sel ↔ d∈sel.map λ k=>dd.getD k ""):=λ j d hd=>by
  obtain ⟨lj,ej⟩:=Y01.mp hd;constructor
  ·intro z;refine Y0c.mpr ⟨j,z,?_⟩;rw [Y0j,hd];rfl
  ·intro z;obtain ⟨k,hk,e⟩:=Y0c.mp z;have lk:=hsel k hk;rw [Y0j,Y07 lk] at e;have e:dd[k]=d:=e;rcases Y2o j k with q | q | q
   ·exact absurd (ej.trans e.symm) (Y0y.mp nn j k lj lk q)
   ·rw [q];exact hk
   ·exact absurd (e.trans ej.symm) (Y0y.mp nn k j lk lj q)
 refine ⟨rfl,λ _=>rfl,jR,λ _=>rfl,λ z=>absurd z (show ¬ (("handler":Str)="open") by decide),rfl,(λ x z=>by cases z),i1,i2,λ T ag j d hd=>?_,λ j d hd=>?_,λ j d hd z=>?_,λ d hd=>?_,?_,λ _ j d hd=>?_,?_,?_⟩
 ·have q:=i3 T ag j d hd;rw [I.nl rfl] at q;exact q
 ·rw [zD,I.seen j d hd,qB j,Y1x,Y16,decide_eq_true_eq,decide_eq_true_eq,decide_eq_true_eq];unfold It.dds;rw [Y0r,hds,i4 d,<- mem j d hd];exact Or.comm
 ·rw [zD,Y16];exact (I.sub j d hd z).imp .inl id
 ·rw [hds] at hd;obtain ⟨k,hk,rfl⟩:=Y0c.mp hd;rw [Y0j,Y07 (hsel k hk)];exact Y3g _
 ·rw [hds];refine List.pairwise_map.mpr (List.Pairwise.imp_of_mem (λ {a b} ha hb hab=>?_) sn);have la:=hsel a ha;have lb:=hsel b hb;rw [Y0j,Y0j,Y07 la,Y07 lb];intro z;have z:dd[a]=dd[b]:=z;rcases Y2o a b with q | q | q
  ·exact Y0y.mp nn a b la lb q z
  ·exact hab q
  ·exact Y0y.mp nn b a lb la q z.symm
 ·show tb row j=_;rw [qB j,decide_eq_decide,hds];exact mem j d hd
 ·rw [yV,jv,G.sizes,G.sizes];have q:=JW dd t g 0 sel;have es:e.size<=g.size+1:=by
   rw [he]
   split
   ·omega
   ·rw [(Lf.var "x").size];omega
  by_cases z:t=sel.length
  ·rw [he,if_pos z];have q2:G.sizes ((mkC dd t g 0 sel).map (·.2))<=sel.length:=by
    have aux:∀ (j:Nat) (r:List Nat),t=((j+r.length:Nat):Int)->G.sizes ((mkC dd t g j r).map (·.2))<=r.length:=λ j r=>by
     induction r generalizing j with
     | nil=>intro _;rw [mkC,Y12,G.sizes];simp
     | cons k r ih =>
      intro e;rw [mkC,Y09,G.sizes,Y08];rw [Y08] at e;show (if (j:Int)=t then g else nu j).size+_<=_;rw [if_neg 109,zn]
      have:=ih (j+1) 109
      omega
    exact aux 0 sel 109
   omega
  ·rw [he,if_neg z,(Lf.var "x").size];split at q<;>omega
 ·rw [yV,Y0e,Y04]
  have:(mkC dd t g 0 sel).length=sel.length:=by
   have:=congrArg List.length (yp dd t g 0 sel)
   simpa using this
  rw [this];simp;omega
end
noncomputable def ItR (dd:XQ)(kn:List Kn)(nm:Str)(h:Hh)(r:Res D):Prop:=∃ h' it q s,r=.ok (.tup [it.d,q.d,.int s]) h'/\Kx [] h h'/\ItI dd kn it q s/\q.nm=nm
section
variable {cl:107}{dd:XQ}{kn:List Kn}
theorem Kx.fresh {h a b:Hh}{n:Nat}(x:Kx [] h a)(hn:h.length<=n)(y:Kx [n] a b):Kx [] h b:=⟨Y0n x.1 y.1,λ i o e _=>y.2 i o (x.2 i o e 111) (by have:=(Y01.mp e).1;simp;omega)⟩
theorem z9k {ρ:En}{h h1:Hh}{e:E}{p p1:Pos}{n:Nat}{cs:195}(he:e.ev cl ρ h=.ok 146 h1)(g:h1[n]?=some 198):E.ev cl (.c1 .sum e p p1) ρ h=.ok (.int cs.sum) h1:=bnd he (by
 show c1D .sum 146 h1=_;unfold c1D;dsimp only;rw [zS g];show (match wR _ with | some is=>Res.ok (D.int is.sum) _ | none=>.no)=_
 rw [QZ])
theorem O4 (Bo:WX cl 34)(Lc:z4p cl 35)(c:Int)(nm:Str)(nk nd nc:Nat)(cs:195)(h:Hh)(hc:h[nc]?=some 198)(hk:h[nk]?=some (.lst (kn.map Kn.d)))(hd:h[nd]?=some 144)(ok:KnsOk kn none)(D8:Dd dd)(hl:cs.length<=48) :
  ItR dd kn nm h (d_law_handler.run cl [.int c,.str nm,.loc nc,.loc nk,.loc nd] h):=by
 have sub:Sub kn kn:=⟨λ q hq=>hq,ok.ln⟩;have key:=zW nD (c:=[]) (f:=j4 yM (jE [none,some 0] [some (.int c),some (.str nm),some (.loc nc),some (.loc nk),some 138,none,none,none,none,none,none,none,none,none,none,none]) (λ ρ' h2=>c_law_handler_3.evC cl ρ' h2) (λ ρ' h2=>e_law_handler_3.ev cl ρ' h2)) (h:=h) zu (λ k=>if c/2 ^ k%2==1 then some (nD k) else none) (List.range dd.length) [] (λ k hk=>by
  have rs:jl .RShift (.int c) (.int (k:Nat)) h=.ok (.int (c/2 ^ ((k:Nat):Int).toNat)) h:=by rw [bin_shr,if_pos 109]
  rw [show ((k:Nat):Int).toNat=k by omega] at rs;have e2:∀ b,(c/2 ^ k%2==1)=b->Es.evC cl c_law_handler_3 [some (nD k),some (.int c)] h=.ok b h:=λ b hb=>VQ (zi (j7 (bnd rfl (bnd rfl rs)) rfl 108) rfl (by rw [<- hb];exact eqI));cases hb:c/2 ^ k%2==1 with
  | true=>rw [if_pos rfl];exact jK rfl (e2 _ hb) rfl
  | false=>rw [if_neg 111];exact yU rfl (e2 _ hb))
 rw [VR,Y0s] at key;obtain ⟨sel0,es0⟩:∃ sel0,sel0=(List.range dd.length).filter λ k=>c/2 ^ k%2==1:=125;rw [<- es0] at key;have b0:∀ k∈sel0,k<dd.length:=λ k hk=>by rw [es0] at hk;exact Y1l.mp (Y1a.mp hk).1
 have n0:sel0.Nodup:=by rw [es0];exact List.nodup_range.filter _
 have l0:sel0.length<=8:=by rw [es0];exact Y0n (Y2r _ _) (by rw [Y2q];exact D8.l8)
 have s0:Ss.run cl (qp 1 d_law_handler.body) [some (.int c),some (.str nm),some (.loc nc),some (.loc nk),some 138,none,none,none,none,none,none,none,none,none,none,none] h=.nx [some (.int c),some (.str nm),some (.loc nc),some (.loc nk),some 138,some 121,none,none,none,none,none,none,none,none,none,none] (h++[.lst (sel0.map nD)]):=by
  refine zd (zT (q:=([],(List.range dd.length).map nD)) ((QO (q9 rfl hd) (by rw [txs_len];have:=D8.l8;omega)).trans ?_) (by simp;have:=D8.l8;omega) key) rfl;rw [txs_len,show ((dd.length:Nat):Int).toNat=dd.length by omega]
 obtain ⟨sel,b1,n1,l1,s1⟩:∃ sel:List Nat,(∀ k∈sel,k<dd.length)/\sel.Nodup/\sel.length<=8/\Ss.run cl (qp 1 (jc 1 d_law_handler.body)) [some (.int c),some (.str nm),some (.loc nc),some (.loc nk),some (.loc nd),some (.loc h.length),none,none,none,none,none,none,none,none,none,none] (h++[.lst (sel0.map nD)])=.nx [some (.int c),some (.str nm),some (.loc nc),some (.loc nk),some (.loc nd),some (.loc h.length),none,none,none,none,none,none,none,none,none,none] (h++[.lst (sel.map nD)]):=by
  by_cases z:c/256%2=1
  ·refine ⟨sel0.reverse,λ k hk=>b0 k (Y3w.mp hk),List.pairwise_reverse.mpr (n0.imp λ h=>Ne.symm h),by rw [Y3n];exact l0,qN ((wn (j7 182 rfl 108) rfl).trans (by rw [z];rfl)) (yI (d:=.non) (h':=h++[.lst (sel0.reverse.map nD)]) (bnd rfl ?_) rfl) rfl⟩;show m0D .reverse 121 (h++[.lst (sel0.map nD)])=_;unfold m0D;dsimp only;rw [zo];dsimp only;rw [yP,Y3f]
  ·exact ⟨sel0,b0,n0,l0,zx ((wn (j7 182 rfl 108) rfl).trans (by rw [beq_false_of_ne z])) rfl⟩
 have hs2:(h++[.lst (sel.map nD)])[h.length]?=some (.lst (sel.map nD)):=zo _ _;have k2:Kx [] h (h++[.lst (sel.map nD)]):=Kx.app _ _;generalize hh2:h++[.lst (sel.map nD)]=h2 at s1 hs2 k2;have hc2:=k2.2 _ _ hc 111;have hk2:=k2.2 _ _ hk 111;have hd2:=k2.2 _ _ hd 111;have ns1:h.length<h2.length:=by rw [<- hh2];simp
 obtain ⟨N,eN⟩:∃ N:Int,N=((sel.map nD).length:Nat):=125;have NN:N=sel.length:=by rw [eN,Y04]
 have ln:∀ (H:Hh) (ρ:En) (p p1 p2:Pos),H[h.length]?=some (.lst (sel.map nD))->ρ[5]?=some (some 121)->E.ev cl (.len (.var 5 p) p1 p2) ρ H=.ok (.int N) H:=λ H ρ p p1 p2 hc q=>by rw [eN];exact q9 (by rw [we,q]) hc
 obtain ⟨t,et⟩:∃ t,t=c/512%(N+1):=125;have tb':0<=t/\t<=N:=by rw [et];have:=Y2m (c/512) (show N+1≠0 by omega);have:=Y24 (c/512) (show 0<N+1 by omega);omega
 obtain ⟨h3,g,o,l,s,x3,s3,k3,I,sz⟩:∃ h3 g o l s x3,Ss.run cl (qp 2 (jc 2 d_law_handler.body)) [some (.int c),some (.str nm),some (.loc nc),some (.loc nk),some (.loc nd),some (.loc h.length),none,none,none,none,none,none,none,none,none,none] h2=.nx [some (.int c),some (.str nm),some (.loc nc),x3,some (.loc nd),some (.loc h.length),some (.int t),some g.d,some (.int o),some (.int l),some (.int s),none,none,none,none,none] h3/\Kx [] h2 h3/\Inv dd kn none g o l s/\g.size<=450:=by
  by_cases z:t=N
  ·have cp:=Ya (cl:=cl) (ρ:=[some (.int c),some (.str nm),some (.loc nc),some (.loc nk),some 138,some 121,some (.int t),none,none,none,none,none,none,none,none,none]) (tg:=yL) (ct:=yK) (elt:=yJ) hk2 ok.sk ⟨_,_,_,_,_,rfl⟩ 125 125;obtain ⟨h3,g,o,l,s,e1,k1,i1,w1⟩:=Bo dd kn (noH kn) none h2.length nd nc cs (h2++[O.lst ((noH kn).map Kn.d)]) (zh hc2) (zo _ _) (zh hd2) (VU sub) ok D8;refine ⟨h3,g,o,l,s,some (.loc h2.length),zd (d:=.int t) (by rw [et];exact j7 182 (yo (ln h2 _ _ _ _ hs2 rfl) rfl) 109) (qN ((wn rfl (ln h2 _ _ _ _ hs2 rfl)).trans (by rw [z];simp)) (zd (zT (wX rfl hk2) (by rw [Y04];have:=ok.ln;omega) cp) (wC (zC rfl (cns rfl 139) e1) rfl rfl)) rfl),(Kx.app _ _).trans k1,i1,by omega⟩
  ·obtain ⟨h3,g,o,l,s,e1,k1,i1,w1⟩:=Lc dd kn kn (c/4096+cs.sum%48271) nk nd nc cs h2 hc2 hk2 hd2 sub ok D8 109;exact ⟨h3,g,o,l,s,some (.loc nk),zd (d:=.int t) (by rw [et];exact j7 182 (yo (ln h2 _ _ _ _ hs2 rfl) rfl) 109) (z99 ((wn rfl (ln h2 _ _ _ _ hs2 rfl)).trans (by rw [beq_false_of_ne z])) (wC (zC (yo 182 (j7 (z9k rfl hc2) rfl 108)) (cns rfl 139) e1) rfl rfl) rfl),k1,i1,by omega⟩
 have hs3:=k3.2 _ _ hs2 111;have hd3:=k3.2 _ _ hd2 111;have lh3:=k3.1;have ld:nd<h.length:=(Y01.mp hd).1;obtain ⟨h4,row,a,b,e4,k4,g4,t4⟩:=VX (cl:=cl) (some (.int c)) (some (.str nm)) (some (.loc nc)) x3 (some (.int o)) (some (.int l)) (some (.int s)) (some (.tup [.str "x",.str "y",.tup [.str "var",.str "x"]])) nd h.length h3.length t g sel 109 b1 D8.l8 109 109 sel [] [] 0 none none (h3++[.lst []]) rfl rfl (zh hs3) (zh hd3) (zo _ _) n1 (λ k _=>zm k);rw [Y0s] at g4;have hs4:=k4.2 _ _ (zh (J:=[.lst []]) hs3) 175;have kall:Kx [] h h4:=((k2.trans k3).trans (Kx.app _ _)).fresh 109 k4;have qB:∀ k,tb row k=decide (k∈sel):=λ k=>by rw [t4 k,zm];rfl
 have fin:∀ {e:G}{x:D},x=.tup [.str "x",.str "y",e.d]->e=(if t=sel.length then g else .nd (.var "x") [])->Ss.run cl (jc 9 d_law_handler.body) [some (.int c),some (.str nm),some (.loc nc),x3,some 138,some 121,some (.int t),some g.d,some (.int o),some (.int l),some (.int s),some (.loc h3.length),some x,some (.int row),a,b] h4=.rt (.tup [(It.hd (.str nm) (mkC dd t g 0 sel) e).d,(Kn.mk "handler" nm o 0 row).d,.int (Builtin.bitOr s row)]) h4:=λ {e x} ex _=>by
  subst ex;exact zj (zX (cns (zX (cns rfl (cns rfl (cns (Uc rfl (zS g4)) 119))) (show 4<=1000 by decide)) 139) (show 3<=1000 by decide))
 have lp:∀ {r:RS},Ss.run cl (jc 8 d_law_handler.body) [some (.int c),some (.str nm),some (.loc nc),x3,some 138,some 121,some (.int t),some g.d,some (.int o),some (.int l),some (.int s),some (.loc h3.length),some (.tup [.str "x",.str "y",.tup [.str "var",.str "x"]]),some (.int row),a,b] h4=r->d_law_handler.run cl [.int c,.str nm,.loc nc,.loc nk,.loc nd] h=jy r:=λ {r} kk=>by
  refine congrArg jy (Vr 1 s0 (Vr 1 (hh2▸s1) (Vr 2 s3 (zd rfl (zd rfl (zd rfl (jp (q:=([],(List.range' 0 sel.length).map nD)) ((QO (ln (h3++[.lst []]) _ _ _ _ (zh hs3) rfl) 109).trans ?_) e4 kk)))))));rw [show N.toNat=sel.length by omega,List.range_eq_range']
 by_cases z:t=N
 ·have ze:t=sel.length:=by omega
  exact ⟨h4,.hd (.str nm) (mkC dd t g 0 sel) g,_,_,(lp (qN ((wn rfl (ln h4 _ _ _ _ hs4 rfl)).trans (by rw [z];simp)) (zd rfl rfl) (fin rfl (by rw [if_pos ze])))).trans rfl,kall,z4r I D8.nn D8.l8 n1 b1 l1 tb'.1 109 (by rw [if_pos ze]) qB sz,rfl⟩
 ·have ze:¬ t=sel.length:=by omega
  exact ⟨h4,.hd (.str nm) (mkC dd t g 0 sel) (.nd (.var "x") []),_,_,(lp (zx ((wn rfl (ln h4 _ _ _ _ hs4 rfl)).trans (by rw [beq_false_of_ne z])) (fin (by rw [d0];rfl) (by rw [if_neg ze])))).trans rfl,kall,z4r I D8.nn D8.l8 n1 b1 l1 tb'.1 109 (by rw [if_neg ze]) qB sz,rfl⟩
noncomputable def z4s (cl:107)(i:Nat):Prop:=∀ (dd:XQ) (kn:List Kn) (c:Int) (nm:Str) (nk nd nc:Nat) (cs:195) (h:Hh),h[nc]?=some 198->h[nk]?=some (.lst (kn.map Kn.d))->h[nd]?=some 144->KnsOk kn none->Dd dd->cs.length<=48->ItR dd kn nm h (cl i [.int c,.str nm,.loc nc,.loc nk,.loc nd] h)
end
theorem z0g (ns:195)(k:Nat)(m:Int)(hm:0<m):∃ cs:List Int,L2.cutS (ns.map D.int) (some (12+(k:Int))) (some 48) m=cs.map D.int/\cs.length<=48:=by
 refine ⟨L2.cutS ns (some (12+(k:Int))) (some 48) m,?_,?_⟩
 ·unfold L2.cutS;rw [Y04,List.map_filterMap]
  congr 1
  funext i
  rw [Y0l]
 ·unfold L2.cutS;refine Y0n (List.length_filterMap_le _ _) (Y0n (sliceRange_len_le _ _ _ (by show m≠0;omega)) ?_);show (if m > 0 then _ else _)<=_;rw [if_pos hm];unfold sliceBounds;simp only [Y3c];rw [if_neg (show ¬ (12+(k:Int)<0) by omega),if_neg (show ¬ ((48:Int)<0) by omega),if_pos hm,if_pos hm];omega
theorem z7d {i:Int}(h0:i=0\/i=1)(h:Hh):∃ ps:List D,yG (.tup [.str "y",.str "x"]) (some i) none h=.ok (.tup ps) h/\1<=ps.length/\ps.length<=2:=by
 rcases h0 with rfl | rfl
 ·exact ⟨[.str "y",.str "x"],by rfl,by simp,by simp⟩
 ·exact ⟨[.str "x"],by rfl,by simp,by simp⟩
noncomputable def Uq (cl:107)(j:Nat)(ns:195):Prop:=∀ (i:Int) (h:Hh),0<=i->cl j [scr ns,.int i] h=.ok (.int (wf ns i)) h
section
variable {cl:107}{dd:XQ}{kn:List Kn}
theorem z7e (ns:195)(Ce:Uq cl 24 ns)(Na:Uo cl 25)(Bo:WX cl 34)(Hd:z4s cl 36)(k:Nat)(hk7:k<100)(nms:XQ)(nm:Str)(nk nn nd:Nat)(h:Hh)(hk:h[nk]?=some (.lst (kn.map Kn.d)))(hn:h[nn]?=some (.lst (txs nms)))(hd:h[nd]?=some 144)(hnm:nms[k]?=some nm)(nl:nms.length<=100)(ok:KnsOk kn none)(nb:∀ q∈kn,∀ c,nmv 8 c≠q.nm)(D8:Dd dd) :
  ItR dd kn nm h (d_law_item.run cl [scr ns,.int k,.loc nk,.loc nn,.loc nd] h):=by
 have sub:Sub kn kn:=⟨λ q hq=>hq,ok.ln⟩;obtain ⟨m,em⟩:∃ m:Int,m=((txs nms).length:Nat):=125;have lk:k<nms.length:=(Y01.mp hnm).1;have m0:0<m:=by rw [em,txs_len];omega
 obtain ⟨cs,ec,lc⟩:=z0g ns k m m0;have nat:∀ (H:Hh) (ρ:En) (p p1 p2:Pos),H[nn]?=some (.lst (txs nms))->ρ[3]?=some (some (.loc nn))->ρ[1]?=some (some (.int k))->E.ev cl (.sub (.var 3 p) (.var 1 p1) p2) ρ H=.ok (.str nm) H:=λ H ρ p p1 p2 hn q3 q1=>qD (by rw [we,q3]) (by rw [we,q1]) hn 109 (by
  rw [show ((k:Nat):Int).toNat=k by omega];unfold txs;rw [Y0l,hnm];rfl)
 have hc1:(h++[O.lst (cs.map D.int)])[h.length]?=some 198:=zo _ _;have c6:=Ce (4+(k:Int)) (h++[O.lst (cs.map D.int)]) 109;generalize wf ns (4+(k:Int))=c at c6;have m4:c%4=0\/c%4=1\/c%4=2\/c%4=3:=by omega
 obtain ⟨h2,e2⟩:∃ h2,h2=h++[O.lst (cs.map D.int)]++[O.lst [.str "plain",.str "plain",.str "open",.str "handler"]]:=125;have k2:Kx [] h h2:=by rw [e2];exact (Kx.app _ _).trans (Kx.app _ _)
 have hc2:h2[h.length]?=some 198:=by rw [e2];exact zh hc1
 have hk2:=k2.2 _ _ hk 111;have hn2:=k2.2 _ _ hn 111;have hd2:=k2.2 _ _ hd 111;have cut0:E.ev cl (.cutS (.var 0 123) (.some (.bin .Add (.int 12 123) (.var 1 123) 123)) (.some (.int 48 123)) (.len (.var 3 123) 123 123) 123 123) [some (scr ns),some (.int k),some (.loc nk),some (.loc nn),some 138,none,none,none,none,none,none,none,none,none] h=.ok 121 (h++[O.lst (cs.map D.int)]):=by
  refine bnd rfl (bnd (yk (yo rfl rfl)) (bnd (yk rfl) (bnd (q9 rfl hn) ?_)));rw [<- em];show Vb (.fl (ns.map .int)) (some (12+(k:Int))) (some 48) (.int m) h=_;unfold Vb;dsimp only;rw [if_pos m0,ec];rfl
 have st:∀ (kd:Str),([.str "plain",.str "plain",.str "open",.str "handler"]:List D)[(c%4).toNat]?=some (.str kd)->∀ {r:RS},Ss.run cl (jc 3 d_law_item.body) [some (scr ns),some (.int k),some (.loc nk),some (.loc nn),some 138,some 121,some (.int c),some (.str kd),none,none,none,none,none,none] h2=r->d_law_item.run cl [scr ns,.int k,.loc nk,.loc nn,.loc nd] h=jy r:=λ kd hkd {r} kk=>by
  subst e2;exact congrArg jy (zd cut0 (zd (zC rfl (cns (yo rfl rfl) rfl) c6) (zd (qD rfl 196 (zo _ _) 109 hkd) kk)))
 have plain:c%4<2->ItR dd kn nm h (d_law_item.run cl [scr ns,.int k,.loc nk,.loc nn,.loc nd] h):=λ z=>by
  obtain ⟨h3,g,o,l,s,e3,k3,I,w⟩:=Bo dd kn kn none nk nd h.length cs h2 hc2 hk2 hd2 sub ok D8;refine ⟨h3,.df (.str nm) (.tup [.str "x"]) .non g,⟨"plain",nm,o,l,1⟩,s,(st "plain" (by rcases m4 with m4 | m4 | m4 | m4<;>first | (rw [m4];rfl) | omega) (zx (zi rfl rfl ((eqS jS jR).trans (by rfl))) (ja (zi rfl rfl (eqS jS jS)) (wC (zC rfl (cns rfl (cns rfl (cns rfl rfl))) e3) rfl (zj (zX (cns (zX (cns rfl (cns (nat h3 _ _ _ _ (k3.2 _ _ hn2 (by simp)) rfl rfl) (cns rfl (cns rfl (cns rfl rfl))))) (show 5<=1000 by decide)) (cns (zX (cns rfl (cns (nat h3 _ _ _ _ (k3.2 _ _ hn2 (by simp)) rfl rfl) (cns rfl (cns rfl (cns rfl rfl))))) (show 5<=1000 by decide)) (cns rfl rfl))) (show 3<=1000 by decide))))))).trans rfl,k2.trans k3,z4q I (λ x z=>by cases z) jS 108 (λ z=>absurd z 108) 109,rfl⟩
 rcases m4 with m4 | m4 | m4 | m4
 ·exact plain 109
 ·exact plain 109
 ·have n12:=Na 8 (wf ns 1/3+5*(k:Int)) h2 108;have c1:=Ce 1 h2 108;generalize hb:nmv 8 (wf ns 1/3+5*(k:Int))=b at n12;have sb:PyData.strOk b=true:=by rw [<- hb];exact (Um 108).ok
  have okb:KnsOk kn (some b):=⟨ok.sn,ok.sk,ok.op,λ q hq z=>by injection z with z;exact nb q hq _ (hb.trans z),λ x z=>by injection z with z;rw [<- z];exact sb,ok.ln⟩;obtain ⟨h3,g,o,l,s,e3,k3,I,w⟩:=Bo dd kn kn (some b) nk nd h.length cs h2 hc2 hk2 hd2 sub okb D8;obtain ⟨ps,ep,p1,p2⟩:=z7d (i:=c/4%2) 109 h3;refine ⟨h3,.df (.str nm) (.tup ps) (.str b) g,⟨"open",nm,o,l,ps.length⟩,s,(st "open" (by rw [m4];rfl) (zx (zi rfl rfl ((eqS qW jR).trans (by rfl))) (zx (zi rfl rfl ((eqS qW jS).trans (by rfl))) (zd (zC rfl (cns (yo (jH (zC rfl 119 c1) rfl 108) (bnd rfl (bnd rfl (mlk (qg 108) (qg 109))))) rfl) n12) (wC (zC rfl (cns rfl 139) e3) rfl (zd (bnd (zX 139 (show 2<=1000 by decide)) (bnd (yk (j7 182 rfl 108)) (bnd rfl ep))) (zj (zX (cns (zX (cns rfl (cns (nat h3 _ _ _ _ (k3.2 _ _ hn2 111) rfl rfl) (cns rfl 139))) (show 5<=1000 by decide)) (cns (zX (cns rfl (cns (nat h3 _ _ _ _ (k3.2 _ _ hn2 111) rfl rfl) (cns rfl (cns rfl (cns 174 rfl))))) (show 5<=1000 by decide)) 119)) (show 3<=1000 by decide))))))))).trans rfl,k2.trans k3,z4q (ob:=some b) I (λ x z=>by injection z with z;rw [<- z];exact sb) qW 108 (λ _=>⟨by show (1:Int)<=ps.length;omega,by show (ps.length:Int)<=2;omega⟩) 109,rfl⟩
 ·obtain ⟨h3,it,q,s,e3,k3,I,w⟩:=Hd dd kn (c/4) nm nk nd h.length cs h2 hc2 hk2 hd2 ok D8 lc;exact ⟨h3,it,q,s,(st "handler" (by rw [m4];rfl) (ja (zi rfl rfl (eqS jR jR)) (zj (zC 182 (cns (nat h2 _ _ _ _ hn2 rfl rfl) (cns rfl 139)) e3)))).trans rfl,k2.trans k3,I,w⟩
end
mutual
theorem JX {Q:Kd->Nat->Prop}:∀ g:G,AllN Q g->∀ x∈pre g,∃ k ps,x=.nd k ps/\Q k ps.length
 | .nd k ps,h,x,hx=>by
  rw [AllN] at h;rw [pre] at hx;rcases Y06.mp hx with rfl | hx
  ·exact ⟨k,ps,rfl,h.1⟩
  ·exact pres_nodes ps h.2 x hx
theorem pres_nodes {Q:Kd->Nat->Prop}:∀ gs:List G,AllNs Q gs->∀ x∈pres gs,∃ k ps,x=.nd k ps/\Q k ps.length
 | [],_,x,hx=>by rw [pres] at hx;cases hx
 | g::r,h,x,hx=>by
  rw [AllNs] at h;rw [pres] at hx;rcases Y0r.mp hx with hx | hx
  ·exact pres_nodes r h.2 x hx
  ·exact JX g h.1 x hx
end
mutual
theorem z0h (cr:141):∀ (g:G) (a:Int),∀ p∈wk cr g a,p.1∈pre g
 | .nd k ps,a,p,hp=>by
  rw [wk] at hp;rw [pre];rcases Y06.mp hp with rfl | hp
  ·exact Y05
  ·exact Y03 _ (wks_pre cr ps _ p hp)
theorem wks_pre (cr:141):∀ (gs:List G) (as:195),∀ p∈wks cr gs as,p.1∈pres gs
 | [],_,p,hp=>by rw [wks] at hp;cases hp
 | _::_,[],p,hp=>by rw [wks] at hp;cases hp
 | g::r,x::xs,p,hp=>by
  rw [wks] at hp;rw [pres];rcases Y0r.mp hp with hp | hp
  ·exact Y0w _ (wks_pre cr r xs p hp)
  ·exact Y0o _ (z0h cr g x p hp)
end
theorem VY (cr:141):∀ (bs:List G),∀ p∈wkW cr (bs.map λ g=>(g,0)),∃ g∈bs,p.1∈pre g
 | [],p,hp=>by cases hp
 | g::r,p,hp=>by
  rw [Y09,wkW] at hp;rcases Y0r.mp hp with hp | hp
  ·obtain ⟨x,hx,q⟩:=VY cr r p hp;exact ⟨x,Y03 _ hx,q⟩
  ·exact ⟨g,Y05,z0h cr g 0 p hp⟩
theorem z7f {g:G}{d:Str}{ps:List G}(h:.nd (.doo d) ps∈pre g):d∈gdd g:=by
 unfold gdd;exact Y1m.mpr ⟨_,h,rfl⟩
theorem z7g {dd:XQ}{kn:List Kn}{ob:XY}{g:G}(h:AllN (okK dd kn ob) g){d:Str}(hd:d∈gdd g):d∈dd:=by
 unfold gdd at hd;obtain ⟨x,hx,q⟩:=Y1m.mp hd;obtain ⟨k,ps,rfl,ok⟩:=JX g h x hx;cases k with
 | doo e =>
  have q:some e=some d:=q;injection q with q;rw [<- q];exact ok.2
 | _=>cases q
noncomputable def fB (ds:XQ)(d:Str):Int:=2 ^ ds.idxOf d
theorem WY {ds:XQ}{x y:Str}(hy:y∈ds)(h:ds.idxOf x=ds.idxOf y):x=y:=by
 have hx:x∈ds:=by rw [<- List.idxOf_lt_length_iff,h];exact Y1b hy
 have e1:=Y2z (Y1b hx);have e2:=Y2z (Y1b hy);rw [<- e1,<- e2]
 congr 1
theorem z4t {ds:XQ}{x d:Str}(hd:d∈ds):tb (fB ds x) (ds.idxOf d)=decide (x=d):=by
 unfold fB;rw [Ui,decide_eq_decide];constructor
 ·exact λ h=>WY hd h.symm
 ·intro h;rw [h]
theorem VZ:∀ (ds:XQ) (j:Nat) (d:Str),d∈ds->zI (zA j ds) (.inr d)=some (.int (2 ^ (j+ds.idxOf d)))
 | x::r,j,d,h=>by
  rw [zA];by_cases c:x=d
  ·subst c;simp [zI]
  ·have ih:=VZ r (j+1) d ((Y06.mp h).resolve_left λ z=>c z.symm);unfold zI at ih ⊢;rw [Y1c (by simpa using c),ih,List.idxOf_cons,beq_false_of_ne c];show some (D.int (2 ^ (j+1+r.idxOf d)))=some (D.int (2 ^ (j+(r.idxOf d+1))));rw [show j+1+r.idxOf d=j+(r.idxOf d+1) by omega]
theorem Ur {ds:XQ}{d:Str}(h:d∈ds):zI (zA 0 ds) (.inr d)=some (.int (fB ds d)):=by
 rw [VZ ds 0 d h,Nat.zero_add];rfl
theorem z9l {ds:XQ}{d:Str}(hd:d∈ds):tb (ds.foldl (λ a y=>Builtin.bitOr a (fB ds y)) 0) (ds.idxOf d)=true:=by
 have aux:∀ (l:XQ) (a:Int),tb (l.foldl (λ a y=>Builtin.bitOr a (fB ds y)) a) (ds.idxOf d)=(tb a (ds.idxOf d)||l.any λ y=>decide (y=d)):=λ l=>by
  induction l with
  | nil=>intro a;simp
  | cons y l ih=>intro a;rw [Y1i,ih,zD,z4t hd,Y0u,Y3p]
 rw [aux,zm,Y3q,Y1z];exact ⟨d,hd,by simp⟩
theorem z0i {ds:XQ}:∀ (hs:XQ),hs.Nodup->(∀ x∈hs,x∈ds)->∀ i,tb ((hs.map (fB ds)).sum) i=decide (i∈hs.map ds.idxOf)
 | [],_,_,i=>by rw [Y12,List.sum_nil,zm];simp
 | x::r,nn,hs,i=>by
  obtain ⟨n1,n2⟩:=Y15.mp nn;have ih:=z0i r n2 λ y hy=>hs y (Y03 _ hy);have f0:tb ((r.map (fB ds)).sum) (ds.idxOf x)=false:=by
   rw [ih,decide_eq_false];intro z;obtain ⟨y,hy,e⟩:=Y0c.mp z
   have:y=x:=WY (hs x Y05) e
   exact n1 (this▸hy)
  rw [Y09,List.sum_cons,Int.add_comm];unfold fB at ih f0 ⊢;rw [Uj _ _ _ f0,ih i,Y09];by_cases q:i=ds.idxOf x<;>simp [q]
theorem Yc:∀ (ds:XQ) (R:Int) (y:Str),y∈zy R ds ↔ ∃ i:Nat,ds[i]?=some y/\tb R i=true
 | [],R,y=>by simp [zy]
 | x::r,R,y=>by
  have ih:=Yc r (R/2) y;have split:(∃ i:Nat,(x::r)[i]?=some y/\tb R i=true) ↔ (x=y/\tb R 0=true)\/∃ i:Nat,r[i]?=some y/\tb (R/2) i=true:=by
   constructor
   ·rintro ⟨i,e,t⟩
    cases i with
    | zero=>exact .inl ⟨by simpa using e,t⟩
    | succ i=>exact .inr ⟨i,by simpa using e,by rw [<- j2];exact t⟩
   ·rintro (⟨e,t⟩ | ⟨i,e,t⟩)
    ·exact ⟨0,by simpa using e,t⟩
    ·exact ⟨i+1,by simpa using e,by rw [j2];exact t⟩
  rw [split,<- ih,zy,jb];by_cases c:R%2=1
  ·rw [if_pos c,Y06,decide_eq_true c];constructor
   ·rintro (h | h)
    ·exact .inl ⟨h.symm,rfl⟩
    ·exact .inr h
   ·rintro (⟨h,_⟩ | h)
    ·exact .inl h.symm
    ·exact .inr h
  ·rw [if_neg c,decide_eq_false c];simp
theorem qY:∀ (ds:XQ) (R:Int),(zy R ds).Sublist ds
 | [],R=>by rw [zy];exact List.Sublist.refl _
 | x::r,R=>by
  rw [zy]
  split
  ·exact (qY r (R/2)).cons_cons x
  ·exact (qY r (R/2)).cons x
noncomputable def ltL (dd:XQ)(v:Int):List Str:=((List.range dd.length).filter λ k=>v/2 ^ k%2==1).map λ k=>dd.getD k ""
theorem Us (dd:XQ)(v:Int)(y:Str):y∈ltL dd v ↔ ∃ j:Nat,dd[j]?=some y/\tb v j=true:=by
 unfold ltL;rw [Y0c];constructor
 ·rintro ⟨k,hk,e⟩
  obtain ⟨h1,h2⟩:=Y1a.mp hk;have h1:=Y1l.mp h1;refine ⟨k,?_,by unfold tb;simpa using h2⟩;rw [Y0j,Y07 h1] at e;rw [Y07 h1];exact congrArg some e
 ·rintro ⟨j,e,t⟩
  refine ⟨j,Y1a.mpr ⟨Y1l.mpr (Y01.mp e).1,by unfold tb at t;simpa using t⟩,?_⟩;rw [Y0j,e];rfl
theorem yW {dd:XQ}{fs:XQ}{v w:Int}(hds:∀ d∈j6 fs,d∈dd)(h:∀ j d,dd[j]?=some d->tb v j=(decide (d∈j6 fs)&&tb w ((j6 fs).idxOf d))):j6 (ltL dd v)=zy w (j6 fs):=by
 refine yN (wA _) (List.Pairwise.sublist (qY _ _) (wA _)) λ y=>?_;have nn:(j6 fs).Nodup:=(wA fs).imp λ {a b} h z=>by subst z;exact Y32 _ h
 rw [jF,Us,Yc];constructor
 ·rintro ⟨j,e,t⟩
  rw [h j y e,Y0h] at t;have m:=of_decide_eq_true t.1;exact ⟨(j6 fs).idxOf y,by rw [Y07 (Y1b m),Y2z],t.2⟩
 ·rintro ⟨i,e,t⟩
  have m:=Y0v e;obtain ⟨j,hj⟩:=Y1u (hds y m);refine ⟨j,hj,?_⟩;obtain ⟨li,ei⟩:=Y01.mp e
  have:(j6 fs).idxOf y=i:=by
   have l2:=Y1b m;have e2:=Y2z l2;rcases Y2o ((j6 fs).idxOf y) i with q | q | q
   ·exact absurd (e2.trans ei.symm) (Y0y.mp nn _ _ l2 li q)
   ·exact q
   ·exact absurd (ei.trans e2.symm) (Y0y.mp nn _ _ li l2 q)
  rw [h j y hj,decide_eq_true m,this,t];rfl
structure Gn where
 it:It
 kn:Kn
 s:Int
noncomputable def Gn.nm (x:Gn):Str:=x.kn.nm
noncomputable def G0 (dd:XQ)(gs:List Gn):Prop:=∀ pre x post,gs=pre++x::post->ItI dd (pre.map Gn.kn) x.it x.kn x.s
structure Pg (dd:XQ)(gs L:List Gn):Prop where
 gen:G0 dd gs
 nn:(gs.map Gn.nm).Nodup
 mem:∀ x,x∈L ↔ x∈gs
 nL:(L.map Gn.nm).Nodup
 len:gs.length<=7
 lenL:L.length<=7
noncomputable def niL (L:List Gn):List Ni:=L.map λ x=>(x.nm,x.it)
noncomputable def dsL (L:List Gn):List Str:=j6 ((L.map Gn.it).flatMap It.dds)
noncomputable def crL (L:List Gn)(x:Str):Int:=match (niL L).find? λ p=>decide (p.1=x) with
 | some p=>qB 126 p.2
 | none=>0
noncomputable def evL (L:List Gn):Int:=(dsL L).foldl (λ a y=>Builtin.bitOr a (fB (dsL L) y)) 0
noncomputable def hnL (L:List Gn):List Str:=(L.filter λ x=>x.it.isH).map Gn.nm
theorem jr (L:List Gn):(niL L).map (·.1)=L.map Gn.nm:=by unfold niL;rw [Y10];rfl
theorem Ut {L:List Gn}{p:Ni}(h:p∈niL L):∃ x∈L,p=(x.nm,x.it):=by
 unfold niL at h;obtain ⟨x,hx,e⟩:=Y0c.mp h;exact ⟨x,hx,e.symm⟩
theorem Uu {L:List Gn}{x:Gn}(h:x∈L):(x.nm,x.it)∈niL L:=Y0c.mpr ⟨x,h,rfl⟩
theorem G1 (L:List Gn):(dsL L).Nodup:=(wA _).imp λ {a b} h z=>by subst z;exact Y32 _ h
section
variable {dd:XQ}{gs L:List Gn}(P:Pg dd gs L)
include P
theorem Pg.at {x:Gn}(h:x∈L):∃ pre post,gs=pre++x::post/\ItI dd (pre.map Gn.kn) x.it x.kn x.s:=by
 obtain ⟨pre,post,e⟩:=Y30 ((P.mem x).mp h);exact ⟨pre,post,e,P.gen pre x post e⟩
theorem Pg.pre {pre post:List Gn}{x:Gn}(e:gs=pre++x::post){q:Kn}(h:q∈pre.map Gn.kn):∃ y∈L,y.kn=q:=by
 obtain ⟨y,hy,rfl⟩:=Y0c.mp h;exact ⟨y,(P.mem y).mpr (by rw [e];exact Y0w _ hy),rfl⟩
theorem Pg.dds {d:Str}:d∈dsL L ↔ ∃ x∈L,d∈x.it.dds:=by
 unfold dsL;rw [jF,Y3e];constructor
 ·rintro ⟨it,hi,h⟩
  obtain ⟨x,hx,rfl⟩:=Y0c.mp hi;exact ⟨x,hx,h⟩
 ·rintro ⟨x,hx,h⟩
  exact ⟨x.it,Y0c.mpr ⟨x,hx,rfl⟩,h⟩
theorem Pg.indd {d:Str}(h:d∈dsL L):d∈dd:=by
 obtain ⟨x,hx,h⟩:=P.dds.mp h;obtain ⟨pre,post,e,I⟩:=P.at hx;unfold It.dds at h;rcases Y0r.mp h with h | h
 ·exact I.hd d h
 ·obtain ⟨g,hg,h⟩:=Y3e.mp h;exact z7g (I.nodes g hg) h
theorem Pg.cr {x:Gn}(h:x∈L):crL L x.nm=qB 126 x.it:=by
 unfold crL
 have:=yT (l:=niL L) (p:=(x.nm,x.it)) (Uu h) (by rw [jr];exact P.nL)
 rw [this]
theorem Pg.hn {x:Gn}(h:x∈L)(hh:x.it.isH=true):x.nm∈hnL L:=Y0c.mpr ⟨x,Y1a.mpr ⟨h,hh⟩,rfl⟩
theorem Pg.hv:∀ y∈hnL L,zI (crK 126 (niL L)) (.inr y)=some (.int (crL L y)):=by
 intro y hy;obtain ⟨x,hx,rfl⟩:=Y0c.mp hy;obtain ⟨h1,h2⟩:=Y1a.mp hx;rw [P.cr h1];have aux:∀ (l:List Ni),(l.map (·.1)).Nodup->∀ p∈l,p.2.isH=true->zI (crK 126 l) (.inr p.1)=some (.int (qB 126 p.2)):=λ l=>by
  induction l with
  | nil=>intro _ p hp;cases hp
  | cons u l ih =>
   intro nn p hp hh;rw [Y09,Y15] at nn;have ec:crK 126 (u::l)=crK 126 [u]++crK 126 l:=by rw [<- VB];rfl
   rw [ec];rcases Y06.mp hp with rfl | hp
   ·unfold crK;rw [Y3h,if_pos hh];simp [zI]
   ·have ne:¬ u.1=p.1:=λ z=>nn.1 (z▸Y0c.mpr ⟨p,hp,rfl⟩);have ih:=ih nn.2 p hp hh;unfold zI at ih ⊢;rw [List.find?_append]
    have:(crK 126 [u]).find? (λ kv=>decide (kv.1=.inr p.1))=none:=by
     rw [List.find?_eq_none];intro q hq z;obtain ⟨v,hv,e⟩:=VC hq;have z:=of_decide_eq_true z;rw [e] at z;rw [Y0g.mp hv] at z;exact ne (Sum.inr.inj z)
    rw [this];exact ih
 exact aux (niL L) (by rw [jr];exact P.nL) (x.nm,x.it) (Uu h1) h2
theorem Yd (it:It):it.heads.length<=it.bods.length:=by
 cases it with
 | df=>simp [It.heads]
 | hd nm cs e=>simp [It.heads,It.bods]
theorem z3h {gs:List G}:∀ g∈gs,g.size<=G.sizes gs:=by
 induction gs with
 | nil=>intro g hg;cases hg
 | cons x r ih =>
  intro g hg;rw [G.sizes];rcases Y06.mp hg with rfl | hg
  ·omega
  ·have:=ih g hg;omega
theorem Pg.okI {x:Gn}(h:x∈L):x.it.Ok:=by
 obtain ⟨pre,post,e,I⟩:=P.at h;exact ⟨λ g hg=>by have:=z3h (P:=P) g hg;have:=I.sz;omega,by have:=I.bl;omega⟩
theorem z3i {x:It}(h1:G.sizes x.bods<=500)(h2:x.bods.length<=9):x.dds.length<=509:=by
 have aux:∀ l:List G,(l.flatMap gdd).length<=G.sizes l:=λ l=>by
  induction l with
  | nil=>simp
  | cons g r ih=>rw [Y2a,Y0e,G.sizes];have:=Vy g;omega
 unfold It.dds;rw [Y0e]
 have:=aux x.bods
 have:=Yd (P:=P) x
 omega
theorem Pg.tot:((L.map Gn.it).flatMap It.dds).length<=4000:=by
 have aux:∀ l:List Gn,(∀ x∈l,x∈L)->((l.map Gn.it).flatMap It.dds).length<=l.length*509:=λ l=>by
  induction l with
  | nil=>intro _;simp
  | cons x r ih =>
   intro h;rw [Y09,Y2a,Y0e,Y08];obtain ⟨pre,post,e,I⟩:=P.at (h x Y05)
   have:=z3i (P:=P) I.sz I.bl
   have:=ih λ y hy=>h y (Y03 _ hy)
   omega
 have:=aux L λ x hx=>hx
 have:=P.lenL
 omega
theorem Pg.okP:∀ p∈niL L,OkP (dsL L) (hnL L) (crL L) p:=by
 intro p hp;obtain ⟨x,hx,rfl⟩:=Ut hp;obtain ⟨pre,post,e,I⟩:=P.at hx;have hl:=Yd (P:=P) x.it;have bl:=I.bl;refine ⟨I.nm,λ d hd=>P.dds.mpr ⟨x,hx,Y0w _ hd⟩,by show x.it.heads.length<=1000;omega,by show x.it.bods.length<=1000;omega,λ q hq=>?_,Y0n (VL (crL L) x.it.bods) (by have:=I.sz;omega)⟩;obtain ⟨k,ps,ek,ok⟩:=yn (crL L) x.it.bods I.nodes q hq;obtain ⟨g,hg,hpre⟩:=VY (crL L) x.it.bods q hq;rw [ek] at hpre ⊢;refine ⟨?_,λ y hy=>?_,λ d hd=>?_,ok.1⟩
 ·cases k with
  | handle y=>exact .inr ok.2.1
  | _=>exact .inl rfl
 ·cases k with
  | handle z =>
   injection hy with hy;subst hy;obtain ⟨_,q',hq',e1,e2⟩:=ok.2;obtain ⟨y',hy',rfl⟩:=P.pre e hq';obtain ⟨pre2,post2,e3,I3⟩:=P.at hy';rw [<- e1];exact P.hn hy' (I3.hk e2)
  | _=>cases hy
 ·subst hd;exact P.dds.mpr ⟨x,hx,Y0o _ (Y3e.mpr ⟨g,hg,z7f hpre⟩)⟩
theorem Pg.uses {x:Gn}{pre post:List Gn}(e:gs=pre++x::post)(I:ItI dd (pre.map Gn.kn) x.it x.kn x.s):∀ q∈usB (crL L) x.it.bods,okU (pre.map Gn.nm) x.it.ownS (kdG q.1):=by
 intro q hq;unfold usB at hq;obtain ⟨h1,h2⟩:=Y1a.mp hq;obtain ⟨k,ps,ek,ok⟩:=yn (crL L) x.it.bods I.nodes q h1;have inn:∀ y,(∃ q'∈pre.map Gn.kn,q'.nm=y)->y∈pre.map Gn.nm:=λ y ⟨q',hq',e1⟩=>by
  obtain ⟨z,hz,rfl⟩:=Y0c.mp hq';exact Y0c.mpr ⟨z,hz,e1⟩
 have h2:jU (.nd k ps,q.2)=true:=by
  have:q=(.nd k ps,q.2):=by rw [<- ek]
  rw [<- this];exact h2
 rw [ek];show okU _ _ k;cases k with
 | handle y=>exact inn y (by obtain ⟨_,q',hq',e1,e2⟩:=ok.2;exact ⟨q',hq',e1⟩)
 | call g o =>
  obtain ⟨s1,s2,s3⟩:=ok.2;exact ⟨s1,s2,λ z=>⟨inn g (s3 z).1,λ b hb nb=>inn b ((s3 z).2 b hb nb)⟩⟩
 | _=>cases h2
theorem z0j {ns ns':XQ}{ob:XY}{k:Kd}(h:okU ns ob k)(m:∀ x∈ns,x∈ns'):okU ns' ob k:=by
 cases k with
 | handle y=>exact m y h
 | call g o=>exact ⟨h.1,h.2.1,λ z=>⟨m _ (h.2.2 z).1,λ b hb nb=>m _ ((h.2.2 z).2 b hb nb)⟩⟩
 | _=>exact h
theorem Pg.okA:∀ p∈niL L,OkA ((niL L).map (·.1)) (crL L) p:=by
 intro p hp;obtain ⟨x,hx,rfl⟩:=Ut hp;obtain ⟨pre,post,e,I⟩:=P.at hx;refine ⟨I.own,I.oo,λ q hq=>z0j (P:=P) (P.uses e I q hq) λ y hy=>?_⟩;rw [jr];obtain ⟨z,hz,rfl⟩:=Y0c.mp hy;exact Y0c.mpr ⟨z,(P.mem z).mpr (by rw [e];exact Y0w _ hz),rfl⟩
theorem O5 {ns:XQ}{ob:XY}{k:Kd}{ev:Int}{r r':XX}(h:okU ns ob k)(m:∀ x∈ns,r x=r' x):j9 r ev ob k=j9 r' ev ob k:=by
 cases k with
 | handle y=>show ((r y).1,0)=((r' y).1,0);rw [m y h]
 | call g o =>
  by_cases z:ob=some g
  ·rw [show j9 r ev ob (.call g o)=(0,ev) from if_pos z,show j9 r' ev ob (.call g o)=(0,ev) from if_pos z]
  ·obtain ⟨h1,h2⟩:=h.2.2 z;cases o with
   | none=>rw [show j9 r ev ob (.call g none)=((r g).1,0) from if_neg z,show j9 r' ev ob (.call g none)=((r' g).1,0) from if_neg z,m g h1]
   | some b =>
    by_cases y:ob=some b
    ·rw [show j9 r ev ob (.call g (some b))=r g from (if_neg z).trans (if_pos y),show j9 r' ev ob (.call g (some b))=r' g from (if_neg z).trans (if_pos y),m g h1]
    ·rw [show j9 r ev ob (.call g (some b))=(Builtin.bitOr (r g).1 (Builtin.bitAnd (r g).2 (r b).1),0) from (if_neg z).trans (if_neg y),show j9 r' ev ob (.call g (some b))=(Builtin.bitOr (r' g).1 (Builtin.bitAnd (r' g).2 (r' b).1),0) from (if_neg z).trans (if_neg y),m g h1,m b (h2 b rfl y)]
 | _=>rfl
theorem Pg.dep:Dep 126 (crL L) (evL L) (niL L) (λ x=>(gs.map Gn.nm).idxOf x):=by
 intro p hp r r' hr;obtain ⟨x,hx,rfl⟩:=Ut hp;obtain ⟨pre,post,e,I⟩:=P.at hx;have rk:(gs.map Gn.nm).idxOf x.nm=pre.length:=by
  have nx:x.nm∉pre.map Gn.nm:=λ z=>by
   have:=P.nn
   rw [e,Y0q,Y09] at this;exact (Y28.mp this).2.2 _ z _ Y05 rfl
  rw [e,Y0q,Y09,List.idxOf_append,if_neg nx,List.idxOf_cons_self,Y04,Nat.zero_add]
 have ag:∀ y∈pre.map Gn.nm,r y=r' y:=λ y hy=>by
  refine hr y ?_ ?_
  ·rw [jr];obtain ⟨z,hz,rfl⟩:=Y0c.mp hy;exact Y0c.mpr ⟨z,(P.mem z).mpr (by rw [e];exact Y0w _ hz),rfl⟩
  ·show (gs.map Gn.nm).idxOf y<(gs.map Gn.nm).idxOf x.nm;rw [rk,e,Y0q,List.idxOf_append,if_pos hy]
   have:=Y1b hy
   rwa [Y04] at this
 show GZ r (evL L) x.it.ownS _ _=GZ r' (evL L) x.it.ownS _ _;unfold GZ;have us:=P.uses e I;generalize usB (crL L) x.it.bods=us0 at us;generalize ((dnB (crL L) 126 x.it.bods,0):Int×Int)=acc
 induction us0 generalizing acc with
 | nil=>rfl
 | cons q r0 ih =>
  rw [Y1i,Y1i]
  have:qC r (evL L) x.it.ownS acc q=qC r' (evL L) x.it.ownS acc q:=by
   unfold qC;rw [O5 (P:=P) (us q Y05) ag]
  rw [this];exact ih (λ y hy=>us y (Y03 _ hy)) _
theorem Pg.fix:∃ m,m<=900/\Fix 126 (crL L) (evL L) (niL L) m:=by
 refine ⟨7,by decide,λ x hx=>Y2 (by rw [jr];exact P.nL) P.dep 7 x hx ?_⟩;rw [jr] at hx;obtain ⟨y,hy,rfl⟩:=Y0c.mp hx
 have:y.nm∈gs.map Gn.nm:=Y0c.mpr ⟨y,(P.mem y).mp hy,rfl⟩
 have:=Y1b this
 rw [Y04] at this
 have:=P.len
 show (gs.map Gn.nm).idxOf y.nm<7;omega
end
noncomputable def jw (gs:List Gn)(y:Str):Kn:=match gs.find? λ x=>decide (x.nm=y) with
 | some x=>x.kn
 | none=>⟨y,y,0,0,0⟩
theorem z7h {gs:List Gn}(nn:(gs.map Gn.nm).Nodup){x:Gn}(h:x∈gs):jw gs x.nm=x.kn:=by
 have aux:∀ (l:List Gn),(l.map Gn.nm).Nodup->x∈l->(l.find? λ y=>decide (y.nm=x.nm))=some x:=λ l=>by
  induction l with
  | nil=>intro _ h;cases h
  | cons y l ih =>
   intro nn h;rw [Y09,Y15] at nn;rcases Y06.mp h with rfl | h
   ·simp
   ·have ne:¬ y.nm=x.nm:=λ z=>nn.1 (z▸Y0c.mpr ⟨x,h,rfl⟩);rw [Y1c (by simpa using ne)];exact ih nn.2 h
 unfold jw;rw [aux gs nn h]
section
variable {dd:XQ}{gs L:List Gn}(P:Pg dd gs L)
include P
theorem Pg.bits {m:Nat}(fx:179){j:Nat}{d:Str}(hj:dd[j]?=some d)(hd:d∈dsL L):∀ (n:Nat) (pre:List Gn) (x:Gn) (post:List Gn),pre.length=n->gs=pre++x::post ->
  tb (rwN 126 (crL L) (evL L) (niL L) m x.nm).1 ((dsL L).idxOf d)=tb x.kn.own j/\tb (rwN 126 (crL L) (evL L) (niL L) m x.nm).2 ((dsL L).idxOf d)=(tb x.kn.lets j&&!tb x.kn.own j):=by
 intro n
 induction n using Nat.strongRecOn with
 | ind n IH =>
  intro pre x post hn e;have I:=P.gen pre x post e;have xL:x∈L:=(P.mem x).mpr (by rw [e];simp);obtain ⟨R,eR⟩:∃ R,R=rwN (fB (dsL L)) (crL L) (evL L) (niL L) m:=125;obtain ⟨i,ei⟩:∃ i,i=(dsL L).idxOf d:=125;have fxx:R x.nm=WM 126 (crL L) R (evL L) x.it:=by
   have h1:=fx x.nm (by rw [jr];exact Y0c.mpr ⟨x,xL,rfl⟩);rw [eR,<- h1];exact WO (by rw [jr];exact P.nL) _ (Uu xL)
  have Tag:qV (jw gs) (pre.map Gn.kn):=λ q hq=>by
   obtain ⟨z,hz,rfl⟩:=Y0c.mp hq;exact z7h P.nn (by rw [e];exact Y0w _ hz)
  have ih:∀ q∈pre.map Gn.kn,tb (R q.nm).1 i=tb q.own j/\tb (R q.nm).2 i=(tb q.lets j&&!tb q.own j)/\(q.kd="handler"->tb (crL L q.nm) i=tb q.x4 j):=λ q hq=>by
   obtain ⟨z,hz,rfl⟩:=Y0c.mp hq;obtain ⟨p1,p2,e1⟩:=Y30 hz;have e2:gs=p1++z::(p2++x::post):=by rw [e,e1,Y0k];rfl
   have q1:=IH p1.length (by rw [<- hn,e1];simp) p1 z (p2++x::post) rfl e2;rw [<- eR,<- ei] at q1;refine ⟨q1.1,q1.2,λ hk=>?_⟩;have zL:z∈L:=(P.mem z).mpr (by rw [e2];simp);have I2:=P.gen p1 z _ e2;have hH:=I2.hk hk;rw [I2.cls hH j d hj];show tb (crL L z.nm) i=_;rw [P.cr zL];unfold qB;rw [z0i z.it.heads I2.hn (λ y hy=>P.dds.mpr ⟨z,zL,Y0w _ hy⟩),decide_eq_decide,ei];constructor
   ·intro w;obtain ⟨y,hy,q⟩:=Y0c.mp w
    have:=WY hd q
    rw [<- this];exact hy
   ·intro w;exact Y0c.mpr ⟨d,w,rfl⟩
  have evt:tb (evL L) i=true:=by rw [ei];exact z9l hd
  have fe:∀ y,tb (fB (dsL L) y) i=decide (y=d):=λ y=>by rw [ei];exact z4t hd
  have nodes:∀ g∈x.it.bods,AllN (λ k _=>(oK 126 R (evL L) x.it.ownS i k=oL (jw gs) j d x.it.ownS k/\lK R (evL L) x.it.ownS i k=lL (jw gs) j x.it.ownS k)/\∀ y,k=.handle y->tb (crL L y) i=hL (jw gs) j y) g:=λ g hg=>by
   refine AllN.mono (λ k n ok=>?_) g (I.nodes g hg);cases k with
   | doo y =>
    refine ⟨⟨?_,?_⟩,λ _ z=>by cases z⟩
    ·show (tb (fB (dsL L) y) i||tb 0 i)=decide (y=d);rw [fe,zm,Y3b]
    ·exact zm i
   | handle y =>
    obtain ⟨_,q,hq,rfl,hk⟩:=ok.2;obtain ⟨a1,a2,a3⟩:=ih q hq;refine ⟨⟨?_,zm i⟩,λ y z=>?_⟩
    ·show (false||tb (R q.nm).1 i)=tb (jw gs q.nm).own j;rw [Tag q hq,a1];rfl
    ·injection z with z;subst z;show _=tb (jw gs q.nm).x4 j;rw [Tag q hq];exact a3 hk
   | call g o =>
    obtain ⟨_,_,s3⟩:=ok.2;refine ⟨?_,λ _ z=>by cases z⟩;by_cases z:x.it.ownS=some g
    ·have u:j9 R (evL L) x.it.ownS (.call g o)=(0,evL L):=if_pos z;have v1:oL (jw gs) j d x.it.ownS (.call g o)=false:=if_pos z;have v2:lL (jw gs) j x.it.ownS (.call g o)=true:=if_pos z;unfold oK lK;rw [u,v1,v2];exact ⟨by show (false||tb 0 i)=false;rw [zm];rfl,evt⟩
    ·obtain ⟨⟨q,hq,rfl⟩,s4⟩:=s3 z;obtain ⟨a1,a2,a3⟩:=ih q hq;cases o with
     | none =>
      have u:j9 R (evL L) x.it.ownS (.call q.nm none)=((R q.nm).1,0):=if_neg z;have v1:oL (jw gs) j d x.it.ownS (.call q.nm none)=tb (jw gs q.nm).own j:=if_neg z;have v2:lL (jw gs) j x.it.ownS (.call q.nm none)=false:=if_neg z;unfold oK lK;rw [u,v1,v2,Tag q hq];exact ⟨by show (false||tb (R q.nm).1 i)=_;rw [a1];rfl,zm i⟩
     | some b =>
      by_cases w:x.it.ownS=some b
      ·have u:j9 R (evL L) x.it.ownS (.call q.nm (some b))=R q.nm:=(if_neg z).trans (if_pos w);have v1:oL (jw gs) j d x.it.ownS (.call q.nm (some b))=tb (jw gs q.nm).own j:=(if_neg z).trans (if_pos w);have v2:lL (jw gs) j x.it.ownS (.call q.nm (some b))=(tb (jw gs q.nm).lets j&&!tb (jw gs q.nm).own j):=(if_neg z).trans (if_pos w);unfold oK lK;rw [u,v1,v2,Tag q hq];exact ⟨by show (false||tb (R q.nm).1 i)=_;rw [a1];rfl,a2⟩
      ·obtain ⟨q',hq',rfl⟩:=s4 b rfl w;obtain ⟨b1,b2,b3⟩:=ih q' hq';have u:j9 R (evL L) x.it.ownS (.call q.nm (some q'.nm))=(Builtin.bitOr (R q.nm).1 (Builtin.bitAnd (R q.nm).2 (R q'.nm).1),0):=(if_neg z).trans (if_neg w);have v1:oL (jw gs) j d x.it.ownS (.call q.nm (some q'.nm))=(tb (jw gs q.nm).own j||(tb (jw gs q.nm).lets j&&tb (jw gs q'.nm).own j)):=(if_neg z).trans (if_neg w);have v2:lL (jw gs) j x.it.ownS (.call q.nm (some q'.nm))=false:=(if_neg z).trans (if_neg w);unfold oK lK;rw [u,v1,v2,Tag q hq,Tag q' hq'];refine ⟨?_,zm i⟩;show (false||tb (Builtin.bitOr (R q.nm).1 (Builtin.bitAnd (R q.nm).2 (R q'.nm).1)) i)=_;rw [zD,jQ,a1,a2,b1];cases tb q.own j<;>simp
   | _=>exact ⟨⟨by show (false||tb 0 i)=false;rw [zm];rfl,zm i⟩,λ _ z=>by cases z⟩
  have a1:x.it.bods.any (sm (λ y=>tb (crL L y) i) (oK 126 R (evL L) x.it.ownS i))=x.it.bods.any (sm (hL (jw gs) j) (oL (jw gs) j d x.it.ownS)):=by
   rw [Y1x,Y1z,Y1z];constructor<;>(rintro ⟨g,hg,q⟩;refine ⟨g,hg,?_⟩)
   ·rw [<- q];exact (wZ g (AllN.mono (λ k n h=>⟨h.1.1,h.2⟩) g (nodes g hg))).symm
   ·rw [<- q];exact wZ g (AllN.mono (λ k n h=>⟨h.1.1,h.2⟩) g (nodes g hg))
  have a2:x.it.bods.any (sm (λ y=>tb (crL L y) i) (lK R (evL L) x.it.ownS i))=x.it.bods.any (sm (hL (jw gs) j) (lL (jw gs) j x.it.ownS)):=by
   rw [Y1x,Y1z,Y1z];constructor<;>(rintro ⟨g,hg,q⟩;refine ⟨g,hg,?_⟩)
   ·rw [<- q];exact (wZ g (AllN.mono (λ k n h=>⟨h.1.2,h.2⟩) g (nodes g hg))).symm
   ·rw [<- q];exact wZ g (AllN.mono (λ k n h=>⟨h.1.2,h.2⟩) g (nodes g hg))
  obtain ⟨r1,r2⟩:=z04 126 (crL L) R (evL L) x.it i;rw [<- fxx] at r1 r2;rw [a1,I.ow (jw gs) Tag j d hj] at r1;rw [<- eR,<- ei];refine ⟨r1,?_⟩;rw [r2,a2,r1,I.le (jw gs) Tag j d hj,Bool.and_comm]
theorem Pg.bitsL {m:Nat}(fx:179){j:Nat}{d:Str}(hj:dd[j]?=some d)(hd:d∈dsL L){x:Gn}(hx:x∈L) :
  tb (rwN 126 (crL L) (evL L) (niL L) m x.nm).1 ((dsL L).idxOf d)=tb x.kn.own j/\tb (rwN 126 (crL L) (evL L) (niL L) m x.nm).2 ((dsL L).idxOf d)=(tb x.kn.lets j&&!tb x.kn.own j):=by
 obtain ⟨pre,post,e,_⟩:=P.at hx;exact P.bits fx hj hd pre.length pre x post rfl e
theorem Pg.inO {j:Nat}{d:Str}(hj:dd[j]?=some d):∀ (n:Nat) (pre:List Gn) (x:Gn) (post:List Gn),pre.length=n->gs=pre++x::post->tb x.kn.own j=true->d∈dsL L:=by
 intro n
 induction n using Nat.strongRecOn with
 | ind n IH =>
  intro pre x post hn e h;have I:=P.gen pre x post e;rcases I.sub j d hj h with q | ⟨r,hr,q⟩
  ·rw [I.seen j d hj] at q;exact P.dds.mpr ⟨x,(P.mem x).mpr (by rw [e];simp),of_decide_eq_true q⟩
  ·obtain ⟨z,hz,rfl⟩:=Y0c.mp hr;obtain ⟨p1,p2,e1⟩:=Y30 hz;exact IH p1.length (by rw [<- hn,e1];simp) p1 z (p2++x::post) rfl (by rw [e,e1,Y0k];rfl) q
theorem Pg.inOL {j:Nat}{d:Str}(hj:dd[j]?=some d){x:Gn}(hx:x∈L)(h:tb x.kn.own j=true):d∈dsL L:=by
 obtain ⟨pre,post,e,_⟩:=P.at hx;exact P.inO hj pre.length pre x post rfl e h
theorem Pg.own {m:Nat}(fx:179){x:Gn}(hx:x∈L):j6 (ltL dd x.kn.own)=zy (rwN 126 (crL L) (evL L) (niL L) m x.nm).1 (dsL L):=by
 refine yW (fs:=(L.map Gn.it).flatMap It.dds) (λ d hd=>P.indd hd) λ j d hj=>?_;by_cases q:d∈dsL L
 ·have b:=(P.bitsL fx hj q hx).1;show _=(decide (d∈dsL L)&&tb _ ((dsL L).idxOf d));rw [decide_eq_true q,b];rfl
 ·show _=(decide (d∈dsL L)&&_);rw [decide_eq_false q];cases z:tb x.kn.own j with
  | false=>rfl
  | true=>exact absurd (P.inOL hj hx z) q
theorem Pg.lets {m:Nat}(fx:179){x:Gn}(hx:x∈L){s:Int}(hs:∀ j d,dd[j]?=some d->tb s j=decide (d∈dsL L)):j6 (ltL dd (Builtin.bitAnd x.kn.lets s-Builtin.bitAnd (Builtin.bitAnd x.kn.lets s) x.kn.own))=zy (rwN 126 (crL L) (evL L) (niL L) m x.nm).2 (dsL L):=by
 refine yW (fs:=(L.map Gn.it).flatMap It.dds) (λ d hd=>P.indd hd) λ j d hj=>?_;rw [wS,jQ,hs j d hj];by_cases q:d∈dsL L
 ·have b:=(P.bitsL fx hj q hx).2;show _=(decide (d∈dsL L)&&tb _ ((dsL L).idxOf d));rw [decide_eq_true q,b,Bool.and_true];rfl
 ·show _=(decide (d∈dsL L)&&_);rw [decide_eq_false q];simp
theorem Pg.spot0 {m:Nat}(fx:179){x:Gn}(hx:x∈L):j6 (ltL dd x.kn.own)=zy (qS 189 x.nm none) (dsL L):=by
 refine yW (fs:=(L.map Gn.it).flatMap It.dds) (λ d hd=>P.indd hd) λ j d hj=>?_;unfold qS z6z;by_cases q:d∈dsL L
 ·have b:=(P.bitsL fx hj q hx).1;show _=(decide (d∈dsL L)&&tb _ ((dsL L).idxOf d));rw [decide_eq_true q,zD,jQ,zm,b];simp
 ·show _=(decide (d∈dsL L)&&_);rw [decide_eq_false q];cases z:tb x.kn.own j with
  | false=>rfl
  | true=>exact absurd (P.inOL hj hx z) q
theorem Pg.spot1 {m:Nat}(fx:179){x f:Gn}(hx:x∈L)(hf:f∈L):j6 (ltL dd (Builtin.bitOr x.kn.own (Builtin.bitAnd x.kn.lets f.kn.own)))=zy (qS 189 x.nm (some f.nm)) (dsL L):=by
 refine yW (fs:=(L.map Gn.it).flatMap It.dds) (λ d hd=>P.indd hd) λ j d hj=>?_;unfold qS z6z;rw [zD,jQ];by_cases q:d∈dsL L
 ·obtain ⟨b1,b2⟩:=P.bitsL fx hj q hx;have b3:=(P.bitsL fx hj q hf).1;show _=(decide (d∈dsL L)&&tb _ ((dsL L).idxOf d));rw [decide_eq_true q,zD,jQ,b1,b2,b3];cases tb x.kn.own j<;>simp
 ·show _=(decide (d∈dsL L)&&_);rw [decide_eq_false q];have n1:tb x.kn.own j=false:=by
   cases z:tb x.kn.own j with
   | false=>rfl
   | true=>exact absurd (P.inOL hj hx z) q
  have n2:tb f.kn.own j=false:=by
   cases z:tb f.kn.own j with
   | false=>rfl
   | true=>exact absurd (P.inOL hj hf z) q
  rw [n1,n2];simp
end
theorem WZ:∀ {l:XQ},(∀ x∈l,PyData.strOk x=true)->PyData.canLayAll0 168=true
 | [],_=>rfl
 | b::r,h=>by rw [Y09];simp [PyData.canLayAll0,PyData.canLay0,WZ (λ x hx=>h x (Y03 _ hx)),h b (Y05 ..)]
theorem Uv:∀ (l:XQ),PyData.depthAll 168=0
 | []=>rfl
 | b::r=>by rw [Y09];simp [PyData.depthAll,PyData.depth,Uv r]
theorem Uw:∀ (l:XQ),PyData.eqvAll 168 168=true
 | []=>rfl
 | b::r=>by rw [Y09];simp [PyData.eqvAll,PyData.eqv,Uw r]
theorem Ux {h:Hh}:∀ (l:XQ),D.pds h (txs l)=some 168
 | []=>by unfold txs;rw [Y12,D.pds];rfl
 | b::r=>by
  have:=Ux (h:=h) r
  unfold txs at this ⊢;rw [Y09,D.pds,this];simp [D.pd]
theorem z9m {h:Hh}{a:Nat}{l:XQ}(ga:h[a]?=some (.lst (txs l))):D.pe h (.loc a)=some (.list 168):=by
 rw [D.pe,zS ga];show (D.pds h (txs l)).map PyData.list=_;rw [Ux];rfl
theorem ZW {h:Hh}{a b:Nat}{l:XQ}(ga:h[a]?=some (.lst (txs l)))(gb:h[b]?=some (.lst (txs l)))(ok:∀ x∈l,PyData.strOk x=true):jx .Eq (.loc a) (.loc b) h=.ok (.bl true) h/\jx .NotEq (.loc a) (.loc b) h=.ok (.bl false) h:=by
 have pa:∀ {a:Nat},h[a]?=some (.lst (txs l))->pdT h (.loc a)=some (.list 168):=λ {a} ga=>by
  show (PI.rd h a).bind (λ xs=>(D.pds h xs).map PyData.list)=_;rw [zS ga];show (D.pds h (txs l)).map PyData.list=_;rw [Ux];rfl
 rw [cmp_ne,cmp_eq,pa ga,pa gb];have c1:(PyData.list 168).canLay0=true:=by simp [PyData.canLay0,WZ ok]
 have c2:(PyData.list 168).depth<=60:=by simp [PyData.depth,Uv]
 have c3:PyData.eqv (.list 168) (.list 168)=true:=by simp [PyData.eqv,Uw]
 constructor
 ·show (if _ then _ else _)=_;rw [if_pos ⟨c1,c1,c2⟩,c3];rfl
 ·show (if _ then _ else _)=_;rw [if_pos ⟨c1,c1,c2⟩,c3];rfl
theorem z0k {h:Hh}{a b c d:Nat}{l m:XQ}(ga:h[a]?=some (.lst (txs l)))(gc:h[c]?=some (.lst (txs l)))(gb:h[b]?=some (.lst (txs m)))(gd:h[d]?=some (.lst (txs m)))(ok:∀ x∈l,PyData.strOk x=true)(ok2:∀ x∈m,PyData.strOk x=true) :
  jx .NotEq (.tup [.loc a,.loc b]) (.tup [.loc c,.loc d]) h=.ok (.bl false) h:=by
 have pa:∀ {a b:Nat},h[a]?=some (.lst (txs l))->h[b]?=some (.lst (txs m))->pdT h (.tup [.loc a,.loc b])=some (.tuple [.list 168,.list (m.map PyData.str)]):=λ {a b} ga gb=>by
  rw [pdT_tup,D.pes,D.pes,D.pes,z9m ga,z9m gb];rfl
 rw [cmp_ne,pa ga gb,pa gc gd];have c1:(PyData.tuple [.list 168,.list (m.map PyData.str)]).canLay0=true:=by simp [PyData.canLay0,PyData.canLayAll0,WZ ok,WZ ok2]
 have c2:(PyData.tuple [.list 168,.list (m.map PyData.str)]).depth<=60:=by simp [PyData.depth,PyData.depthAll,Uv]
 have c3:PyData.eqv (.tuple [.list 168,.list (m.map PyData.str)]) (.tuple [.list 168,.list (m.map PyData.str)])=true:=by simp [PyData.eqv,PyData.eqvAll,Uw]
 show (if _ then _ else _)=_;rw [if_pos ⟨c1,c1,c2⟩,c3];rfl
theorem z9n {dd:XQ}(nn:dd.Nodup)(v:Int):(ltL dd v).Nodup:=by
 unfold ltL;refine List.pairwise_map.mpr (List.Pairwise.imp_of_mem (λ {a b} ha hb hab=>?_) (List.nodup_range.filter _));have la:=Y1l.mp (Y1a.mp ha).1;have lb:=Y1l.mp (Y1a.mp hb).1;rw [Y0j,Y0j,Y07 la,Y07 lb];intro z;have z:dd[a]=dd[b]:=z;rcases Y2o a b with q | q | q
 ·exact Y0y.mp nn a b la lb q z
 ·exact hab q
 ·exact Y0y.mp nn b a lb la q z.symm
noncomputable def z3j (cl:107)(i:Nat):Prop:=∀ (dd:XQ) (nd:Nat) (v:Int) (h:Hh),h[nd]?=some 144->Dd dd->∃ n h',cl i [.int v,.loc nd] h=.ok 146 h'/\Kx [] h h'/\h'[n]?=some (.lst (txs (j6 (ltL dd v))))/\h.length<=n
section
variable {cl:107}{dd:XQ}
theorem z3k (nd:Nat)(v:Int)(h:Hh)(hd:h[nd]?=some 144)(D8:Dd dd):∃ n h',d_law_told.run cl [.int v,.loc nd] h=.ok 146 h'/\Kx [] h h'/\h'[n]?=some (.lst (txs (j6 (ltL dd v))))/\h.length<=n:=by
 have l8:=D8.l8;have key:=zW nD (c:=[]) (f:=j4 qP (jE [none,some 1,some 0] [some (.int v),some 138]) (λ ρ' h2=>c_law_told_1.evC cl ρ' h2) (λ ρ' h2=>e_law_told_1.ev cl ρ' h2)) (h:=h) zu (λ k=>if v/2 ^ k%2==1 then some (.str (dd.getD k "")) else none) (List.range dd.length) [] (λ k hk=>by
  have lk:=Y1l.mp hk;have rs:jl .RShift (.int v) (.int (k:Nat)) h=.ok (.int (v/2 ^ ((k:Nat):Int).toNat)) h:=by rw [bin_shr,if_pos 109]
  rw [show ((k:Nat):Int).toNat=k by omega] at rs;have s2:(txs dd)[((k:Nat):Int).toNat]?=some (.str (dd.getD k "")):=by
   rw [show ((k:Nat):Int).toNat=k by omega];unfold txs;rw [Y0l,Y0j,Y07 lk];rfl
  have e2:∀ b,(v/2 ^ k%2==1)=b->Es.evC cl c_law_told_1 [some (nD k),some 138,some (.int v)] h=.ok b h:=λ b hb=>VQ (zi (j7 (bnd rfl (bnd rfl rs)) rfl 108) rfl (by rw [<- hb];exact eqI));cases hb:v/2 ^ k%2==1 with
  | true=>rw [if_pos rfl];exact jK rfl (e2 _ hb) (qD rfl rfl hd 109 s2)
  | false=>rw [if_neg 111];exact yU rfl (e2 _ hb))
 rw [VR,Y0s] at key;have em:((List.range dd.length).filter λ k=>v/2 ^ k%2==1).map (λ k=>D.str (dd.getD k ""))=txs (ltL dd v):=by unfold txs ltL;rw [Y10];rfl
 rw [em] at key;have ll:(ltL dd v).length<=8:=by
  unfold ltL;rw [Y04];exact Y0n (Y2r _ _) (by rw [Y2q];exact l8)
 have lc:E.ev cl (.ofL (.comp e_law_told_1 qP (.rng (.len (.var 1 123) 123 123) 123 123) c_law_told_1 [] [none,some 1,some 0] ⟨.function,[],false,false,[]⟩ 123)) [some (.int v),some 138] h=.ok 121 (h++[.lst (txs (ltL dd v))]) :=
  zT (q:=([],(List.range dd.length).map nD)) ((QO (q9 rfl hd) (by rw [txs_len];omega)).trans (by rw [txs_len,show ((dd.length:Nat):Int).toNat=dd.length by omega])) 175 key
 refine ⟨(h++[O.lst (txs (ltL dd v))]).length,h++[.lst (txs (ltL dd v))]++[.lst (txs (j6 (ltL dd v)))],zg (zj (bnd lc ?_)),(Kx.app _ _).trans (Kx.app _ _),zo _ _,by simp⟩;show c1D .srt 121 (h++[.lst (txs (ltL dd v))])=_;unfold c1D;dsimp only;rw [zS (zo _ _)];show (match wu (txs (ltL dd v)) with | some ss=>if ss.length<64/\ss.Nodup then new (.lst ((j6 ss).map .str)) _ else .no | none=>.no)=_
 unfold txs;rw [Zx];exact if_pos ⟨by omega,z9n D8.nn v⟩
theorem Q0:∀ {l:List Tl}{q:Tl},q∈l->(l.map (·.1)).Nodup->zI (kvT l) (.inr q.1)=some (.tup [.loc q.2.1,.loc q.2.2])
 | y::l,q,hq,nd=>by
  rw [Y09,Y15] at nd;unfold kvT;rw [Y09];rcases Y06.mp hq with rfl | hq
  ·simp [zI]
  ·have ne:¬ y.1=q.1:=λ z=>nd.1 (z▸Y0c.mpr ⟨q,hq,rfl⟩);have ih:=Q0 hq nd.2;unfold kvT at ih;simp [zI,ne] at ih ⊢;exact ih
theorem Kx.rd {h h':Hh}(k:Kx [] h h'){n:Nat}{xs:153}(e:rd h n=some xs):rd h' n=some xs:=by
 unfold PI.rd at e ⊢;split at e
 ·rename_i ys q;rw [k.2 _ _ q 111];exact e
 ·cases e
theorem TabOk.keep0 {h h':Hh}{nt:Nat}{r:XX}{ds:XQ}{l:List Tl}(t:TabOk h nt r ds l)(k:Kx [] h h'):TabOk h' nt r ds l:=t.keep (k.more _)
theorem G2 {ρ:En}{h h1:Hh}{e:E}{p:Pos}{b:Bool}(he:e.ev cl ρ h=.ok (.bl b) h1):E.evT cl (.un .Not e p) ρ h=.ok (!b) h1:=bnd (bnd he rfl) rfl
theorem ZX (Lt:z3j cl 38)(D8:Dd dd)(sd:∀ x∈dd,PyData.strOk x=true){gs L:List Gn}(P:Pg dd gs L){m:Nat}(fx:179){s:Int}(hs:∀ j d,dd[j]?=some d->tb s j=decide (d∈dsL L))(nt no nd:Nat)(all:153)(tl:List Tl)(etl:tl.map (·.1)=L.map Gn.nm):∀ (rest:List Gn) (a b c d:Option D) (h:Hh),(∀ x∈rest,x∈L)->h[nt]?=some (.dK (kvT tl))->TabOk h nt 189 (dsL L) tl->h[nd]?=some 144->rd h no=some all ->
  ∃ h' a' b' c' d',zH [(no,all)] (zO Jb λ ρ' h'=>b_law_alike_1.run cl ρ' h') (rest.map λ x=>x.kn.d) [some (.loc nt),some (.loc no),some (.int s),some 138,a,b,c,d] h=.nx [some (.loc nt),some (.loc no),some (.int s),some 138,a',b',c',d'] h'/\Kx [] h h'
 | [],a,b,c,d,h,hr,gt,to,hd,hn=>⟨h,a,b,c,d,by rw [Y12,zH,if_pos (stay_one.mpr hn)],Kx.refl _ _⟩
 | x::rest,a,b,c,d,h,hr,gt,to,hd,hn=>by
  have xL:=hr x Y05;obtain ⟨q,hq,eq⟩:∃ q∈tl,q.1=x.nm:=by
   have:x.nm∈tl.map (·.1):=by rw [etl];exact Y0c.mpr ⟨x,xL,rfl⟩
   obtain ⟨q,hq,e⟩:=Y0c.mp this;exact ⟨q,hq,e⟩
  have v:=Q0 hq (by rw [etl];exact P.nL);rw [eq] at v;have sv:=ZP gt v;obtain ⟨_,_,t1,t2⟩:=to q hq;rw [eq,<- P.own fx xL] at t1;rw [eq,<- P.lets fx xL hs] at t2;obtain ⟨n1,h1,e1,k1,g1,_⟩:=Lt dd nd x.kn.own h hd D8;obtain ⟨n2,h2,e2,k2,g2,_⟩:=Lt dd nd (Builtin.bitAnd x.kn.lets s-Builtin.bitAnd (Builtin.bitAnd x.kn.lets s) x.kn.own) h1 (k1.2 _ _ hd 111) D8;have k12:=k1.trans k2;have okl:∀ v,∀ y∈j6 (ltL dd v),PyData.strOk y=true:=λ v y hy=>by
   rw [jF,Us] at hy;obtain ⟨j,e,_⟩:=hy;exact sd y (Y0v e)
  have cmp:=z0k (h:=h2) (k12.2 _ _ t1 111) (k2.2 _ _ g1 111) (k12.2 _ _ t2 111) g2 (okl _) (okl _);obtain ⟨h',a',b',c',d',e3,k3⟩:=ZX Lt D8 sd P fx hs nt no nd all tl etl rest (some x.kn.d) (some (.tup [.loc q.2.1,.loc q.2.2])) (some (.int (Builtin.bitAnd x.kn.lets s))) (some (.tup [.loc n1,.loc n2])) h2 (λ y hy=>hr y (Y03 _ hy)) (k12.2 _ _ gt 111) (to.keep0 k12) (k12.2 _ _ hd 111) (k12.rd hn);refine ⟨h',a',b',c',d',QN (stay_one.mpr hn) ?_ e3,k12.trans k3⟩;exact zd (bnd rfl (bnd 112 sv)) (zd (bnd 112 174) (zd (zX (cns (zC 112 119 e1) (cns (zC (bnd rfl (bnd (bnd rfl (bnd 112 rfl)) rfl)) 119 e2) rfl)) (show 2<=1000 by decide)) (zx (z98 (G2 (b:=true) rfl) (zi rfl rfl cmp)) rfl)))
theorem z3l (Lt:z3j cl 38)(D8:Dd dd)(sd:∀ x∈dd,PyData.strOk x=true){gs L:List Gn}(P:Pg dd gs L)(sn:∀ x∈L,PyData.strOk x.nm=true){m:Nat}(fx:179){s:Int}(hs:∀ j d,dd[j]?=some d->tb s j=decide (d∈dsL L))(nt no nd:Nat)(tl:List Tl)(etl:tl.map (·.1)=L.map Gn.nm)(h:Hh)(gt:h[nt]?=some (.dK (kvT tl)))(to:TabOk h nt 189 (dsL L) tl)(hd:h[nd]?=some 144)(hn:h[no]?=some (.lst (L.map λ x=>x.kn.d))) :
  ∃ h',d_law_alike.run cl [.loc nt,.loc no,.int s,.loc nd] h=.ok (.bl true) h'/\Kx [] h h':=by
 have ek:(kvT tl).map (λ p=>dK1 p.1)=txs (L.map Gn.nm):=by
  unfold kvT txs;rw [<- etl,Y10,Y10];rfl
 have l1:E.ev cl (.c1 .lks (.var 0 123) 123 123) [some (.loc nt),some (.loc no),some (.int s),some 138,none,none,none,none] h=.ok 121 (h++[.lst (txs (L.map Gn.nm))]):=by
  refine bnd rfl ?_;show c1D .lks (.loc nt) h=_;unfold c1D;dsimp only;rw [gt];dsimp only;rw [ek];rfl
 have hn1:(h++[O.lst (txs (L.map Gn.nm))])[no]?=some (.lst (L.map λ x=>x.kn.d)):=zh hn;have key:=zW (λ x:Gn=>x.kn.d) (c:=[(no,L.map λ x=>x.kn.d)]) (f:=j4 Jc (jE [none] [some (.loc nt),some (.loc no),some (.int s),some 138,none,none,none,none]) (λ ρ' h2=>c_law_alike_2.evC cl ρ' h2) (λ ρ' h2=>e_law_alike_2.ev cl ρ' h2)) (h:=h++[.lst (txs (L.map Gn.nm))]) (stay_one.mpr (zS hn1)) (λ x=>some (.str x.nm)) L [] (λ x hx=>jK rfl rfl 112);rw [jX,Y0s] at key;have em:L.map (λ x=>D.str x.nm)=txs (L.map Gn.nm):=by unfold txs;rw [Y10];rfl
 rw [em] at key;have sL:∀ y∈L.map Gn.nm,PyData.strOk y=true:=λ y hy=>by
  obtain ⟨x,hx,rfl⟩:=Y0c.mp hy;exact sn x hx
 have cmp:=(ZW (h:=h++[O.lst (txs (L.map Gn.nm))]++[O.lst (txs (L.map Gn.nm))]) (a:=h.length) (b:=(h++[O.lst (txs (L.map Gn.nm))]).length) (zh (zo _ _)) (zo _ _) sL).2;have k2:Kx [] h (h++[O.lst (txs (L.map Gn.nm))]++[O.lst (txs (L.map Gn.nm))]):=(Kx.app _ _).trans (Kx.app _ _);obtain ⟨h',a',b',c',d',e3,k3⟩:=ZX (cl:=cl) Lt D8 sd P fx hs nt no nd (L.map λ x=>x.kn.d) tl etl L none none none none _ (λ x hx=>hx) (k2.2 _ _ gt 111) (to.keep0 k2) (k2.2 _ _ hd 111) (k2.rd (zS hn));refine ⟨h',zg (zx (z98 (G2 (b:=true) (bnd rfl ?_)) (zi l1 (zT (wX rfl hn1) (by rw [Y04];have:=P.lenL;omega) key) cmp)) (jp (wX rfl (k2.2 _ _ hn 111)) e3 (zj rfl))),k2.trans k3⟩;show (match isI h (.loc nt) 5 with | some b=>Res.ok (D.bl b) h | none=>.no)=_
 unfold isI PI.rd;dsimp only;rw [gt];rfl
end
noncomputable def G3 (cl:107)(i:Nat)(f cr:141)(ev:Int)(ds:XQ)(l:List Ni):Prop:=∀ (x:Str) (o:XY) (h:Hh),x∈l.map (·.1)->(∀ b,o=some b->b∈l.map (·.1)) ->
  ∃ h' n m,cl i [.tup 135,.str x,jq o] h=.ok 146 h'/\Kx [] h h'/\h'[n]?=some (.lst (txs (zy (qS (rwN f cr ev l m) x o) ds)))/\Fix f cr ev l m
theorem z3m {α:Type}(xs:List α)(y:α):atI (xs++[y]) (-1)=some y:=by
 unfold atI ixN;rw [if_neg 108,Y0e,Y26,if_pos 109,show ((-1:Int)+((xs.length+1:Nat):Int)).toNat=xs.length by omega];show (xs++[y])[xs.length]?=_;rw [Y0m 169,Y1q];rfl
section
variable {cl:107}{dd:XQ}
theorem z7i (Pk:WW cl 27)(Lt:z3j cl 38)(D8:Dd dd)(sd:∀ x∈dd,PyData.strOk x=true){gs L:List Gn}(P:Pg dd gs L)(Ro:G3 cl 18 126 (crL L) (evL L) (dsL L) (niL L))(g0:gs≠[])(nk nd:Nat)(c:Int)(h:Hh)(hd:h[nd]?=some 144)(hk:h[nk]?=some (.lst (gs.map λ x=>x.kn.d))) :
  ∃ h',d_law_last.run cl [.loc nk,.tup 173,.loc nd,.int c] h=.ok (.bl true) h':=by
 obtain ⟨pre,x,e⟩:∃ pre x,gs=pre++[x]:=by
  rcases Y2s gs with z | ⟨p,x,z⟩
  ·exact absurd z g0
  ·exact ⟨p,x,by rw [z,Y2t]⟩
 have I:=P.gen pre x [] e;have xL:x∈L:=(P.mem x).mpr (by rw [e];simp);have sk:∀ q∈gs.map Gn.kn,PyData.strOk q.kd=true:=λ q hq=>by
  obtain ⟨z,hz,rfl⟩:=Y0c.mp hq;obtain ⟨_,_,_,I2⟩:=P.at ((P.mem z).mpr hz);exact I2.sk
 have nmi:∀ z∈L,z.nm∈(niL L).map (·.1):=λ z hz=>by rw [jr];exact Y0c.mpr ⟨z,hz,rfl⟩
 have hk':h[nk]?=some (.lst ((gs.map Gn.kn).map Kn.d)):=by rw [hk,Y10];rfl
 obtain ⟨h1,r,e1,k1,q1⟩:=Pk (gs.map Gn.kn) nk "plain" c h hk' jS sk (by rw [Y04];have:=P.len;omega);have hd1:=k1.2 _ _ hd 111;have okl:∀ v,∀ y∈j6 (ltL dd v),PyData.strOk y=true:=λ v y hy=>by
  rw [jF,Us] at hy;obtain ⟨j,e,_⟩:=hy;exact sd y (Y0v e)
 have sl:jC (.loc nk) (.int (-1)) h=.ok x.kn.d h:=by
  unfold jC;dsimp only;rw [hk];dsimp only;rw [e,Y0q,Y09,Y12,z3m]
 have st:∀ {o:RS},Ss.run cl (jc 2 d_law_last.body) [some (.loc nk),some (.tup 173),some 138,some (.int c),some x.kn.d,some (pkD r),none] h1=o->d_law_last.run cl [.loc nk,.tup 173,.loc nd,.int c] h=jy o:=λ {o} k=>congrArg jy (zd (bnd rfl (bnd 174 sl)) (zd (zC rfl 139 e1) k));have n0:=neS (h:=h1) I.sk qW;by_cases z:x.kn.kd="open"
 ·rw [z] at n0;have n1:jx .NotEq (.str x.kn.kd) (.str "open") h1=.ok (.bl false) h1:=by rw [z];exact n0.trans (by rfl)
  cases r with
  | none=>exact ⟨h1,(st (zx (zi 112 rfl n1) (ja 132 (zj rfl)))).trans rfl⟩
  | some q =>
   obtain ⟨hq,_⟩:=q1 q rfl;obtain ⟨f,hf,rfl⟩:=Y0c.mp hq;have fL:f∈L:=(P.mem f).mpr hf;obtain ⟨n2,h2,e2,k2,g2,_⟩:=Lt dd nd (Builtin.bitOr x.kn.own (Builtin.bitAnd x.kn.lets f.kn.own)) h1 hd1 D8;obtain ⟨h3,n3,m,e3,k3,g3,fx⟩:=Ro x.nm (some f.nm) h2 (nmi x xL) (λ b hb=>by injection hb with hb;rw [<- hb];exact nmi f fL);rw [<- P.spot1 fx xL fL] at g3;exact ⟨h3,(st (zx (zi 112 rfl n1) (zx 132 (zd (zC (bnd 112 (bnd (bnd 112 (bnd 112 rfl)) rfl)) 119 e2) (zj (bnd (zC rfl (cns 112 (cns 112 rfl)) e3) (bnd rfl (ZW g3 (k3.2 _ _ g2 111) (okl _)).1))))))).trans rfl⟩
 ·have n1:jx .NotEq (.str x.kn.kd) (.str "open") h1=.ok (.bl true) h1:=by rw [n0,beq_false_of_ne z];rfl
  obtain ⟨h3,n3,m,e3,k3,g3,fx⟩:=Ro x.nm none h1 (nmi x xL) (λ b hb=>by cases hb);rw [<- P.spot0 fx xL] at g3;obtain ⟨n2,h2,e2,k2,g2,_⟩:=Lt dd nd x.kn.own h3 (k3.2 _ _ hd1 111) D8;exact ⟨h2,(st (ja (zi 112 rfl n1) (zj (bnd (bnd rfl (bnd (cns 112 rfl) e3)) (bnd (zC 112 119 e2) (ZW (k2.2 _ _ g3 111) g2 (okl _)).1))))).trans rfl⟩
end
noncomputable def Uy (cl:107)(i:Nat)(ns:195):Prop:=∀ (dd:XQ) (kn:List Kn) (k:Nat) (nms:XQ) (nm:Str) (nk nn nd:Nat) (h:Hh),k<100->h[nk]?=some (.lst (kn.map Kn.d))->h[nn]?=some (.lst (txs nms))->h[nd]?=some 144->nms[k]?=some nm->nms.length<=100->KnsOk kn none->(∀ q∈kn,∀ c,nmv 8 c≠q.nm)->Dd dd->ItR dd kn nm h (cl i [scr ns,.int k,.loc nk,.loc nn,.loc nd] h)
structure Hp (dd nms:XQ)(gs:List Gn)(h:Hh):Prop where
 h0:h[0]?=some (.lst (txs nms))
 h1:h[1]?=some 144
 h2:h[2]?=some (.lst (gs.map λ x=>x.it.d))
 h3:h[3]?=some (.lst (gs.map λ x=>x.kn.d))
 gen:G0 dd gs
 nm:gs.map Gn.nm=nms.take gs.length
theorem z0l {dd:XQ}{gs:List Gn}{y:Gn}(g:G0 dd gs)(I:ItI dd (gs.map Gn.kn) y.it y.kn y.s):G0 dd (gs++[y]):=by
 intro pre x post e;rcases Y2s post with rfl | ⟨p,z,rfl⟩
 ·have e':gs++[y]=pre++[x]:=e;obtain ⟨e1,e2⟩:=List.append_inj' e' rfl;injection e2 with e2;subst e1;subst e2;exact I
 ·rw [Y2t] at e;have e':gs++[y]=(pre++x::p)++[z]:=by rw [e,Y0k];rfl
  exact g pre x p (List.append_inj' e' rfl).1
section
variable {cl:107}{dd nms:XQ}
theorem Hp.nmk {gs:List Gn}{h:Hh}(H:Hp dd nms gs h)(NK:NmsK nms){x:Gn}(hx:x∈gs):∃ k,k<nms.length/\NmK k x.nm:=by
 have:x.nm∈nms.take gs.length:=by rw [<- H.nm];exact Y0c.mpr ⟨x,hx,rfl⟩
 obtain ⟨k,hk⟩:=Y1u (List.mem_of_mem_take this);exact ⟨k,(Y01.mp hk).1,NK k _ hk⟩
theorem Hp.kns {gs:List Gn}{h:Hh}(H:Hp dd nms gs h)(NK:NmsK nms)(l7:gs.length<=7):KnsOk (gs.map Gn.kn) none:=by
 have at':∀ q∈gs.map Gn.kn,∃ x∈gs,x.kn=q/\∃ pre,ItI dd pre x.it x.kn x.s:=λ q hq=>by
  obtain ⟨x,hx,rfl⟩:=Y0c.mp hq;obtain ⟨pre,post,e⟩:=Y30 hx;exact ⟨x,hx,rfl,_,H.gen pre x post e⟩
 refine ⟨λ q hq=>?_,λ q hq=>?_,λ q hq=>?_,λ q hq z=>(by cases z),λ _ z=>(by cases z),by rw [Y04];omega⟩
 ·obtain ⟨x,hx,rfl,_,I⟩:=at' q hq;obtain ⟨k,_,hk⟩:=H.nmk NK hx;exact hk.ok
 ·obtain ⟨x,hx,rfl,_,I⟩:=at' q hq;exact I.sk
 ·obtain ⟨x,hx,rfl,_,I⟩:=at' q hq;exact I.op
theorem Ye (ns:195)(Im:Uy cl 37 ns)(D8:Dd dd)(NK:NmsK nms)(l7:nms.length<=7):∀ (cnt:Nat) (gs:List Gn) (seen:Int) (x6 x7 x8 x9:Option D) (h:Hh),gs.length+cnt=nms.length->Hp dd nms gs h->(∀ j,tb seen j=gs.any λ x=>tb x.s j) ->
  ∃ h' gs' seen' x6' x7' x8' x9',zH [] (zO Vx λ ρ' h'=>b_law_1.run cl ρ' h') ((List.range' gs.length cnt).map nD) [some (scr ns),some (.loc 0),some (.loc 1),some (.loc 2),some (.loc 3),some (.int seen),x6,x7,x8,x9,none,none,none] h=.nx [some (scr ns),some (.loc 0),some (.loc 1),some (.loc 2),some (.loc 3),some (.int seen'),x6',x7',x8',x9',none,none,none] h'/\gs'.length=nms.length/\Hp dd nms gs' h'/\(∀ j,tb seen' j=gs'.any λ x=>tb x.s j)
 | 0,gs,seen,x6,x7,x8,x9,h,hl,H,hs=>⟨h,gs,seen,x6,x7,x8,x9,by rw [List.range'_zero,Y12,zH,if_pos zu],hl,H,hs⟩
 | cnt+1,gs,seen,x6,x7,x8,x9,h,hl,H,hs=>by
  have lg:gs.length<nms.length:=by omega
  obtain ⟨nm,en⟩:∃ nm,nms[gs.length]?=some nm:=⟨_,Y07 lg⟩;have h3':h[3]?=some (.lst ((gs.map Gn.kn).map Kn.d)):=by rw [H.h3,Y10];rfl
  obtain ⟨h1,it,q,s,e1,k1,I,qn⟩:=Im dd (gs.map Gn.kn) gs.length nms nm 3 0 1 h 109 h3' H.h0 H.h1 en 109 (H.kns NK 109) (λ q hq c z=>by
   obtain ⟨x,hx,rfl⟩:=Y0c.mp hq;obtain ⟨k,kl,hk⟩:=H.nmk NK hx;exact hk.ne (Um (k:=8) (c:=c) 108) 109 109 z.symm) D8
  have a0:=k1.2 _ _ H.h0 111;have a1:=k1.2 _ _ H.h1 111;have a2:=k1.2 _ _ H.h2 111;have a3:=k1.2 _ _ H.h3 111;have b3:(h1.set 2 (.lst (gs.map (λ x=>x.it.d)++[it.d])))[3]?=some (.lst (gs.map λ x=>x.kn.d)):=j5 a3 108;have b2:(h1.set 2 (.lst (gs.map (λ x=>x.it.d)++[it.d])))[2]?=some (.lst (gs.map (λ x=>x.it.d)++[it.d])):=wY a2;have st:zO Vx (λ ρ' h'=>b_law_1.run cl ρ' h') (nD gs.length) [some (scr ns),some (.loc 0),some (.loc 1),some (.loc 2),some (.loc 3),some (.int seen),x6,x7,x8,x9,none,none,none] h=.nx [some (scr ns),some (.loc 0),some (.loc 1),some (.loc 2),some (.loc 3),some (.int (Builtin.bitOr seen s)),some (nD gs.length),some it.d,some q.d,some (.int s),none,none,none] ((h1.set 2 (.lst (gs.map (λ x=>x.it.d)++[it.d]))).set 3 (.lst (gs.map (λ x=>x.kn.d)++[q.d]))) :=
   wC (zC rfl (cns rfl (cns rfl 139)) e1) rfl (yI (JN rfl ⟨_,a2⟩ rfl a2 (by rw [Y04];omega)) (yI (JN rfl ⟨_,b3⟩ rfl b3 (by rw [Y04];omega)) (zd 112 rfl)))
  have H':Hp dd nms (gs++[⟨it,q,s⟩]) ((h1.set 2 (.lst (gs.map (λ x=>x.it.d)++[it.d]))).set 3 (.lst (gs.map (λ x=>x.kn.d)++[q.d]))):=by
   refine ⟨j5 (j5 a0 108) 108,j5 (j5 a1 108) 108,?_,?_,z0l H.gen I,?_⟩
   ·rw [j5 b2 108,Y0q];rfl
   ·rw [wY b3,Y0q];rfl
   ·rw [Y0q,H.nm,Y0e,Y26,List.take_succ,en];show _++[q.nm]=_;rw [qn];rfl
  obtain ⟨h',gs',seen',y6,y7,y8,y9,e2,l2,H2,s2⟩:=Ye ns Im D8 NK l7 cnt (gs++[⟨it,q,s⟩]) (Builtin.bitOr seen s) (some (nD gs.length)) (some it.d) (some q.d) (some (.int s)) _ 175 H' (λ j=>by rw [zD,hs j,List.any_append];simp);refine ⟨h',gs',seen',y6,y7,y8,y9,?_,l2,H2,s2⟩;rw [List.range'_succ,Y09,zH,if_pos zu,st];rw [Y0e,Y26] at e2;exact e2
end
noncomputable def G4 (cl:107)(i:Nat):Prop:=∀ (m c:Int) (h:Hh),1<=m/\m<=8->∃ nms:List Str,cl i [.int m,.int c] h=.ok 121 (h++[.lst (txs nms)])/\nms.length=m.toNat/\NmsK nms
noncomputable def z0m (cl:107)(i:Nat)(L:List Gn):Prop:=∀ h:Hh,∃ h' nt tl m,cl i [.tup 173] h=.ok (.loc nt) h'/\Kx [] h h'/\h.length<=nt/\tl.map (·.1)=L.map Gn.nm/\h'[nt]?=some (.dK (kvT tl))/\TabOk h' nt 189 (dsL L) tl/\Fix 126 (crL L) (evL L) (niL L) m
noncomputable def G5 (cl:107)(i:Nat):Prop:=∀ (dd:XQ),Dd dd->(∀ x∈dd,PyData.strOk x=true)->∀ (gs L:List Gn),Pg dd gs L->(∀ x∈L,PyData.strOk x.nm=true)->∀ (m:Nat),Fix 126 (crL L) (evL L) (niL L) m->∀ (s:Int),(∀ j d,dd[j]?=some d->tb s j=decide (d∈dsL L))->∀ (nt no nd:Nat) (tl:List Tl),tl.map (·.1)=L.map Gn.nm->∀ (h:Hh),h[nt]?=some (.dK (kvT tl))->TabOk h nt 189 (dsL L) tl->h[nd]?=some 144->h[no]?=some (.lst (L.map λ x=>x.kn.d)) ->
  ∃ h',cl i [.loc nt,.loc no,.int s,.loc nd] h=.ok (.bl true) h'/\Kx [] h h'
noncomputable def z0n (cl:107)(i:Nat):Prop:=∀ (dd:XQ),Dd dd->(∀ x∈dd,PyData.strOk x=true)->∀ (gs L:List Gn),Pg dd gs L->gs≠[]->∀ (nk nd:Nat) (c:Int) (h:Hh),h[nd]?=some 144->h[nk]?=some (.lst (gs.map λ x=>x.kn.d))->∃ h',cl i [.loc nk,.tup 173,.loc nd,.int c] h=.ok (.bl true) h'
theorem z4u {h:Hh}{n:Nat}{xs:153}(g:h[n]?=some 178):m0D .reverse 146 h=.ok .non (h.set n (.lst xs.reverse)):=by
 unfold m0D;dsimp only;rw [g]
section
variable {cl:107}
theorem z3n (ns:195)(Ce:Uq cl 24 ns)(Nm:G4 cl 26)(Im:Uy cl 37 ns)(Op:∀ dd gs L,dd.length<=8->Pg dd gs L->z0m cl 17 L)(Al:G5 cl 39)(La:z0n cl 40):∃ h',d_law.run cl [scr ns] []=.ok (.bl true) h':=by
 have c0:=λ h=>Ce 0 h 108;have c1:=λ h=>Ce 1 h 108;have c2:=λ h=>Ce 2 h 108;have c3:=λ h=>Ce 3 h 108;generalize wf ns 0=v0 at c0;generalize wf ns 1=v1 at c1;generalize wf ns 2=v2 at c2;generalize wf ns 3=v3 at c3;obtain ⟨nms,n1,n2,NK⟩:=Nm (1+v0%7) v1 [] 109;obtain ⟨dd,m1,m2,DK⟩:=Nm (1+v3%8) v2 [.lst (txs nms)] 109;have l7:nms.length<=7:=by omega
 have D8:Dd dd:=⟨by omega,by omega,DK.nodup 109⟩;have sd:∀ x∈dd,PyData.strOk x=true:=λ x hx=>by
  obtain ⟨k,hk⟩:=Y1u hx;exact (DK k x hk).ok
 obtain ⟨h1,gs,seen,x6,x7,x8,x9,eg,lg,H,hs⟩:=Ye ns Im D8 NK l7 nms.length [] 0 none none none none [.lst (txs nms),.lst (txs dd),.lst [],.lst []] 111 ⟨rfl,rfl,rfl,rfl,λ pre x post e=>by simp at e,rfl⟩ (λ j=>zm j);have g0:gs≠[]:=λ z=>by rw [z] at lg;simp at lg;omega
 have nn:(gs.map Gn.nm).Nodup:=by rw [H.nm];exact (NK.nodup 109).sublist (List.take_sublist _ _)
 have lh:3<h1.length:=(Y01.mp H.h3).1;have o2:∃ (L:List Gn) (h2:Hh),Pg dd gs L/\(∀ x,x∈L ↔ x∈gs)/\L≠[]/\Ss.run cl (qp 1 (jc 7 d_law.body)) [some (scr ns),some (.loc 0),some (.loc 1),some (.loc 2),some (.loc 3),some (.int seen),x6,x7,x8,x9,some (.loc h1.length),none,none] (h1++[.lst (gs.map λ x=>x.kn.d)])=.nx [some (scr ns),some (.loc 0),some (.loc 1),some (.loc 2),some (.loc 3),some (.int seen),x6,x7,x8,x9,some (.loc h1.length),none,none] h2/\h2[1]?=some 144/\h2[2]?=some (.lst (L.map λ x=>x.it.d))/\h2[3]?=some (.lst (gs.map λ x=>x.kn.d))/\h2[h1.length]?=some (.lst (L.map λ x=>x.kn.d)):=by
  by_cases z:v3/8%2=1
  ·have a2:(h1++[O.lst (gs.map λ x=>x.kn.d)])[2]?=some (.lst (gs.map λ x=>x.it.d)):=zh H.h2;have a10:(h1++[O.lst (gs.map λ x=>x.kn.d)])[h1.length]?=some (.lst (gs.map λ x=>x.kn.d)):=zo _ _;have b10:=j5 (o:=O.lst (gs.map λ x=>x.it.d).reverse) a10 (show h1.length≠2 by omega);refine ⟨gs.reverse,_,⟨H.gen,nn,λ x=>Y3w,by rw [Y3f];exact List.pairwise_reverse.mpr (nn.imp λ h=>Ne.symm h),by omega,by rw [Y3n];omega⟩,λ x=>Y3w,by simpa using g0,qN ((wn (j7 (jH (zC rfl 119 (c3 _)) rfl 108) rfl 108) rfl).trans (by rw [z];rfl)) (yI (bnd rfl (z4u a2)) (yI (bnd rfl (z4u b10)) rfl)) rfl,?_,?_,?_,?_⟩
   ·exact j5 (j5 (zh H.h1) 108) 109
   ·rw [j5 (wY a2) 109,Y3f]
   ·exact j5 (j5 (zh H.h3) 108) 109
   ·rw [wY b10,Y3f]
  ·exact ⟨gs,_,⟨H.gen,nn,λ x=>Iff.rfl,nn,by omega,by omega⟩,λ x=>Iff.rfl,g0,zx ((wn (j7 (jH (zC rfl 119 (c3 _)) rfl 108) rfl 108) rfl).trans (by rw [beq_false_of_ne z])) rfl,zh H.h1,zh H.h2,zh H.h3,zo _ _⟩
 obtain ⟨L,h2,P,mem,L0,e2,a1,a2,a3,a10⟩:=o2;have sn:∀ x∈L,PyData.strOk x.nm=true:=λ x hx=>by
  obtain ⟨k,_,hk⟩:=H.nmk NK ((mem x).mp hx);exact hk.ok
 have hsL:∀ j d,dd[j]?=some d->tb seen j=decide (d∈dsL L):=λ j d hj=>by
  rw [hs j,Y1x,Y1z,decide_eq_true_eq,P.dds];constructor
  ·rintro ⟨x,hx,q⟩
   obtain ⟨_,_,_,I⟩:=P.at ((mem x).mpr hx);rw [I.seen j d hj] at q;exact ⟨x,(mem x).mpr hx,of_decide_eq_true q⟩
  ·rintro ⟨x,hx,q⟩
   obtain ⟨_,_,_,I⟩:=P.at hx;exact ⟨x,(mem x).mp hx,by rw [I.seen j d hj];exact decide_eq_true q⟩
 have ep:(niL L).map (λ p=>p.2.d)=L.map λ x=>x.it.d:=by unfold niL;rw [Y10];rfl
 obtain ⟨h3,nt,tl,m,e3,k3,ln,et,gt,to,fx⟩:=Op dd gs L D8.l8 P h2;have b1:=k3.2 _ _ a1 111;have b3:=k3.2 _ _ a3 111;have b10:=k3.2 _ _ a10 111;obtain ⟨h4,e4,k4⟩:=Al dd D8 sd gs L P sn m fx seen hsL nt h1.length 1 tl et h3 gt to b1 b10;obtain ⟨x,L',eL⟩:∃ x L',L=x::L':=by
  cases L with
  | nil=>exact absurd rfl L0
  | cons x L'=>exact ⟨x,L',rfl⟩
 have xL:x∈L:=by rw [eL];exact Y05
 obtain ⟨q,hq,eq⟩:∃ q∈tl,q.1=x.nm:=by
  have:x.nm∈tl.map (·.1):=by rw [et];exact Y0c.mpr ⟨x,xL,rfl⟩
  obtain ⟨q,hq,e⟩:=Y0c.mp this;exact ⟨q,hq,e⟩
 have vq:=Q0 hq (by rw [et];exact P.nL);rw [eq] at vq;obtain ⟨q1,_,q3,_⟩:=to q hq;have gt4:=k4.2 _ _ gt 111;have q4:=k4.2 _ _ q3 111;have b10':=k4.2 _ _ b10 111;have s0:jC (.loc h1.length) (.int 0) h4=.ok x.kn.d h4:=VP b10' 108 (by rw [eL];rfl);have svq:=ZP gt4 vq;have l2:h1.length<h2.length:=(Y01.mp a10).1;have tl8:(zy (rwN 126 (crL L) (evL L) (niL L) m q.1).1 (dsL L)).length<=4000:=by
  refine Y0n (qY _ _).length_le ?_
  have:∀ l:List Str,(j6 l).length<=l.length:=λ l=>by
   have ins:∀ (x:Str) (l:XQ),(yH x l).length<=l.length+1:=λ x l=>by
    induction l with
    | nil=>simp [yH]
    | cons y r ih=>unfold yH;split<;>(try split)<;>simp<;>omega
   induction l with
   | nil=>simp [j6]
   | cons x r ih=>have:=ins x (j6 r);show (yH x (j6 r)).length<=_;simp;omega
  exact Y0n (this _) P.tot
 obtain ⟨h5,e5⟩:∃ h5,h5=h4.set q.2.1 (.lst (txs (zy (rwN (fB (dsL L)) (crL L) (evL L) (niL L) m q.1).1 (dsL L))++[.str "q"])):=125;have c1':h5[1]?=some 144:=by rw [e5];exact j5 (k4.2 _ _ b1 111) 109
 have c3':h5[3]?=some (.lst (gs.map λ x=>x.kn.d)):=by rw [e5];exact j5 (k4.2 _ _ b3 111) 109
 have c10:h5[h1.length]?=some (.lst (L.map λ x=>x.kn.d)):=by rw [e5];exact j5 b10' 109
 have ag:∃ h6,Kx [] h5 h6/\∀ (r:Ss) (o:RS) (p1 p2 p3 p4 p5 p6 p7 p8 p9 r1 r2 r3 r4 r5 r6 r7 r8 r9 s1 s2 s3 s4 s5 s6 s7:Pos) (A:Ss),Ss.run cl r [some (scr ns),some (.loc 0),some (.loc 1),some (.loc 2),some (.loc 3),some (.int seen),x6,x7,x8,x9,some (.loc h1.length),some (.tup 173),some (.loc nt)] h6=o ->
   Ss.run cl (.cons (.iff (.and (.cmp .Eq (.bin .Mod (.bin .FloorDiv (.call 24 (.var 0 p1) (.cons (.int 3 p2) .nil) p3 p4) (.int 16 p5) p6) (.int 2 p7) p8) (.int 1 p9) r1) (.un .Not (.call 39 (.call 17 (.var 11 r2) .nil r3 r4) (.cons (.var 10 r5) (.cons (.var 5 r6) (.cons (.var 2 r7) .nil))) r8 r9) s1) .nil s2) A .nil s3) r) [some (scr ns),some (.loc 0),some (.loc 1),some (.loc 2),some (.loc 3),some (.int seen),x6,x7,x8,x9,some (.loc h1.length),some (.tup 173),some (.loc nt)] h5=o:=by
  by_cases z:v3/16%2=1
  ·obtain ⟨h6,nt',tl',m',e6,k6,ln',et',gt',to',fx'⟩:=Op dd gs L D8.l8 P h5;obtain ⟨h7,e7,k7⟩:=Al dd D8 sd gs L P sn m' fx' seen hsL nt' h1.length 1 tl' et' h6 gt' to' (k6.2 _ _ c1' 111) (k6.2 _ _ c10 111);exact ⟨h7,k6.trans k7,λ r o p1 p2 p3 p4 p5 p6 p7 p8 p9 r1 r2 r3 r4 r5 r6 r7 r8 r9 s1 s2 s3 s4 s5 s6 s7 A k=>zx (Bu ((wn (j7 (jH (zC rfl 119 (c3 _)) rfl 108) rfl 108) rfl).trans (by rw [z];rfl)) (G2 (b:=true) (zC (zC rfl rfl e6) (cns rfl 139) e7))) k⟩
  ·exact ⟨h5,Kx.refl _ _,λ r o p1 p2 p3 p4 p5 p6 p7 p8 p9 r1 r2 r3 r4 r5 r6 r7 r8 r9 s1 s2 s3 s4 s5 s6 s7 A k=>zx (Wz ((wn (j7 (jH (zC rfl 119 (c3 _)) rfl 108) rfl 108) rfl).trans (by rw [beq_false_of_ne z]))) k⟩
 obtain ⟨h6,k6,ag⟩:=ag;obtain ⟨h7,e7⟩:=La dd D8 sd gs L P g0 3 1 (v3/32) h6 (k6.2 _ _ c1' 111) (k6.2 _ _ c3' 111);refine ⟨h7,zg (zd (zC (yo rfl (j7 (zC rfl 119 (c0 _)) rfl 108)) (cns (zC rfl 119 (c1 _)) rfl) n1) (zd (zC (yo rfl (j7 (zC rfl 119 (c3 _)) rfl 108)) (cns (zC rfl 119 (c2 _)) rfl) m1) (zd rfl (zd rfl (zd rfl (jp (q:=([],(List.range' 0 nms.length).map nD)) ((QO (q9 rfl rfl) (by rw [txs_len];omega)).trans ?_) eg (zd (d:=.loc h1.length) (h':=h1++[O.lst (List.map (λ x:Gn=>x.kn.d) gs)]) (bnd rfl ?_) (Vr 1 e2 ?_))))))))⟩
 ·rw [txs_len,show ((nms.length:Nat):Int).toNat=nms.length by omega,List.range_eq_range'];rfl
 ·show (match rd h1 3 with | some xs=>new (.lst xs) h1 | none=>.no)=_
  rw [zS H.h3];rfl
 ·refine zd (d:=.tup 173) (h':=h2) (Uc rfl (by rw [ep];exact zS a2)) (zd (zC rfl rfl e3) (zx (G2 (b:=true) (zC rfl (cns rfl 139) e4)) (yI (JN (n:=q.2.1) (bnd (bnd rfl (bnd (bnd (bnd rfl (bnd rfl s0)) 174) svq)) 174) ⟨_,q4⟩ rfl q4 (by rw [txs_len];omega)) ?_)));rw [<- e5];exact ag _ _ _ _ _ _ _ _ _ _ _ _ _ _ _ _ _ _ _ _ _ _ _ 123 123 123 123 _ (zj (zC rfl (cns rfl (cns rfl (cns (jH (zC rfl 119 (c3 _)) rfl 108) rfl))) e7))
end
theorem G6 (k:Nat):yO 160 0:=λ kd ps h=>(zb (d:=d_parts_of) rfl rfl).trans (z30 _ kd ps h)
theorem z0o (k:Nat):wm (callI defs (k+2)) 1:=λ g h hs=>(zb (d:=d_all_within) rfl rfl).trans (BA _ (G6 k) g h hs)
theorem Yf (k:Nat):JK 160 2:=λ it h hs=>(zb (d:=d_bodies_of) rfl rfl).trans (BB _ it h hs)
theorem z9o (k:Nat):BT 160 3:=λ it h=>(zb (d:=d_own_block) rfl rfl).trans (z9g _ it h)
theorem Uz (k:Nat):Uf 160 5:=λ h nd ds e hl nn=>(zb (d:=d_bits_by_deed) rfl rfl).trans (z6n _ h nd ds e hl nn)
theorem z0p (k:Nat):WQ 160 7:=λ h nd R ds e hl=>(zb (d:=d_told) rfl rfl).trans (z6m _ h nd R ds e hl)
theorem UA (k:Nat):WJ 160 8:=λ x y h=>(zb (d:=d_less) rfl rfl).trans (z6o _ h x y)
theorem Yg (k:Nat)(x y:Int)(h:Hh):callI defs (k+2) 9 [.int x,.int y] h=.ok (opI x y) h:=(zb (d:=d_opened) rfl rfl).trans (BJ _ h x y λ x y=>UA k x y h)
theorem Yh (k:Nat):ZS 160 10:=λ a b r h=>(zb (d:=d_filled) rfl rfl).trans (BK _ h a b r)
theorem z0q (k:Nat):WL (callI defs (k+3)) 11:=λ p q h=>(zb (d:=d_joined) rfl rfl).trans (BL _ h p.1 p.2 q.1 q.2 λ x y=>Yg k x y h)
theorem zb3 (k:Nat):z37 (callI defs (k+3)) 12:=λ p r h=>(zb (d:=d_without) rfl rfl).trans (GW _ h p.1 p.2 r (λ x y=>UA (k+1) x y h) λ x y=>Yg k x y h)
theorem z3o (k:Nat):yQ (callI defs (k+2)) 16:=λ kd ps a h nc cr ns hc ok hk hl=>(zb (d:=d_inner) rfl rfl).trans (z33 _ (G6 k) kd ps a h nc cr ns hc ok hk hl)
theorem z7j (k:Nat):BR 160 42:=λ bl h=>(zb (d:=d_init_Rest) rfl rfl).trans (z6u _ bl h)
theorem z9p (k:Nat):VE (callI defs (k+2)) 23:=λ rw ev ob ns kd ps n h r ho ok=>(zb (d:=d_use_row) rfl rfl).trans (z9h _ (Yh k) rw ev ob ns kd ps n h r ho ok)
theorem z0r (k:Nat):Ug (callI defs (k+4)) 21:=λ rw ev o ns no n x us h ra r ho ok=>(zb (d:=d_bodies_row) rfl rfl).trans (BW _ (z9p (k+1)) (z0q k) (zb3 k) rw ev o ns no n x us h ra r ho ok)
theorem z7k (k:Nat):z00 (callI defs (k+2)) 22:=λ n nd nc a ev r ns x o h g ra hx ho=>(zb (d:=d_spot_row) rfl rfl).trans (z70 _ (Yh k) n nd nc a ev r ns x o h g ra hx ho)
section
variable {dd:XQ}{gs L:List Gn}(P:Pg dd gs L)
theorem qZ (L:List Gn)(h:(dsL L).length<=8):(dsL L).length<=1000:=by omega
include P
theorem JY (D8:dd.length<=8):(dsL L).length<=8:=by
 exact Y0n (OX (dsL L) dd (G1 L) λ d hd=>P.indd hd) D8
variable (D8:dd.length<=8)
include D8
theorem z3p (k:Nat)(h:Hh):∃ nd h',callI defs (k+3) 4 [.tup 173] h=.ok 138 h'/\Kx [] h h'/\h'[nd]?=some (.lst (txs (dsL L))):=by
 obtain ⟨J,e⟩:=z32 (callI defs (k+2)) (z0o k) (Yf (k+1)) (L.map Gn.it) h (λ it hi=>by obtain ⟨x,hx,rfl⟩:=Y0c.mp hi;exact P.okI hx) P.tot (by have:=JY P D8;unfold dsL at this;omega);have ep:(niL L).map (λ p=>p.2.d)=(L.map Gn.it).map It.d:=by unfold niL;rw [Y10,Y10];rfl
 exact ⟨_,_,(zb (d:=d_deeds_of) rfl rfl).trans (by rw [ep];exact e),(Kx.app _ _).trans (Kx.app _ _),zo _ _⟩
theorem G7 (k:Nat)(h:Hh)(nd:Nat)(e:h[nd]?=some (.lst (txs (dsL L)))):callI defs (k+2) 6 [.loc nd,.loc nd] h=.ok (.int (evL L)) (h++[.dK (zA 0 (dsL L))]) :=
 (zb (d:=d_row_by) rfl rfl).trans (BI _ h nd nd (dsL L) (dsL L) 126 e (Uz k h nd (dsL L) e (qZ L (JY P D8)) (G1 L)) λ y hy=>Ur hy)
theorem z7l (k:Nat):Ue (callI defs (k+3)) 15 126 (crL L) (dsL L) (hnL L) (zA 0 (dsL L)):=λ bs bl nc nb h hb hc ok hs=>by
 obtain ⟨h',e,r⟩:=z6v (callI defs (k+2)) (z3o k) (UA (k+1)) (z7j (k+1)) 126 (crL L) (dsL L) (hnL L) (zA 0 (dsL L)) (λ d hd=>Ur hd) bs bl nc nb h hb hc ok hs;exact ⟨h',(zb (d:=d_rest_of) rfl rfl).trans e,r⟩
theorem Yi (k:Nat):ZR 160 14 126 (dsL L) (zA 0 (dsL L)):=λ nb l h hb ok nn hl=>by
 obtain ⟨h',e,r⟩:=BS (callI defs k) 126 (dsL L) (zA 0 (dsL L)) (λ d hd=>Ur hd) nb l h hb ok nn hl;exact ⟨h',(zb (d:=d_clause_rows) rfl rfl).trans e,r⟩
theorem z3q (k:Nat)(h:Hh)(nd:Nat)(hd:h[nd]?=some (.lst (txs (dsL L)))):∃ h' nr Lr,callI defs (k+4) 13 [.tup 173,.loc nd] h=.ok (.loc nr) h'/\Kx [] h h'/\h.length<=nr/\Lr.map (·.1)=niL L/\h'[nr]?=some (.dK (nrK Lr))/\RestsOk h' nr 126 (crL L) Lr:=by
 obtain ⟨h',nr,Lr,e,r⟩:=z36 (callI defs (k+3)) 126 (crL L) (dsL L) (hnL L) (Uz (k+2)) (Yi P D8 (k+2)) (z7l P D8 k) (Yf (k+2)) (z9o (k+2)) (niL L) nd h hd (qZ L (JY P D8)) (G1 L) P.hv P.okP (by rw [jr];exact P.nL) (by unfold niL;rw [Y04];have:=P.lenL;omega);exact ⟨h',nr,Lr,(zb (d:=d_rests_of) rfl rfl).trans e,r⟩
theorem z3r (k:Nat)(nr:Nat)(Lr:List Nr)(el:Lr.map (·.1)=niL L):WN (callI defs (k+5)) 20 126 (crL L) (evL L) ((niL L).map (·.1)) nr Lr:=λ h r n hr ro ra =>
 (zb (d:=d_asked_rows) rfl rfl).trans (z38 (callI defs (k+4)) (z0r k) 126 (crL L) r (evL L) ((niL L).map (·.1)) nr n h Lr hr ro ra (by rw [el,jr];exact P.nL) (λ q hq=>P.okA q.1 (by rw [<- el];exact Y0c.mpr ⟨q,hq,rfl⟩)) (by
  have:=congrArg List.length el
  rw [Y04] at this;rw [this];unfold niL;rw [Y04];have:=P.lenL;omega))
theorem z3s (k:Nat)(h:Hh)(nd:Nat)(hd:h[nd]?=some (.lst (txs (dsL L)))):∃ h' a m,callI defs (k+6) 19 [.tup 173,.loc nd] h=.ok (.loc a) h'/\Kx [] h h'/\h'[a]?=some (.dK (j0 ((niL L).map (·.1)) 189))/\Fix 126 (crL L) (evL L) (niL L) m/\h.length<=a:=by
 obtain ⟨h',a,m,e,r⟩:=z39 (callI defs (k+5)) 126 (crL L) (evL L) (dsL L) (niL L) (by rw [jr];exact P.nL) (by unfold niL;rw [Y04];have:=P.lenL;omega) (λ h nd hd=>z3q P D8 (k+1) h nd hd) (λ h nd hd=>G7 P D8 (k+3) h nd hd) (λ nr Lr el=>z3r P D8 k nr Lr el) P.fix nd h hd;exact ⟨h',a,m,(zb (d:=d_found_rows) rfl rfl).trans e,r⟩
theorem Yj (k:Nat):WR (callI defs (k+7)) 43 126 (crL L) (evL L) (dsL L) (niL L):=λ h=>by
 obtain ⟨h',nd,nc,a,m,e,r⟩:=z3a (callI defs (k+6)) 126 (crL L) (evL L) (dsL L) (niL L) (by rw [jr];exact P.nL) (by unfold niL;rw [Y04];have:=P.lenL;omega) (λ p hp=>⟨(P.okP p hp).nm,(P.okP p hp).hd,(P.okP p hp).hl⟩) (qZ L (JY P D8)) (G1 L) (λ h=>z3p P D8 (k+3) h) (λ h nd hd=>G7 P D8 (k+4) h nd hd) (Uz (k+5)) (Yi P D8 (k+5)) (λ h nd hd=>z3s P D8 k h nd hd) h;exact ⟨h',nd,nc,a,m,(zb (d:=d_init_Found) rfl rfl).trans e,r⟩
theorem z7m (k:Nat):z0m (callI defs (k+8)) 17 L:=λ h=>by
 obtain ⟨h',nt,tl,m,e,k1,l1,et,r⟩:=z71 (callI defs (k+7)) 126 (crL L) (evL L) (dsL L) (niL L) (z0p (k+6)) (Yj P D8 k) (qZ L (JY P D8)) (by rw [jr];exact P.nL) (by unfold niL;rw [Y04];have:=P.lenL;omega) h;exact ⟨h',nt,tl,m,(zb (d:=d_open_rows) rfl rfl).trans e,k1,l1,by rw [et,jr],r⟩
theorem z3t (k:Nat):G3 (callI defs (k+8)) 18 126 (crL L) (evL L) (dsL L) (niL L):=λ x o h hx ho=>by
 obtain ⟨h',n,m,e,r⟩:=z3b (callI defs (k+7)) 126 (crL L) (evL L) (dsL L) (niL L) (z0p (k+6)) (z7k (k+5)) (Yj P D8 k) (qZ L (JY P D8)) x o hx ho h;exact ⟨h',n,m,(zb (d:=d_row_of) rfl rfl).trans e,r⟩
end
theorem z0s (k:Nat)(ns:195):Uq 160 24 ns:=λ i h hi=>(zb (d:=d_law_cell) rfl rfl).trans (z77 _ h ns i hi)
theorem z0t (k:Nat):Uo 160 25:=λ x c h h1=>(zb (d:=d_law_name) rfl rfl).trans (z76 h1 _ h)
theorem z3u (k:Nat):G4 (callI defs (k+2)) 26:=λ m c h hm=>by
 obtain ⟨nms,e,r⟩:=z3d 160 (z0t k) m c hm h;exact ⟨nms,(zb (d:=d_law_names) rfl rfl).trans e,r⟩
theorem UB (k:Nat):WW 160 27:=λ kn nk kind c h hk sk s2 hl=>by
 obtain ⟨h',r,e,q⟩:=z78 (callI defs k) kn nk kind c h hk sk s2 hl;exact ⟨h',r,(zb (d:=d_law_pick) rfl rfl).trans e,q⟩
theorem z7n (k:Nat):z0b 160 28:=λ q g h hq=>by
 obtain ⟨h',e,r⟩:=z79 (callI defs k) q g h hq;exact ⟨h',(zb (d:=d_law_args) rfl rfl).trans e,r⟩
theorem z0u (k:Nat):Y9 (callI defs (k+2)) 29:=λ dd kn ks ob g o l s nk c h hk sub ok I h8=>by
 rw [zb (d:=d_law_called) rfl rfl];exact z0c 160 (UB k) (z7n k) nk c h hk sub ok I h8
theorem z3v (k:Nat):VS (callI defs (k+2)) 30:=λ dd kn ks ob g o l s nk c bit e lf h hk sub ok I hlf he hb=>by
 rw [zb (d:=d_law_under) rfl rfl];exact z3e (cl:=callI defs (k+1)) (UB k) nk c bit h hk sub ok I hlf he hb
theorem Yk (k:Nat):ZV 160 31:=λ i g t h h0 h1=>by
 obtain ⟨x,h',e,r⟩:=z0d (cl:=callI defs k) i h0 h1 g t h;exact ⟨x,h',(zb (d:=d_law_beside) rfl rfl).trans e,r⟩
theorem G8 (k:Nat):qX (callI defs (k+3)) 32:=λ dd kn ks ob g o l s nk nd c h hk sub hd ok I h1 h8 nn=>by
 rw [zb (d:=d_law_grown) rfl rfl];exact z3g (cl:=callI defs (k+2)) (z0u k) (z3v k) (Yk (k+1)) nk nd c h hk sub hd ok I h1 h8 nn
theorem z7o (k:Nat):z0f (callI defs (k+2)) 33:=λ dd kn ob g o l s nd c h hd I h1 h8 nn=>by
 rw [zb (d:=d_law_gone) rfl rfl];exact z7b (cl:=callI defs (k+1)) (Yk k) nd c h hd I h1 h8 nn
theorem UC (k:Nat):WX (callI defs (k+4)) 34:=λ dd kn ks ob nk nd nc cs h hc hk hd sub ok D8=>by
 rw [zb (d:=d_law_body) rfl rfl];exact z7c (cl:=callI defs (k+3)) (G8 k) nk nd nc cs h hc hk hd sub ok D8
theorem z9q (k:Nat):z4p (callI defs (k+5)) 35:=λ dd kn ks c nk nd nc cs h hc hk hd sub ok D8 hl=>by
 rw [zb (d:=d_law_clause) rfl rfl];exact O3 (cl:=callI defs (k+4)) (G8 (k+1)) (z7o (k+2)) (UC k) c nk nd nc cs h hc hk hd sub ok D8 hl
theorem z9r (k:Nat):z4s (callI defs (k+6)) 36:=λ dd kn c nm nk nd nc cs h hc hk hd ok D8 hl=>by
 rw [zb (d:=d_law_handler) rfl rfl];exact O4 (cl:=callI defs (k+5)) (UC (k+1)) (z9q k) c nm nk nd nc cs h hc hk hd ok D8 hl
theorem z7p (k:Nat)(ns:195):Uy (callI defs (k+7)) 37 ns:=λ dd kn j nms nm nk nn nd h hj hk hn hd hnm nl ok nb D8=>by
 rw [zb (d:=d_law_item) rfl rfl];exact z7e (cl:=callI defs (k+6)) ns (z0s (k+5) ns) (z0t (k+5)) (UC (k+2)) (z9r k) j hj nms nm nk nn nd h hk hn hd hnm nl ok nb D8
theorem z9s (k:Nat):z3j 160 38:=λ dd nd v h hd D8=>by
 obtain ⟨n,h',e,r⟩:=z3k (cl:=callI defs k) nd v h hd D8;exact ⟨n,h',(zb (d:=d_law_told) rfl rfl).trans e,r⟩
theorem z3w (k:Nat):G5 (callI defs (k+2)) 39:=λ dd D8 sd gs L P sn m fx s hs nt no nd tl et h gt to hd hn=>by
 obtain ⟨h',e,r⟩:=z3l (cl:=callI defs (k+1)) (z9s k) D8 sd P sn fx hs nt no nd tl et h gt to hd hn;exact ⟨h',(zb (d:=d_law_alike) rfl rfl).trans e,r⟩
theorem z7q (k:Nat):z0n (callI defs (k+9)) 40:=λ dd D8 sd gs L P g0 nk nd c h hd hk=>by
 obtain ⟨h',e⟩:=z7i (cl:=callI defs (k+8)) (UB (k+7)) (z9s (k+7)) D8 sd P (z3t P D8.l8 k) g0 nk nd c h hd hk;exact ⟨h',(zb (d:=d_law_last) rfl rfl).trans e⟩
theorem law_true (ns:195):∃ h,callI defs 10 41 [.fl (ns.map .int)] []=.ok (.bl true) h:=by
 obtain ⟨h',e⟩:=z3n (cl:=callI defs 9) ns (z0s 8 ns) (z3u 7) (z7p 2 ns) (λ dd gs L D8 P=>z7m P D8 1) (z3w 7) (z7q 0);exact ⟨h',(zb (d:=d_law) rfl rfl).trans e⟩
end K31
namespace K31
open PySem L2 PI
theorem dok {st:Stmt}{d:Df}{F:XQ}{G:List (Str×Cn)}{nm q:Str}(h:∀ (kV doc pm:Value) (an:166) (cdv ct:Value) (us:XW),us.length=d.ps.length->bindArgs (PySem.W.fnOf nm q (zK st) (zE st) (zk st) .none kV doc pm an cdv ct) ⟨us,[]⟩=pure (d.ps.zip us))(h1:zE st=d.body.py ⟨d.N,F,G⟩:=by rfl)(h2:FnScope d.N d.ps (zk st):=by exact ⟨rfl,rfl,rfl,by decide +kernel,rfl,by decide +kernel,by decide +kernel⟩)(h3:okD d.body (zk st) ⟨d.N,F,G⟩ d.ps=true:=by decide +kernel)(h4:∀ x∈d.N,((zk st).names.lookup x=some .local\/(zk st).names.lookup x=some .cell)/\yw x=true:=by decide +kernel):DefOk st d F G nm q:=⟨h1,h2,h3,h4,h⟩
abbrev DO (i:Nat) (d:Df) (x y:Str):=DefOk (top i) d (defs.map (·.name)) zf x y
theorem UD:DO 2 d_parts_of "parts_of" "parts_of":=dok λ _ _ _ _ _ _=>Wn λ _=>rfl
theorem Q1:DO 3 d_all_within "all_within" "all_within":=dok λ _ _ _ _ _ _=>Wn λ _=>rfl
theorem Yl:DO 4 d_bodies_of "bodies_of" "bodies_of":=dok λ _ _ _ _ _ _=>Wn λ _=>rfl
theorem Ym:DO 5 d_own_block "own_block" "own_block":=dok λ _ _ _ _ _ _=>Wn λ _=>rfl
theorem UE:DO 7 d_deeds_of "deeds_of" "deeds_of":=dok λ _ _ _ _ _ _=>Wn λ _=>rfl
theorem ZY:DO 8 d_bits_by_deed "bits_by_deed" "bits_by_deed":=dok λ _ _ _ _ _ _=>Wn λ _=>rfl
theorem z0v:DO 9 d_row_by "row_by" "row_by":=dok λ _ _ _ _ _ _=>wJ λ _ _=>rfl
theorem z7r:DO 10 d_told "told" "told":=dok λ _ _ _ _ _ _=>wJ λ _ _=>rfl
theorem z7s:DO 11 d_less "less" "less":=dok λ _ _ _ _ _ _=>wJ λ _ _=>rfl
theorem z0w:DO 13 d_opened "opened" "opened":=dok λ _ _ _ _ _ _=>wJ λ _ _=>rfl
theorem z0x:DO 14 d_filled "filled" "filled":=dok λ _ _ _ _ _ _=>wJ λ _ _=>rfl
theorem z0y:DO 15 d_joined "joined" "joined":=dok λ _ _ _ _ _ _=>wJ λ _ _=>rfl
theorem O6:DO 16 d_without "without" "without":=dok λ _ _ _ _ _ _=>wJ λ _ _=>rfl
theorem UF:DO 19 d_rests_of "rests_of" "rests_of":=dok λ _ _ _ _ _ _=>wJ λ _ _=>rfl
theorem Jd:DO 20 d_clause_rows "clause_rows" "clause_rows":=dok λ _ _ _ _ _ _=>wJ λ _ _=>rfl
theorem O7:DO 21 d_rest_of "rest_of" "rest_of":=dok λ _ _ _ _ _ _=>QD λ _ _ _ _=>rfl
theorem z3x:DO 22 d_inner "inner" "inner":=dok λ _ _ _ _ _ _=>J7 λ _ _ _=>rfl
theorem Yn:DO 25 d_open_rows "open_rows" "open_rows":=dok λ _ _ _ _ _ _=>Wn λ _=>rfl
theorem z0z:DO 26 d_row_of "row_of" "row_of":=dok λ _ _ _ _ _ _=>J7 λ _ _ _=>rfl
theorem Q2:DO 27 d_found_rows "found_rows" "found_rows":=dok λ _ _ _ _ _ _=>wJ λ _ _=>rfl
theorem Q3:DO 28 d_asked_rows "asked_rows" "asked_rows":=dok λ _ _ _ _ _ _=>J7 λ _ _ _=>rfl
theorem Q4:DO 29 d_bodies_row "bodies_row" "bodies_row":=dok λ _ _ _ _ _ _=>J7 λ _ _ _=>rfl
theorem UG:DO 30 d_spot_row "spot_row" "spot_row":=dok λ _ _ _ _ _ _=>J7 λ _ _ _=>rfl
theorem O8:DO 31 d_use_row "use_row" "use_row":=dok λ _ _ _ _ _ _=>QD λ _ _ _ _=>rfl
theorem UH:DO 33 d_law_cell "_law_cell" "_law_cell":=dok λ _ _ _ _ _ _=>wJ λ _ _=>rfl
theorem UI:DO 34 d_law_name "_law_name" "_law_name":=dok λ _ _ _ _ _ _=>wJ λ _ _=>rfl
theorem Yo:DO 35 d_law_names "_law_names" "_law_names":=dok λ _ _ _ _ _ _=>wJ λ _ _=>rfl
theorem UJ:DO 36 d_law_pick "_law_pick" "_law_pick":=dok λ _ _ _ _ _ _=>J7 λ _ _ _=>rfl
theorem UK:DO 37 d_law_args "_law_args" "_law_args":=dok λ _ _ _ _ _ _=>wJ λ _ _=>rfl
theorem Q5:DO 38 d_law_called "_law_called" "_law_called":=dok λ _ _ _ _ _ _=>QD λ _ _ _ _=>rfl
theorem Yp:DO 39 d_law_under "_law_under" "_law_under":=dok λ _ _ _ _ _ _=>z28 λ _ _ _ _ _=>rfl
theorem Q6:DO 40 d_law_beside "_law_beside" "_law_beside":=dok λ _ _ _ _ _ _=>J7 λ _ _ _=>rfl
theorem Yq:DO 41 d_law_grown "_law_grown" "_law_grown":=dok λ _ _ _ _ _ _=>z28 λ _ _ _ _ _=>rfl
theorem UL:DO 42 d_law_gone "_law_gone" "_law_gone":=dok λ _ _ _ _ _ _=>J7 λ _ _ _=>rfl
theorem UM:DO 43 d_law_body "_law_body" "_law_body":=dok λ _ _ _ _ _ _=>QD λ _ _ _ _=>rfl
theorem Q7:DO 44 d_law_clause "_law_clause" "_law_clause":=dok λ _ _ _ _ _ _=>QD λ _ _ _ _=>rfl
theorem Je:DO 45 d_law_handler "_law_handler" "_law_handler":=dok λ _ _ _ _ _ _=>z28 λ _ _ _ _ _=>rfl
theorem UN:DO 46 d_law_item "_law_item" "_law_item":=dok λ _ _ _ _ _ _=>z28 λ _ _ _ _ _=>rfl
theorem UO:DO 47 d_law_told "_law_told" "_law_told":=dok λ _ _ _ _ _ _=>wJ λ _ _=>rfl
theorem Yr:DO 48 d_law_alike "_law_alike" "_law_alike":=dok λ _ _ _ _ _ _=>QD λ _ _ _ _=>rfl
theorem UP:DO 49 d_law_last "_law_last" "_law_last":=dok λ _ _ _ _ _ _=>QD λ _ _ _ _=>rfl
theorem o_law:DO 50 d_law "law" "law":=dok λ _ _ _ _ _ _=>Wn λ _=>rfl
theorem Ys:DefOk ((jf (top 18)).getD 0 (.Pass 123)) d_init_Rest (defs.map (·.name)) zf "__init__" "Rest.__init__":=dok λ _ _ _ _ _ _=>wJ λ _ _=>rfl
theorem Q8:DefOk ((jf (top 24)).getD 0 (.Pass 123)) d_init_Found (defs.map (·.name)) zf "__init__" "Found.__init__":=dok λ _ _ _ _ _ _=>wJ λ _ _=>rfl
theorem z9t {K:Y00}{x:Str}{st:Stmt}{f:Addr}{fd:FuncData}{d:Df}(e:Fun K x x st f fd)(o:DefOk st d (defs.map (·.name)) zf x x)(hn:decide ((x,Cn.dfl)∈zf)=false):FunD K x x st f fd d.ps (decide ((x,Cn.dfl)∈zf)):=by
 rw [hn];exact e.toD o
noncomputable def FnK (K:Y00)(x:Str)(i:Nat)(f:Addr)(fd:FuncData):Prop:=PySem.W.nsIn K mainGlobals x=some (some (.ref f))/\Fun K x x (top i) f fd
theorem fnk {K:Y00}{x:Str}{i:Nat}{f:Addr}{oc:Value}{od an:166}{sl:171}{kV dc pm cd ct:Value}(a:PySem.W.nsIn K mainGlobals x=some (some (.ref f)))(l:K.lookup f=some ⟨oc,od,.func (PySem.W.fnOf x x (zK (top i)) (zE (top i)) (zk (top i)) .none kV dc pm an cd ct),sl⟩)(c:PySem.W.codeIn K cd x=true)(k:PySem.W.keepIn K (.ref f)=true):FnK K x i f (PySem.W.fnOf x x (zK (top i)) (zE (top i)) (zk (top i)) .none kV dc pm an cd ct):=⟨a,Z4 (st:=top i) l c k⟩
theorem FnK.row {K:Y00}{x:Str}{i:Nat}{f:Addr}{fd:FuncData}{h:Heap}{mg:XJ}{d:Df} (e:FnK K x i f fd) (X:K.In h) (G:h.Ns mainGlobals mg) (hx:d.name=x) (hb:(d.name==("__debug__":Str))=false) (hn:decide ((d.name,Cn.dfl)∈zf)=false) (o:DefOk (top i) d (defs.map (·.name)) zf x x):(d.name==("__debug__":Str))=false/\∃ st f fd,mg d.name=some (.ref f)/\PySem.W.nsIn K mainGlobals d.name=some (some (.ref f))/\FunD K d.name d.name st f fd d.ps (decide ((d.name,Cn.dfl)∈zf))/\DefOk st d (defs.map (·.name)) zf d.name d.name:=by
 subst hx;exact ⟨hb,_,_,_,Y1p X G e.1,e.1,z9t e.2 o hn,o⟩
noncomputable def FnKD (K:Y00)(x:Str)(i:Nat)(f:Addr)(fd:FuncData)(ps:XQ):Prop:=PySem.W.nsIn K mainGlobals x=some (some (.ref f))/\FunD K x x (top i) f fd ps true
theorem FnKD.row {K:Y00}{x:Str}{i:Nat}{f:Addr}{fd:FuncData}{h:Heap}{mg:XJ}{d:Df} (e:FnKD K x i f fd d.ps) (X:K.In h) (G:h.Ns mainGlobals mg) (hx:d.name=x) (hb:(d.name==("__debug__":Str))=false) (hn:decide ((d.name,Cn.dfl)∈zf)=true) (o:DefOk (top i) d (defs.map (·.name)) zf x x):(d.name==("__debug__":Str))=false/\∃ st f fd,mg d.name=some (.ref f)/\PySem.W.nsIn K mainGlobals d.name=some (some (.ref f))/\FunD K d.name d.name st f fd d.ps (decide ((d.name,Cn.dfl)∈zf))/\DefOk st d (defs.map (·.name)) zf d.name d.name:=by
 subst hx;rw [hn];exact ⟨hb,_,_,_,Y1p X G e.1,e.1,e.2,o⟩
theorem fnkd_row_of {K:Y00}{f T:Addr}{oc:Value}{od an:166}{sl:171}{kV dc pm cd ct:Value}{ob:Obj}{n:Nat} (a:PySem.W.nsIn K mainGlobals "row_of"=some (some (.ref f))) (l:K.lookup f=some ⟨oc,od,.func (PySem.W.fnOf "row_of" "row_of" (zK (top 26)) (zE (top 26)) (zk (top 26)) (.ref T) kV dc pm an cd ct),sl⟩) (c:PySem.W.codeIn K cd "row_of"=true) (k:PySem.W.keepIn K (.ref f)=true) (t:K.lookup T=some ob) (td:ob.data=.seq #[.none] n):FnKD K "row_of" 26 f (PySem.W.fnOf "row_of" "row_of" (zK (top 26)) (zE (top 26)) (zk (top 26)) (.ref T) kV dc pm an cd ct) d_row_of.ps:=⟨a,z2v (st:=top 26) l c k t td (λ _ _ _ _ _ _=>J7 λ _ _ _=>⟨_,rfl,rfl⟩) (λ _ _ _ _ _ _ us hl=>by revert hl;match us with
 | [_,_]=>intro _;exact ⟨_,rfl,rfl⟩
 | []=>intro hl;cases hl
 | [_]=>intro hl;cases hl
 | _::_::_::_=>intro hl;cases hl)⟩
noncomputable def NoN (K:Y00):List Str->Prop
 | []=>True
 | x::r=>PySem.W.nsIn K mainGlobals x=some none/\NoN K r
theorem NoN.mem {K:Y00}{x:Str}:∀ {l:XQ},NoN K l->x∈l->PySem.W.nsIn K mainGlobals x=some none
 | [],_,h=>nomatch h
 | _::_,q,h=>(Y06.mp h).elim (λ e=>e▸q.1) (NoN.mem q.2)
noncomputable def FdN (K:Y00)(c:Addr):List Str->Prop
 | []=>True
 | x::r=>PySem.W.findIn K (.ref c) x=some none/\FdN K c r
theorem FdN.mem {K:Y00}{c:Addr}{x:Str}:∀ {l:XQ},FdN K c l->x∈l->PySem.W.findIn K (.ref c) x=some none
 | [],_,h=>nomatch h
 | _::_,q,h=>(Y06.mp h).elim (λ e=>e▸q.1) (FdN.mem q.2)
open PySem.W in
theorem all_mk {l:PySem.W.OpenLaw}{w:World}{K:Y00}{h:Heap}{mg:XJ}{fa f0 f1 f2 f3 f4 f5 f6 f7 f8 f9 f10 f11 f12 f13 f14 f15 f16 f17 f18 f19 f20 f21 f22 f23 f24 f25 f26 f27 f28 f29 f30 f31 f32 f33 f34 f35 f36 f37 f38 f39 f40 f41:Addr}{d0 d1 d2 d3 d4 d5 d6 d7 d8 d9 d10 d11 d12 d13 d14 d15 d16 d17 d18 d19 d20 d21 d22 d23 d24 d25 d26 d27 d28 d29 d30 d31 d32 d33 d34 d35 d36 d37 d38 d39 d40:FuncData} (X:K.In h) (G:h.Ns mainGlobals mg) (hfa:mg "law"=some (.ref fa))
    (e0:FnK K "parts_of" 2 f0 d0)
    (e1:FnK K "all_within" 3 f1 d1)
    (e2:FnK K "bodies_of" 4 f2 d2)
    (e3:FnK K "own_block" 5 f3 d3)
    (e4:FnK K "deeds_of" 7 f4 d4)
    (e5:FnK K "bits_by_deed" 8 f5 d5)
    (e6:FnK K "row_by" 9 f6 d6)
    (e7:FnK K "told" 10 f7 d7)
    (e8:FnK K "less" 11 f8 d8)
    (e9:FnK K "opened" 13 f9 d9)
    (e10:FnK K "filled" 14 f10 d10)
    (e11:FnK K "joined" 15 f11 d11)
    (e12:FnK K "without" 16 f12 d12)
    (e13:FnK K "rests_of" 19 f13 d13)
    (e14:FnK K "clause_rows" 20 f14 d14)
    (e15:FnK K "rest_of" 21 f15 d15)
    (e16:FnK K "inner" 22 f16 d16)
    (e17:FnK K "open_rows" 25 f17 d17)
    (e18:FnKD K "row_of" 26 f18 d18 d_row_of.ps)
    (e19:FnK K "found_rows" 27 f19 d19)
    (e20:FnK K "asked_rows" 28 f20 d20)
    (e21:FnK K "bodies_row" 29 f21 d21)
    (e22:FnK K "spot_row" 30 f22 d22)
    (e23:FnK K "use_row" 31 f23 d23)
    (e24:FnK K "_law_cell" 33 f24 d24)
    (e25:FnK K "_law_name" 34 f25 d25)
    (e26:FnK K "_law_names" 35 f26 d26)
    (e27:FnK K "_law_pick" 36 f27 d27)
    (e28:FnK K "_law_args" 37 f28 d28)
    (e29:FnK K "_law_called" 38 f29 d29)
    (e30:FnK K "_law_under" 39 f30 d30)
    (e31:FnK K "_law_beside" 40 f31 d31)
    (e32:FnK K "_law_grown" 41 f32 d32)
    (e33:FnK K "_law_gone" 42 f33 d33)
    (e34:FnK K "_law_body" 43 f34 d34)
    (e35:FnK K "_law_clause" 44 f35 d35)
    (e36:FnK K "_law_handler" 45 f36 d36)
    (e37:FnK K "_law_item" 46 f37 d37)
    (e38:FnK K "_law_told" 47 f38 d38)
    (e39:FnK K "_law_alike" 48 f39 d39)
    (e40:FnK K "_law_last" 49 f40 d40)
    {od an:166}{sl:171}{oc kV dc pm cd ct:Value} (a:nsIn K mainGlobals "law"=some (some (.ref f41))) (l41:K.lookup f41=some ⟨oc,od,.func (PySem.W.fnOf "law" "law" (zK (top 50)) (zE (top 50)) (zk (top 50)) .none kV dc pm an cd ct),sl⟩) (c41:codeIn K cd "law"=true) (k41:keepIn K (.ref f41)=true)
    (z:NoN K Wq)
    {gc0:Addr}{es0:Array DictEntry}{ep0:Nat} (ga0:nsIn K mainGlobals "FIRST_PART"=some (some (.ref gc0))) (gl0:K.lookup gc0=some { cls:=.type "dict",data:=.dict es0 ep0 }) (ge0:Ww w K es0.toList g_FIRST_PART)
    {cc0 ci0:Addr}{cod0 can0:166}{csl0:171}{coc0 ckV0 cdc0 cpm0 ccd0 cct0:Value}
    (ca0:nsIn K mainGlobals "Rest"=some (some (.ref cc0)))
    (cy0:findIn K (.ref cc0) "__init__"=some (some (.ref ci0)))
    (cl0:K.lookup ci0=some ⟨coc0,cod0,.func (PySem.W.fnOf "__init__" "Rest.__init__" (zK ((jf (top 18)).getD 0 (.Pass 123))) (zE ((jf (top 18)).getD 0 (.Pass 123))) (zk ((jf (top 18)).getD 0 (.Pass 123))) .none ckV0 cdc0 cpm0 can0 ccd0 cct0),csl0⟩)
    (ce0:codeIn K ccd0 "Rest.__init__"=true)
    (ck0:keepIn K (.ref ci0)=true)
    (cm0:makesIn K cc0=true)
    (cf0:isFn K (.ref ci0)=true)
    (cp0:keepIn K (.ref cc0)=true)
    (cg0:plainGet K cc0 Str.empty=true)
    (ch0:hasDictIn K cc0=true)
    (co0:plainOver K cc0=true)
    (cs0:findIn K (.ref cc0) "__setattr__"=some (some (.builtin "object.__setattr__")))
    (cn0:FdN K cc0 jm)
    {cc1 ci1:Addr}{cod1 can1:166}{csl1:171}{coc1 ckV1 cdc1 cpm1 ccd1 cct1:Value}
    (ca1:nsIn K mainGlobals "Found"=some (some (.ref cc1)))
    (cy1:findIn K (.ref cc1) "__init__"=some (some (.ref ci1)))
    (cl1:K.lookup ci1=some ⟨coc1,cod1,.func (PySem.W.fnOf "__init__" "Found.__init__" (zK ((jf (top 24)).getD 0 (.Pass 123))) (zE ((jf (top 24)).getD 0 (.Pass 123))) (zk ((jf (top 24)).getD 0 (.Pass 123))) .none ckV1 cdc1 cpm1 can1 ccd1 cct1),csl1⟩)
    (ce1:codeIn K ccd1 "Found.__init__"=true)
    (ck1:keepIn K (.ref ci1)=true)
    (cm1:makesIn K cc1=true)
    (cf1:isFn K (.ref ci1)=true)
    (cp1:keepIn K (.ref cc1)=true)
    (cg1:plainGet K cc1 Str.empty=true)
    (ch1:hasDictIn K cc1=true)
    (co1:plainOver K cc1=true)
    (cs1:findIn K (.ref cc1) "__setattr__"=some (some (.builtin "object.__setattr__")))
    (cn1:FdN K cc1 jm)
   :∃ (cv:XZ) (fd:FuncData),(∀ (s:130) (v:Value),BindsTo s fd ⟨[v],[]⟩ [("_law_script",v)])/\∀ base:Heap,K.In base->base.Ns mainGlobals mg->FnOk l.prog w K mg base (CXs l.prog w) 20 fa fd ["_law_script"] (Bn K cv (callI defs 10 41)):=by
  have e:=hfa.symm.trans (Y1p X G a);cases e;have T:Tab l.prog w K mg defs zf:=by
    refine ⟨λ x hx=>?_,λ x c hx=>?_,λ i d hd hnc=>?_,λ x i hx=>?_⟩
    · exact PySem.W.mg_none_of X G (z.mem hx)
    · simp only [zf,Y06,Y0p,or_false] at hx;rcases hx with hq | hq | hq | hq
      · cases hq;exact ⟨by decide,_,Y1p X G ga0,z6f gl0 ge0 108⟩
      · cases hq;exact ⟨by decide,_,Y1p X G ca0,125⟩
      · cases hq;exact ⟨by decide,_,Y1p X G ca1,125⟩
      · cases hq;exact ⟨by decide,_,Y1p X G e18.1,125⟩
    · match i,hd,hnc with
      | 0,hd,_=>cases hd;exact e0.row X G rfl 108 108 UD
      | 1,hd,_=>cases hd;exact e1.row X G rfl 108 108 Q1
      | 2,hd,_=>cases hd;exact e2.row X G rfl 108 108 Yl
      | 3,hd,_=>cases hd;exact e3.row X G rfl 108 108 Ym
      | 4,hd,_=>cases hd;exact e4.row X G rfl 108 108 UE
      | 5,hd,_=>cases hd;exact e5.row X G rfl 108 108 ZY
      | 6,hd,_=>cases hd;exact e6.row X G rfl 108 108 z0v
      | 7,hd,_=>cases hd;exact e7.row X G rfl 108 108 z7r
      | 8,hd,_=>cases hd;exact e8.row X G rfl 108 108 z7s
      | 9,hd,_=>cases hd;exact e9.row X G rfl 108 108 z0w
      | 10,hd,_=>cases hd;exact e10.row X G rfl 108 108 z0x
      | 11,hd,_=>cases hd;exact e11.row X G rfl 108 108 z0y
      | 12,hd,_=>cases hd;exact e12.row X G rfl 108 108 O6
      | 13,hd,_=>cases hd;exact e13.row X G rfl 108 108 UF
      | 14,hd,_=>cases hd;exact e14.row X G rfl 108 108 Jd
      | 15,hd,_=>cases hd;exact e15.row X G rfl 108 108 O7
      | 16,hd,_=>cases hd;exact e16.row X G rfl 108 108 z3x
      | 17,hd,_=>cases hd;exact e17.row X G rfl 108 108 Yn
      | 18,hd,_=>cases hd;exact e18.row X G rfl 108 108 z0z
      | 19,hd,_=>cases hd;exact e19.row X G rfl 108 108 Q2
      | 20,hd,_=>cases hd;exact e20.row X G rfl 108 108 Q3
      | 21,hd,_=>cases hd;exact e21.row X G rfl 108 108 Q4
      | 22,hd,_=>cases hd;exact e22.row X G rfl 108 108 UG
      | 23,hd,_=>cases hd;exact e23.row X G rfl 108 108 O8
      | 24,hd,_=>cases hd;exact e24.row X G rfl 108 108 UH
      | 25,hd,_=>cases hd;exact e25.row X G rfl 108 108 UI
      | 26,hd,_=>cases hd;exact e26.row X G rfl 108 108 Yo
      | 27,hd,_=>cases hd;exact e27.row X G rfl 108 108 UJ
      | 28,hd,_=>cases hd;exact e28.row X G rfl 108 108 UK
      | 29,hd,_=>cases hd;exact e29.row X G rfl 108 108 Q5
      | 30,hd,_=>cases hd;exact e30.row X G rfl 108 108 Yp
      | 31,hd,_=>cases hd;exact e31.row X G rfl 108 108 Q6
      | 32,hd,_=>cases hd;exact e32.row X G rfl 108 108 Yq
      | 33,hd,_=>cases hd;exact e33.row X G rfl 108 108 UL
      | 34,hd,_=>cases hd;exact e34.row X G rfl 108 108 UM
      | 35,hd,_=>cases hd;exact e35.row X G rfl 108 108 Q7
      | 36,hd,_=>cases hd;exact e36.row X G rfl 108 108 Je
      | 37,hd,_=>cases hd;exact e37.row X G rfl 108 108 UN
      | 38,hd,_=>cases hd;exact e38.row X G rfl 108 108 UO
      | 39,hd,_=>cases hd;exact e39.row X G rfl 108 108 Yr
      | 40,hd,_=>cases hd;exact e40.row X G rfl 108 108 UP
      | 41,hd,_=>cases hd;exact ⟨by decide,_,_,_,Y1p X G a,a,z9t (Z4 (st:=top 50) l41 c41 k41) o_law 108,o_law⟩
      | 42,hd,hnc=>exact absurd hnc 108
      | 43,hd,hnc=>exact absurd hnc 108
      | n+44,hd,_=>exact absurd hd (by simp [defs])
    · simp only [zf,Y06,Y0p,or_false] at hx;rcases hx with hq | hq | hq | hq
      · cases hq
      · cases hq;refine ⟨by decide,d_init_Rest,(jf (top 18)).getD 0 (.Pass 123),cc0,ci0,_,"__init__","Rest.__init__",rfl,Y1p X G ca0,⟨cm0,cy0,cf0,cp0⟩,⟨ca0,⟨cg0,ch0,co0,cs0⟩,λ f hf=>cn0.mem hf⟩,Z4 (st:=(jf (top 18)).getD 0 (.Pass 123)) cl0 ce0 ck0,Ys⟩
      · cases hq;refine ⟨by decide,d_init_Found,(jf (top 24)).getD 0 (.Pass 123),cc1,ci1,_,"__init__","Found.__init__",rfl,Y1p X G ca1,⟨cm1,cy1,cf1,cp1⟩,⟨ca1,⟨cg1,ch1,co1,cs1⟩,λ f hf=>cn1.mem hf⟩,Z4 (st:=(jf (top 24)).getD 0 (.Pass 123)) cl1 ce1 ck1,Q8⟩
      · cases hq
  refine ⟨λ _=>.none,PySem.W.fnOf "law" "law" (zK (top 50)) (zE (top 50)) (zk (top 50)) .none kV dc pm an cd ct,λ s v=>.of_eq rfl,λ base _ _=>?_⟩;exact Ub T (z6e 108) 10 41 d_law _ _ (top 50) _ _ _ rfl ((Z4 (st:=top 50) l41 c41 k41).toD o_law) o_law
end K31
end
namespace PySem.W.Fast
def tw1328695851689358398 := ()
def tw11095912304697692246 := ()
def tw1575508945651136623 := ()
def tw12109203426532441774 := ()
def tw18304409197074726791 := ()
def tw5574052389649373555 := ()
def tw3316786748436127246 := ()
def tw13836353349335521188 := ()
def tw18143155585223265106 := ()
def tw14084789019057873497 := ()
def tw16849122240532542965 := ()
def tw13963653660334133858 := ()
def tw265089598697855210 := ()
def tw5013552458930866354 := ()
def tw15707846977954569357 := ()
def tw569441703266617711 := ()
def tw4802623484926111175 := ()
def tw2172851502663094296 := ()
def tw13833019520270230062 := ()
def tw1616917672900688280 := ()
def tw8926109418533342200 := ()
def tw13201016830893660095 := ()
def tw16480421706771121783 := ()
def tw10355589632331605055 := ()
def tw4173258277579007575 := ()
def tw18113094638493844975 := ()
def tw1880210020751339166 := ()
def tw8334840795955720868 := ()
def tw11835500070058443705 := ()
def tw2915054610177428793 := ()
def tw18012556808398824337 := ()
def tw13791839463244623753 := ()
def tw13286229679874797062 := ()
def tw2675970650791927034 := ()
def tw4633238153544697225 := ()
def tw381916154036687090 := ()
def tw17993215758270713652 := ()
def tw9475553099658714475 := ()
def tw14328491003305228160 := ()
def tw7468024583493657677 := ()
def tw12095865923146708175 := ()
def tw16771980108989218499 := ()
def tw1441715397237886572 := ()
def tw829376171672533085 := ()
def tw5343972596100968216 := ()
def tw6202539895951697850 := ()
def tw9357431164292660004 := ()
def tw3234494711834513155 := ()
def tw7557617589354669431 := ()
def tw13119981671143355642 := ()
def tw5812988483265362168 := ()
def tw3915539413979852214 := ()
def tw2068160850305772754 := ()
def tw10789753510547953510 := ()
def tw920586870620803855 := ()
def tw17425400048820487111 := ()
def tw11953228012436461622 := ()
def tw9672043713004469435 := ()
def tw1720876043086817023 := ()
def tw12216187074003305670 := ()
def tw2739500020230793718 := ()
def tw12913132956658600146 := ()
def tw17969762662805159765 := ()
def tw7463093821041119009 := ()
def tw14291388212504832025 := ()
def tw793443666257748124 := ()
def tw11311060703188935231 := ()
def tw14367662570496601094 := ()
def tw2273331486620606314 := ()
def tw11260609085167685650 := ()
def tw4374289657609235120 := ()
def tw5100214064155743329 := ()
def tw14289815786829083707 := ()
def tw17092562744535927981 := ()
def tw9806590042873516458 := ()
def tw7591650278115223526 := ()
def tw16013009900888472018 := ()
def tw2440001804567410327 := ()
def tw12465593494054972479 := ()
def tw2478453251595478521 := ()
def tw4873624335927957434 := ()
def tw17940190321356534237 := ()
def tw871001769523443134 := ()
def tw16345804401874681021 := ()
def tw6867293191736873595 := ()
def tw12794427869142494382 := ()
def tw13348091631955299152 := ()
def tw10633577028058135646 := ()
def tw16042595286278327148 := ()
def tw17744725585114875079 := ()
def tw12484470402894540057 := ()
def tw15127065805129005317 := ()
def tw1294953300082142547 := ()
def tw14581822067956056223 := ()
def tw2203627950467719125 := ()
def tw9722063697265497016 := ()
def tw17605784417401265775 := ()
def tw16398716036407323398 := ()
def tw17537564783818768026 := ()
def tw1209775658747409649 := ()
def tw971852413449064908 := ()
def tw10611485622307709798 := ()
def tw12919386395880074560 := ()
def tw13750052706149780548 := ()
def tw15161627592409495619 := ()
def tw6696494881965218128 := ()
def tw13981273584760664311 := ()
def tw11797426705043308523 := ()
def tw9196564194264040888 := ()
def tw12693407851493101307 := ()
def tw128485128344452752 := ()
def tw9335389356503906773 := ()
def tw7879233135624754983 := ()
def tw3251796436623138231 := ()
def tw8670867827058237714 := ()
def tw5521366351154108937 := ()
def tw2528622415362284548 := ()
def tw12841866788416587812 := ()
def tw11511496911671932093 := ()
def tw14563602912742084877 := ()
def tw7575986585753621740 := ()
def tw10096774593406394079 := ()
def tw12905123659220426990 := ()
def tw4142492264108611133 := ()
def tw13666594916514085009 := ()
def tw15902979206941188971 := ()
def tw18249800834778687160 := ()
def tw6742421372579123883 := ()
def tw7034742169368232328 := ()
def tw980307576419908339 := ()
def tw13262542517889351378 := ()
def tw13814180246081792239 := ()
def tw16568929115278037723 := ()
end PySem.W.Fast
open PySem PySem.W
set_option maxRecDepth 100000 in
set_option maxHeartbeats 0 in
theorem PySem.Challenge.cw_deedwright_k31_rows_of_what_stands_ahead_holds : PySem.Challenge.rw_deedwright_k31_rows_of_what_stands_ahead.Holds := by
 w_on;o_law;k_head;(case hw=>w_witness2)
 k_fill
 refine PI.walk_ofB (l:=PySem.Challenge.rw_deedwright_k31_rows_of_what_stands_ahead) (k:=20) (c:=PI.callI K31.defs 10 41) (x:="_law_script") rfl rfl ⟨rfl,by decide,by decide⟩ (λ w h Y=>PySem.W.kIn_of Y) ?F ?S
 case F =>
  intro w mg fa h KX G hmg;refine' K31.all_mk (l:=PySem.Challenge.rw_deedwright_k31_rows_of_what_stands_ahead) (w:=w) KX G hmg (K31.fnk ?a0 ?l0 ?c0 ?k0) (K31.fnk ?a1 ?l1 ?c1 ?k1) (K31.fnk ?a2 ?l2 ?c2 ?k2) (K31.fnk ?a3 ?l3 ?c3 ?k3) (K31.fnk ?a4 ?l4 ?c4 ?k4) (K31.fnk ?a5 ?l5 ?c5 ?k5) (K31.fnk ?a6 ?l6 ?c6 ?k6) (K31.fnk ?a7 ?l7 ?c7 ?k7) (K31.fnk ?a8 ?l8 ?c8 ?k8) (K31.fnk ?a9 ?l9 ?c9 ?k9) (K31.fnk ?a10 ?l10 ?c10 ?k10) (K31.fnk ?a11 ?l11 ?c11 ?k11) (K31.fnk ?a12 ?l12 ?c12 ?k12) (K31.fnk ?a13 ?l13 ?c13 ?k13) (K31.fnk ?a14 ?l14 ?c14 ?k14) (K31.fnk ?a15 ?l15 ?c15 ?k15) (K31.fnk ?a16 ?l16 ?c16 ?k16) (K31.fnk ?a17 ?l17 ?c17 ?k17) (K31.fnkd_row_of ?a18 ?l18 ?c18 ?k18 ?t18 ?td18) (K31.fnk ?a19 ?l19 ?c19 ?k19) (K31.fnk ?a20 ?l20 ?c20 ?k20) (K31.fnk ?a21 ?l21 ?c21 ?k21) (K31.fnk ?a22 ?l22 ?c22 ?k22) (K31.fnk ?a23 ?l23 ?c23 ?k23) (K31.fnk ?a24 ?l24 ?c24 ?k24) (K31.fnk ?a25 ?l25 ?c25 ?k25) (K31.fnk ?a26 ?l26 ?c26 ?k26) (K31.fnk ?a27 ?l27 ?c27 ?k27) (K31.fnk ?a28 ?l28 ?c28 ?k28) (K31.fnk ?a29 ?l29 ?c29 ?k29) (K31.fnk ?a30 ?l30 ?c30 ?k30) (K31.fnk ?a31 ?l31 ?c31 ?k31) (K31.fnk ?a32 ?l32 ?c32 ?k32) (K31.fnk ?a33 ?l33 ?c33 ?k33) (K31.fnk ?a34 ?l34 ?c34 ?k34) (K31.fnk ?a35 ?l35 ?c35 ?k35) (K31.fnk ?a36 ?l36 ?c36 ?k36) (K31.fnk ?a37 ?l37 ?c37 ?k37) (K31.fnk ?a38 ?l38 ?c38 ?k38) (K31.fnk ?a39 ?l39 ?c39 ?k39) (K31.fnk ?a40 ?l40 ?c40 ?k40) ?a41 ?l41 ?c41 ?k41 ⟨?_,?_,?_,?_,?_,?_,?_,?_,?_,?_,?_,?_,?_,?_,?_,?_,?_,?_,?_,?_,?_,⟨⟩⟩ ?ga0 ?gl0 ?ge0 ?ca0 ?cy0 ?cl0 ?ce0 ?ck0 ?cm0 ?cf0 ?cp0 ?cg0 ?ch0 ?co0 ?cs0 ⟨?_,?_,?_,?_,?_,?_,?_,?_,?_,?_,?_,?_,?_,?_,?_,?_,?_,?_,?_,?_,?_,?_,⟨⟩⟩ ?ca1 ?cy1 ?cl1 ?ce1 ?ck1 ?cm1 ?cf1 ?cp1 ?cg1 ?ch1 ?co1 ?cs1 ⟨?_,?_,?_,?_,?_,?_,?_,?_,?_,?_,?_,?_,?_,?_,?_,?_,?_,?_,?_,?_,?_,?_,⟨⟩⟩
  all_goals try k_is
  (case td18=>rfl)
  (case ge0=>(refine ⟨⟨rfl,125,?hx⟩,?hr⟩;(case hx=>exact 125);(case hr=>(refine ⟨⟨rfl,125,?hx⟩,?hr⟩;(case hx=>exact 125);(case hr=>(refine ⟨⟨rfl,125,?hx⟩,?hr⟩;(case hx=>exact 125);(case hr=>(refine ⟨⟨rfl,125,?hx⟩,?hr⟩;(case hx=>exact 125);(case hr=>(refine ⟨⟨rfl,125,?hx⟩,?hr⟩;(case hx=>exact 125);(case hr=>(refine ⟨⟨rfl,125,?hx⟩,?hr⟩;(case hx=>exact 125);(case hr=>(refine ⟨⟨rfl,125,?hx⟩,?hr⟩;(case hx=>exact 125);(case hr=>(refine ⟨⟨rfl,125,?hx⟩,?hr⟩;(case hx=>exact 125);(case hr=>(refine ⟨⟨rfl,125,?hx⟩,?hr⟩;(case hx=>exact 125);(case hr=>exact trivial)))))))))))))))))))
 case S =>
  exact λ ns _ hb=>K31.law_true ns
#print axioms PySem.Challenge.cw_deedwright_k31_rows_of_what_stands_ahead_holds
