import PyProof.Rows.All
import Wide.All
import OpenK.AllK
import Wide.FinOn
import Lean
import PyProof.EqAt
import PyProof.EqKinds
import PyProof.TupleCall
import KE.KIntText
import PyProof.NeKinds
import PyProof.FString4
import PyProof.StrLawsRepr
import PyProof.ZipIter
import PyProof.TupleIter
import KE.KRevIter
import KE.KDictOf
import PyProof.AttrMissHeap
import KE.KItemsList
import PyProof.SumAny
import PyProof.SliceList
import PyProof.EnumIter
import PyProof.EnumMake
import PyProof.EnumFor
import PyProof.DictWalks
import PyProof.Rows.DictItemsRows
import KE.KPairComp
import KE.KEqDict
import PyProof.Rows.SetFrom
import PyProof.Rows.SortStr
import PyProof.DictKinds
import PyProof.Rows.SortShellK
import PyProof.StrLawsTight
import PyProof.Rows.StrStep
import PySem.Challenge.RW_deedwright_k32_the_found_table_fits
set_option compiler.extract_closed false
set_option hygiene false
local macro_rules|`(126)=>`(Nat->List D->Hh->Res D)|`(127)=>`((by decide))|`(128)=>`((by omega))|`(129)=>`((bnd rfl (bnd rfl rfl)))|`(130)=>`((by simp))|`(131)=>`(Inv X pins σ H s)|`(132)=>`((model X.prog X.w))|`(133)=>`((bnd rfl rfl))|`(134)=>`((l.map λ p=>p.2.d))|`(135)=>`(⟨pe,λ _=>by exact zS pe λ _=>rfl⟩)|`(136)=>`((.loc h.length))|`(137)=>`(List (Addr×Obj))|`(138)=>`(⟨0,0,0,0⟩)|`(139)=>`((model prog w))|`(140)=>`((l.map (·.1)))
local macro_rules|`(141)=>`((cns rfl rfl))|`(142)=>`((rwN (fB (dsP l)) (crP l) (evP l) l m))|`(143)=>`([some bd,some bl,some (.loc nc),some (.loc nb),some (.loc no),some (.loc nw),some (pD (.nd k ps,a)),some (G.nd k ps).d,some (.int a)])|`(144)=>`((rwN f cr ev l m))|`(145)=>`((fB (dsP l)))|`(146)=>`(⟨_,rfl⟩)|`(147)=>`([O.dK (zw 0 ds)])|`(148)=>`((zJ X NC scope C s H fp pn xe))|`(149)=>`((.lst (txs ds)))|`(150)=>`([O.lst (txs (zI (r x).1 ds))])|`(151)=>`((.loc n))|`(152)=>`((((sIx items.size 0 lo:Nat):Int)==0&&(1:Int)==1&&(sIx items.size items.size hi-sIx items.size 0 lo)==items.size))|`(153)=>`(Shared)|`(154)=>`((by simp;omega))|`(155)=>`((callI defs (k+1)))
local macro_rules|`(156)=>`([O.lst [.tup [.str "num",.int 5]]])|`(157)=>`(List (Key×D))|`(158)=>`((Rep X.K))|`(159)=>`((x==("__debug__":Str)))|`(160)=>`(Nat->Value)|`(161)=>`((.loc nd))|`(162)=>`((nmD a b c d))|`(163)=>`((.call g (some b)))|`(164)=>`((bnd rfl (bnd rfl (t0 _))))|`(165)=>`(∀ b∈ch,(b∈X.ex\/X.s₀.heap.objs.size<=b)/\b≠X.env.locals/\(∀ x c,X.env.cells.lookup x=some c->c≠b)/\∀ p∈X.pn++pins,p.1≠b)|`(166)=>`((s.heap.objs.size+1))|`(167)=>`((λ d=>tb (f d) i))|`(168)=>`(Option D)|`(169)=>`((cns rfl 141))|`(170)=>`((ji ((QR (j8 rfl A.op) rfl).trans (by rw [ln,decide_eq_true 128])) ((z1v (jH rfl rfl 127) rfl).trans (by rw [decide_eq_true z3]))))
local macro_rules|`(171)=>`((l.map (·.1)).Nodup)|`(172)=>`((.str x))|`(173)=>`(List (Key×V))|`(174)=>`(⟨μ1,ρ,h1,r1,er1,p1⟩)|`(175)=>`((Y0b _))|`(176)=>`([O.lst (List.replicate (m-1).toNat (.tup [.str "num",.int 5]))])|`(177)=>`((.dK kvs))|`(178)=>`((.ref s.heap.objs.size))|`(179)=>`(List Int)|`(180)=>`(jp X.env.scope scope X.N NC cap=true)|`(181)=>`(List D)|`(182)=>`((ji (tm _ 7 true _ _ _ _ _ rfl (decide_eq_true z7)) ((QR (j8 rfl A.hd) rfl).trans (by rw [ln,decide_eq_true 128]))))|`(183)=>`((λ a y=>Builtin.bitOr a (fB ds y)))|`(184)=>`((.str d))|`(185)=>`((.nd k ps,a))
local macro_rules|`(186)=>`((.ListComp elt [⟨tg,iter,ifs,0⟩] scope pos))|`(187)=>`((Kx.set _ _ 130))|`(188)=>`((zc _ _))|`(189)=>`(∀ d∈ds,zK bits (.inr d)=some (.int (f d)))|`(190)=>`(Array (Int×Value))|`(191)=>`((rwN f cr ev l n))|`(192)=>`(jV q.1 (j1 tg (jz cap ρ) (λ ρ' h2=>ct.evC cl ρ' h2) (λ ρ' h2=>elt.ev cl ρ' h2)) q.2 [] h'=.ok xs h2)|`(193)=>`(List V)|`(194)=>`((notedBy 139 A env λ e s'=>R (.error e) s'))|`(195)=>`((.lst xs))|`(196)=>`(List Ni)|`(197)=>`(((h++[O.lst [.str "plain",.str "open",.str "handler",.str "handler"]]).set nk (.lst (txs K++[.str x]))))|`(198)=>`((λ ρ' h'=>r.run cl ρ' h'))|`(199)=>`(e.ev cl ρ h=.ok 151 h1)|`(201)=>`(Str->List Str×List Str)
local macro_rules|`(202)=>`((.ref a))|`(203)=>`(⟨_,Y0c _ rfl,rfl,rfl⟩)|`(204)=>`(Program)|`(205)=>`(("deeds",.loc nd))|`(206)=>`((λ x=>tb (cr x) i))|`(207)=>`((by decide +kernel))|`(208)=>`((bnd rfl (bnd rfl e0)))|`(209)=>`((.int i))|`(210)=>`(⟨rfl,rfl⟩)|`(211)=>`(Array (Option Value))|`(212)=>`(A.handled=none)|`(213)=>`((cs.map D.int))|`(214)=>`((.bl true))|`(215)=>`(∀ (h:Hh) (nd:Nat),h[nd]?=some 149->∃ h' nr L,cl 14 [.tup 134,.loc nd] h=.ok (.loc nr) h'/\Kx [] h h'/\h.length<=nr/\L.map (·.1)=l/\h'[nr]?=some (.dK (nrK L))/\RestsOk h' nr f cr L)|`(216)=>`(X.calm=true)
local macro_rules|`(217)=>`((wx rfl rfl 127))|`(218)=>`(⟨rfl,by decide,by decide,by decide⟩)|`(219)=>`((h1.set nl (.lst (txs F++txs (dnL g)))))|`(220)=>`([x0,some (.int x),some (.loc nc),some 162,some (.loc nsm),some (.loc ncl),some (.int (k:Nat)),x7])|`(221)=>`([some (scr ns),x1,some (.loc nk),some (nD k),some (.loc nsd),x5,some 162,some (.loc nit),x8])|`(222)=>`((zJ X NC scope H2.objs.size s₂ H₂ fp [] En))|`(223)=>`((dsP l))|`(224)=>`((.loc nv))|`(225)=>`(FnOk X.prog X.w X.K X.mg X.base (CXs X.prog X.w) k f fd ps sp)|`(226)=>`(⟨rfl,I.turned (λ b o hb e=>eb b o hb e) f0 f1 f3 f4 f5⟩)|`(227)=>`((zi a _ _))|`(228)=>`((.tup 134))|`(229)=>`((ha pins s σ H _ I h))|`(230)=>`((bs.map λ g=>(g,0)))|`(231)=>`((EP X pins σ Q))
local macro_rules|`(232)=>`((zJ X NC scope C s₂ H₂ fp pn xe))|`(233)=>`([some (scr ns),some 161,some 136,y7,some (.loc h1.length),some (.loc h2.length),some (nmD h3.length h2.length h4.length nd),some (.loc h5.length),some (.int (t:Nat))])|`(234)=>`((.loc nb))|`(235)=>`(∀ x∈dd,PyData.strOk x=true)|`(236)=>`((rwN f cr ev l (n+1)))|`(237)=>`(∀ (n:Nat) a,μ[n]?=some a->μ'[n]?=some a)|`(238)=>`([O.lst (cs'.map D.int)])|`(239)=>`((seqObj "tuple" (pl.map λ (p:Nat)=>rawInt p).toArray 0))|`(240)=>`((G.ds ps))|`(241)=>`((.tup xs))|`(242)=>`((.loc nr))|`(243)=>`((.inl rfl))|`(244)=>`((λ v σ H Q=>∃ μ ρ d ρ' h,HR X.K μ h H/\ER X.K μ ρ σ H/\Rep X.K μ H d v/\jm (.tup is p1) (Q2 d h) ρ=some ρ'/\∀ σ',ER X.K μ ρ' σ' H->Q σ' H))|`(245)=>`((h++[.dK (wP f cr rw ev (dn.map (·.1)))]))|`(246)=>`((.builtin "object.__class__"))
local macro_rules|`(247)=>`((SetTable.grown es1.size))|`(248)=>`(⟨.bl _,H,I,rfl,by rw [el];exact p.here hr (.bl _)⟩)|`(249)=>`(List (Option Nat))|`(250)=>`((stay_one.mpr hp))|`(251)=>`([some (.loc nt),some (.tup pr),some 161,some p.2.d,some (.tup [.loc a,.loc b])])|`(252)=>`((zm 129 rfl ((eqS jj jg).trans (by rfl))))|`(253)=>`((.loc nc))|`(254)=>`((zR 140 144))|`(255)=>`((h1.set nr (.dK (nrK L++[(.inr p.1,.loc h.length)]))))|`(257)=>`((HT.sIx xs.length xs.length hi-HT.sIx xs.length 0 lo))|`(258)=>`((λ z=>by rw [z,hp] at h;cases h))|`(259)=>`((λ ρ' h'=>c.evT cl ρ' h'))|`(260)=>`(List G)|`(261)=>`((callI defs (k+2)))|`(262)=>`((.bl _))
local macro_rules|`(263)=>`(⟨x,rfl,μ1,h1,da,_,r1,qa,p1⟩)|`(264)=>`((.int x))|`(265)=>`(⟨_,e,λ _ y=>(nomatch y),λ _ _ y=>(nomatch y)⟩)|`(266)=>`([.inr x,.inr d])|`(267)=>`(⟨NC,n.F,n.G⟩)|`(268)=>`((a.ok X.env.scope n=true/\b.ok X.env.scope n=true))|`(269)=>`((.ref f))|`(270)=>`(⟨h',(z9 rfl rfl).trans e,r⟩)|`(271)=>`((.bin .BitOr (.fld (.var 4 p7) "done" p8) (.call 8 (.sub (.var 3 p9) (.sub (.var 7 q1) (.int 1 q2) q3) q4) (.cons (.var 8 q5) .nil) q6 q7) q8))|`(272)=>`(⟨.bl _,H,I',rfl,p'⟩)|`(273)=>`((tupleKind_room_in1 hu))|`(274)=>`(Reps K μ H ds vs)|`(275)=>`((λ z=>nomatch z))|`(276)=>`((I.hok.fresh 175))|`(277)=>`(((dsP l).idxOf d))
local macro_rules|`(278)=>`(("every",.int ev))|`(279)=>`((match jm tg x ρ with | some ρ'=>(ct ρ' h).bind λ b h1=>if b then (ce ρ' h1).bind λ d h2=>.ok (some d) h2 else .ok none h1 | none=>.no))|`(280)=>`((.fK (nrK L)))|`(281)=>`(Option Int)|`(282)=>`(⟨ok.mod,ok.kind,ok.glob,ok.blt,ok.above,ok.inj,ok.has,ok.cab,ok.hd,ok.frames,ok.stk,ok.exf,ok.bs,ok.bsz,ok.noex,ok.exfs,ok.funs,ok.frf⟩)|`(283)=>`((PySem.W.fnOf x qual (jk st) (j3 st) (zG st) .none kV doc pm an cdv ct))|`(284)=>`((false,eval e X.env))|`(285)=>`((zo rfl))|`(286)=>`((zH je λ ρ' h'=>b_law_answers_1.run cl ρ' h'))|`(287)=>`(e'.ev cl ρ h1=.ok (.int k) h2)|`(288)=>`(List Expr)|`(289)=>`((kdG p.1))|`(290)=>`((l.map PyData.str))|`(291)=>`((by simpa using e))|`(292)=>`([(s₂.heap.objs.size,{ cls:=.type "list",data:=.seq us.toArray n })])
local macro_rules|`(293)=>`((a==sysModules))|`(294)=>`([O.lst ((L.map It.d).drop t)])|`(295)=>`((if neg then .NotEq else .Eq))|`(296)=>`(Around)|`(297)=>`((λ w hw=>wU rx fx r fs w (by simpa using hw)))|`(298)=>`((.builtin "type.__call__" ⟨.ref C::us,kw⟩))|`(299)=>`((zm rfl rfl rfl))|`(300)=>`((λ c=>c<1114112/\(c=97+k\/106<=c)))|`(301)=>`([some bd,some bl,some 253,some 234,some (.loc no),some (.loc nw),l,t,c])|`(302)=>`([some 264,some g.d,some 162,some (zV ob),some (.str f),none,none,none])|`(303)=>`([some pr,some dd,some 242,some (.int ev),some (.loc a),some (.loc b)])
set_option hygiene true
set_option autoImplicit true
set_option relaxedAutoImplicit true
section
open PySem
abbrev XQ:=List Str
abbrev XU:=Value->Shared->Prop
abbrev XV:=List Value
abbrev XW:=Str->Int×Int
abbrev XX:=Option Str
abbrev XY:=Str->Int
abbrev XZ:=List Addr
abbrev XJ:=Str->Option Value
end
set_option Elab.async false
set_option linter.all false
set_option maxRecDepth 100000
noncomputable section
section
open PySem PySem.Spec PyProof.Rows PySem.W PySem.Calls
abbrev Y00:=@List.getElem?_eq_some_iff
abbrev Y01:=@PySem.W.Frag
abbrev Y02:=@List.mem_cons_of_mem
abbrev Y03:=@Heap.get?_push_of_some
abbrev Y04:=@List.mem_cons_self
abbrev Y05:=@List.length_append
abbrev Y06:=@List.getElem?_eq_getElem
abbrev Y07:=@List.length_map
abbrev Y08:=@List.mem_cons
abbrev Y09:=@List.length_cons
abbrev Y0a:=@List.map_cons
abbrev Y0b:=@Nat.le_refl
abbrev Y0c:=@Heap.get?_push_size
abbrev Y0d:=@List.mem_singleton
abbrev Y0e:=@List.mem_map
abbrev Y0f:=@List.size_toArray
abbrev Y0g:=@Heap.lt_size
abbrev Y0h:=@List.getD_eq_getElem?_getD
abbrev Y0i:=@List.append_assoc
abbrev Y0j:=@List.mem_append
abbrev Y0k:=@Nat.ne_of_lt
abbrev Y0l:=@Bool.and_eq_true
abbrev Y0m:=@List.map_map
abbrev Y0n:=@List.nil_append
abbrev Y0o:=@List.map_append
abbrev Y0p:=@List.any_cons
abbrev Y0q:=@List.getElem?_append_right
abbrev Y0r:=@List.getElem?_map
abbrev Y0s:=@List.mem_append_right
abbrev Y0t:=@List.not_mem_nil
abbrev Y0u:=@List.map_nil
abbrev Y0v:=@List.append_nil
abbrev Y0w:=@Nat.lt_of_lt_of_le
abbrev Y0x:=@Bool.false_ne_true
abbrev Y0y:=@Nat.le_trans
abbrev Y0z:=@List.mem_of_getElem?
abbrev Y10:=@List.getElem?_append_left
abbrev Y11:=@PySem.mem_of_lookup
abbrev Y12:=@List.nodup_cons
abbrev Y13:=@List.getElem?_set_ne
abbrev Y14:=@List.replicate_succ
abbrev Y15:=@List.pairwise_iff_getElem
abbrev Y16:=@List.mem_flatMap
abbrev Y17:=@List.all_eq_true
abbrev Y18:=@PySem.W.kia_one
abbrev Y19:=@Nat.zero_le
abbrev Y1a:=@List.idxOf_lt_length_of_mem
abbrev Y1b:=@Nat.lt_irrefl
abbrev Y1c:=@List.flatMap_cons
abbrev Y1d:=@Bool.or_false
abbrev Y1e:=@Heap.size_push
abbrev Y1f:=@List.length_set
abbrev Y1g:=@List.foldl_cons
abbrev Y1h:=@List.mem_append_left
abbrev Y1i:=@List.getElem?_set_self
abbrev Y1j:=@List.find?_cons_of_neg
abbrev Y1k:=@List.mem_map_of_mem
abbrev Y1l:=@List.filterMap_cons
abbrev Y1m:=@Array.length_toList
abbrev Y1n:=@List.mem_range
abbrev Y1o:=@List.getElem?_eq_none
abbrev Y1p:=@Nat.lt_succ_self
abbrev Y1q:=@Bool.or_eq_true
abbrev Y1r:=@Option.map_eq_some_iff
abbrev Y1s:=@Heap.get?_update_other
abbrev Y1t:=@List.length_take
abbrev Y1u:=@List.pairwise_cons
abbrev Y1v:=@List.mem_filterMap
abbrev Y1w:=@Heap.get?_update_self
abbrev Y1x:=@Array.getElem?_toList
abbrev Y1y:=@PyProof.Rows.slot_tuple_getitem
abbrev Y1z:=@Nat.sub_self
abbrev Y20:=@Nat.ne_of_gt
abbrev Y21:=@Nat.le_of_lt
abbrev Y22:=@List.getElem_mem
abbrev Y23:=@List.any_eq_true
abbrev Y24:=@PySem.W.cellsFrom_some
abbrev Y25:=@List.find?_cons_of_pos
abbrev Y26:=@Nat.lt_of_le_of_lt
abbrev Y27:=@List.mem_filter
abbrev Y28:=@Int.pow_succ
abbrev Y29:=@PySem.W.mg_of
abbrev Y2a:=@List.nodup_append
abbrev Y2b:=@List.flatten_cons
abbrev Y2c:=@Bool.or_assoc
abbrev Y2d:=@Heap.get?_none_of_le
abbrev Y2e:=@PyProof.Rows.F.plain_set_update_loop
abbrev Y2f:=@Option.bind_some
abbrev Y2g:=@List.lookup_cons
abbrev Y2h:=@List.filter_cons
abbrev Y2i:=@List.cons_append
abbrev Y2j:=@Nat.le_succ
abbrev Y2k:=@Option.isSome_iff_exists
abbrev Y2l:=@List.filterMap_cons_some
abbrev Y2m:=@List.filterMap_cons_none
abbrev Y2n:=@List.length_eq_zero_iff
abbrev Y2o:=@List.getElem_idxOf
abbrev Y2p:=@List.find?_cons
abbrev Y2q:=@Bool.false_or
abbrev Y2r:=@Bool.false_eq_true
abbrev Y2s:=@List.take_of_length_le
abbrev Y2t:=@Option.isSome_map
abbrev Y2u:=@Nat.lt_succ_of_lt
abbrev Y2v:=@List.length_range
abbrev Y2w:=@Int.toNat_natCast
abbrev Y2x:=@Option.getD_some
abbrev Y2y:=@Option.bind_none
abbrev Y2z:=@List.range'_succ
abbrev Y30:=@Int.mul_le_mul_of_nonneg_left
abbrev Y31:=@List.range_eq_range'
abbrev Y32:=@List.getElem?_of_mem
abbrev Y33:=@PyProof.Rows.callWith_type1
abbrev Y34:=@Int.emod_nonneg
abbrev Y35:=@List.any_nil
abbrev Y36:=@Int.emod_lt_of_pos
abbrev Y37:=@List.getElem?_eq_none_iff
abbrev Y38:=@List.drop_eq_getElem_cons
abbrev Y39:=@PySem.W.kitx_list
abbrev Y3a:=@PySem.F.args_tuple_add_2
abbrev Y3b:=@Nat.lt_trichotomy
abbrev Y3c:=@List.any_eq_false
abbrev Y3d:=@PySem.F.plainAttrs_list
abbrev Y3e:=@PySem.F.entry_tuple_add
abbrev Y3f:=@Option.bind_eq_some_iff
abbrev Y3g:=@List.all_cons
abbrev Y3h:=@List.range'_zero
abbrev Y3i:=@List.length_drop
abbrev Y3j:=@PySem.F.slot_tuple_add
abbrev Y3k:=@List.length_pos_of_mem
abbrev Y3l:=@Option.map_some
abbrev Y3m:=@Nat.succ_mul
abbrev Y3n:=@List.set_append_right
abbrev Y3o:=@List.length_nil
abbrev Y3p:=@List.length_filter_le
abbrev Y3q:=@Bool.eq_iff_iff
abbrev Y3r:=@Nat.mul_le_mul_right
abbrev Y3s:=@PyProof.Rows.F.entry_set_update_loop
abbrev Y3t:=@Nat.mul_le_mul
abbrev Y3u:=@List.lt_irrefl
abbrev Y3v:=@List.lookup_append
abbrev Y3w:=@List.find?_eq_none
abbrev Y3x:=@PySem.W.kitx_dict
abbrev Y3y:=@Nat.le_of_succ_le
abbrev Y3z:=@PyProof.Rows.callWith_builtin1
abbrev Y40:=@Nat.lt_trans
abbrev Y41:=@Nat.le_of_eq
abbrev Y42:=@Int.mul_comm
end
namespace L2
open PySem PySem.Spec PyProof.Rows
inductive Key where
 | inl (i:Int) | inr (x:Str) | nn
 deriving DecidableEq
def yQ:Key->Value->Bool
 | .inl k,v=>Value.isInt k v
 | .inr x,v=>Value.isStrOf x v
 | .nn,.none=>true
 | .nn,_=>false
def zcy (w:World):Key->Int
 | .inl k=>hashInt k
 | .inr x=>hashStr w x
 | .nn=>0xFCA86420
theorem B6 {v:Value}(h:yQ .nn v=true):v=.none:=by cases v<;>first | rfl | cases h
theorem zW:∀ {k:Key}{v:Value},yQ k v=true->(∃ i t,k=Key.inl i/\v=Value.int i t)\/(∃ x t,k=Key.inr x/\v=Value.str x t)\/(k=Key.nn/\v=Value.none)
 | .inl i,v,h=>by
  obtain ⟨t,e⟩:=Value.isInt_shape (k:=i) (v:=v) h;exact .inl ⟨i,t,rfl,e⟩
 | .inr x,v,h=>by
  obtain ⟨t,e⟩:=Value.isStrOf_shape (x:=x) (v:=v) h;exact .inr (.inl ⟨x,t,rfl,e⟩)
 | .nn,v,h=>.inr (.inr ⟨rfl,B6 h⟩)
theorem GY (i:Int)(t:Tok):yQ (.inl i) (.int i t)=true:=by simp [yQ,Value.isInt]
theorem GZ (x:Str)(t:Tok):yQ (.inr x) (.str x t)=true:=by simp [yQ,Value.isStrOf]
theorem z77 (a b:Int):decide (Key.inl a=Key.inl b)=(a==b):=by
 by_cases e:a=b
 ·subst e;simp
 ·have h:¬ Key.inl a=Key.inl b:=λ q=>e (Key.inl.inj q);rw [decide_eq_false h];exact (beq_eq_false_iff_ne.mpr e).symm
theorem z78 (a b:Str):decide (Key.inr a=Key.inr b)=decide (a=b):=by
 by_cases e:a=b
 ·subst e;simp
 ·have h:¬ Key.inr a=Key.inr b:=λ q=>e (Key.inr.inj q);rw [decide_eq_false h,decide_eq_false e]
section
variable {prog:204}{w:World}{A:296}{E:XU}{s:153}
theorem O0 {Q:Int->Shared->Prop}(h:Q 0xFCA86420 { s with toks:=s.toks+1 }):wpAny 139 A (pyHash .none) Q E s:=by
 have hT:s.TypeIs .none "NoneType":=rfl;unfold pyHash;refine wpAny_bind ?_;rw [cRoomFor,if_neg (show ¬ ([Value.none].any Value.onHeap=true) by decide)];refine wpAny_pure (wpAny_bind (wpAny_specialOf hT PySem.F.slot_NoneType_hash.lookup ?_));show wpAny _ _ (if (some (Value.builtin "NoneType.__hash__")==some Value.none)=true then _ else _) Q E s;rw [if_neg (by rw [beq_builtin_none];exact Y0x)];refine wpAny_bind (wpAny_specialOf hT PySem.F.slot_NoneType_hash.lookup ?_);show wpAny _ _ (callSpecialIfBoundUnlessNone? .none "__hash__" _ >>= _) Q E s;refine wpAny_bind (wpAny_callSpecialIfBoundUnlessNone?_slot hT PySem.F.slot_NoneType_hash (wpAny_call_entry PySem.F.slot_NoneType_hash hT PySem.F.entry_NoneType_hash (show wpAny _ _ (do ret (<- mkInt 0xFCA86420)) _ _ s from wpAny_ret_mkInt ?_) (PySem.F.args_NoneType_hash_1 _)));exact wpAny_pure h
end
def zB (prog:204)(w:World):PySem.KeyKind prog w Key where
 is:=yQ
 hash:=zcy w
 inj:=λ v a b ha hb=>by
  rcases zW ha with ⟨i,t,rfl,rfl⟩ | ⟨x,t,rfl,rfl⟩ | ⟨rfl,rfl⟩
  ·rcases zW hb with ⟨j,u,rfl,e⟩ | ⟨y,u,rfl,e⟩ | ⟨rfl,e⟩
   ·injection e with e1 _;rw [e1]
   ·exact nomatch e
   ·exact nomatch e
  ·rcases zW hb with ⟨j,u,rfl,e⟩ | ⟨y,u,rfl,e⟩ | ⟨rfl,e⟩
   ·exact nomatch e
   ·injection e with e1 _;rw [e1]
   ·exact nomatch e
  ·rcases zW hb with ⟨j,u,rfl,e⟩ | ⟨y,u,rfl,e⟩ | ⟨rfl,e⟩
   ·exact nomatch e
   ·exact nomatch e
   ·rfl
 byValue:=λ k v h=>by
  rcases zW h with ⟨i,t,rfl,rfl⟩ | ⟨x,t,rfl,rfl⟩ | ⟨rfl,rfl⟩<;>rfl
 pyHash:=λ hv h=>by
  rcases zW hv with ⟨i,t,rfl,rfl⟩ | ⟨x,t,rfl,rfl⟩ | ⟨rfl,rfl⟩
  ·exact wpAny_pyHash_int h
  ·exact wpAny_pyHash_str h
  ·exact O0 h
 eqBool:=λ hu hv h=>by
  rcases zW hu with ⟨i,t,rfl,rfl⟩ | ⟨x,t,rfl,rfl⟩ | ⟨rfl,rfl⟩
  ·rcases zW hv with ⟨j,u,rfl,rfl⟩ | ⟨y,u,rfl,rfl⟩ | ⟨rfl,rfl⟩
   ·rw [z77] at h;exact wpAny_eqBool_int h
   ·simp only [reduceCtorEq,decide_false] at h;exact SeqAt.EqAt.int_str i t y u _ _ _ _ h
   ·simp only [reduceCtorEq,decide_false] at h;exact SeqAt.EqAt.int_none i t _ _ _ _ h
  ·rcases zW hv with ⟨j,u,rfl,rfl⟩ | ⟨y,u,rfl,rfl⟩ | ⟨rfl,rfl⟩
   ·simp only [reduceCtorEq,decide_false] at h;exact SeqAt.EqAt.str_int x t j u _ _ _ _ h
   ·rw [z78] at h;exact wpAny_eqBool_str h
   ·simp only [reduceCtorEq,decide_false] at h;exact SeqAt.EqAt.str_none x t _ _ _ _ h
  ·rcases zW hv with ⟨j,u,rfl,rfl⟩ | ⟨y,u,rfl,rfl⟩ | ⟨rfl,rfl⟩
   ·simp only [reduceCtorEq,decide_false] at h;exact SeqAt.EqAt.none_int j u _ _ _ _ h
   ·simp only [reduceCtorEq,decide_false] at h;exact SeqAt.EqAt.none_str y u _ _ _ _ h
   ·simp only [decide_true] at h;exact SeqAt.EqAt.same .none _ _ _ _ h
 «strs»:=λ k x t v h=>by
  rcases zW h with ⟨i,u,rfl,e⟩ | ⟨y,u,rfl,e⟩ | ⟨rfl,e⟩
  ·exact nomatch e
  ·injection e with e1 _;subst e1;cases v<;>rfl
  ·exact nomatch e
theorem Y9 (prog:204)(w:World)(i:Int)(t:Tok):(zB prog w).is (.inl i) (.int i t)=true:=GY i t
theorem Ya (prog:204)(w:World)(x:Str)(t:Tok):(zB prog w).is (.inr x) (.str x t)=true:=GZ x t
inductive V where
 | non | bl (b:Bool) | int (i:Int) | str (x:Str) | byt (b:Array UInt8) | flt (b:UInt64) | ref (a:Addr) | ty (n:String)
 deriving DecidableEq
def RelV:V->Value->Prop
 | .non,u=>u=Value.none
 | .bl b,u=>u=Value.bool b
 | .int i,u=>∃ t,u=Value.int i t
 | .str x,u=>∃ t,u=Value.str x t
 | .byt b,u=>∃ t,u=Value.bytes b t
 | .flt b,u=>∃ t,u=Value.float b t
 | .ref a,u=>u=Value.ref a
 | .ty n,u=>u=Value.type n
abbrev Vals:List V->List Value->Prop:=Paired RelV
theorem Vals.length {xs:193}{us:XV}(r:Vals xs us):xs.length=us.length:=Paired.length r
theorem Vals.get:∀ {xs:193}{us:XV}{i:Nat}{x:V},Vals xs us->xs[i]?=some x->∃ u,us[i]?=some u/\RelV x u
 | _,_,_,_,.nil,e=>by simp at e
 | _,_,0,_,.cons r _,e=>by simp at e;subst e;exact ⟨_,rfl,r⟩
 | _,_,i+1,x,.cons _ t,e=>by
  obtain ⟨u,h1,h2⟩:=Vals.get t 291;exact ⟨u,by simpa using h1,h2⟩
theorem Vals.append:∀ {xs ys:193}{us ws:XV},Vals xs us->Vals ys ws->Vals (xs++ys) (us++ws)
 | _,_,_,_,.nil,s=>s
 | _,_,_,_,.cons r t,s=>.cons r (Vals.append t s)
theorem Vals.take:∀ {xs:193}{us:XV} (n:Nat),Vals xs us->Vals (xs.take n) (us.take n)
 | _,_,0,_=>.nil
 | _,_,_+1,.nil=>.nil
 | _,_,n+1,.cons r t=>.cons r (Vals.take n t)
theorem Vals.drop:∀ {xs:193}{us:XV} (n:Nat),Vals xs us->Vals (xs.drop n) (us.drop n)
 | _,_,0,r=>r
 | _,_,_+1,.nil=>.nil
 | _,_,n+1,.cons _ t=>Vals.drop n t
def RelO:Option V->Option Value->Prop
 | some v,some u=>RelV v u
 | none,none=>True
 | _,_=>False
def KV {κ:Type}:List (κ×V)->List (κ×Value)->Prop:=Paired λ (p:κ×V) (q:κ×Value)=>p.1=q.1/\RelV p.2 q.2
def kV:Key->V
 | .inl i=>.int i
 | .inr x=>.str x
 | .nn=>.non
inductive HO where
 | lst (xs:193)
 | tup (xs:193)
 | dK (kvs:173) | dT (kvs:List (List Key×V))
 | set (S:Int->Bool) (n:Nat)
 | ins (C dx:Addr) (fs:List (Str×V))
 | own (x:Addr)
 | xd (fs:List (Str×V))
 | met (f x:Addr)
 | rng (lo hi:Int)
 | frz (o:Obj) (u:HO)
 | tbl (ps:Array Value)
 | ext (φ:Heap->Prop)
abbrev Hp:=Addr->Option HO
def upd (H:Hp)(a:Addr)(o:HO):Hp:=λ b=>if b=a then some o else H b
theorem zC {H:Hp}{a:Addr}{o:HO}:upd H a o a=some o:=by unfold upd;rw [if_pos rfl]
theorem zr {H:Hp}{a b:Addr}{o:HO}(h:b≠a):upd H a o b=H b:=by unfold upd;rw [if_neg h]
theorem zaj {H:Hp}{a b:Addr}{o u:HO}(h:H a=some o)(h':H b=some u)(d:o≠u):a≠b:=by
 intro e;subst e;rw [h] at h';exact d (Option.some.inj h')
theorem jF {H:Hp}{a b:Addr}{o:HO}(h:H a=some o)(h':H b=none):a≠b:=by
 intro e;subst e;rw [h] at h';cases h'
section
variable (P:204)(w:World)
def ObjOk (H:Hp)(h:Heap)(a:Addr):HO->Prop
 | .lst xs=>xs.length<=sizeLine/\∃ (its:XV) (n:Nat),Vals xs its/\h.get? a=some { cls:=.type "list",data:=.seq its.toArray n }
 | .tup xs=>xs.length<=sizeLine/\∃ its:List Value,Vals xs its/\IsTup h a its.toArray
 | .dK kvs=>kvs.length<=sizeLine/\293=false/\∃ vs,KV kvs vs/\h.DictOf (zB P w) a vs
 | .dT kvs=>kvs.length<=sizeLine/\293=false/\∃ xs:List (List Key×Addr×Value),
   Paired (λ (p:List Key×V) (q:List Key×Addr×Value)=>p.1=q.1/\H q.2.1=some (.tup (p.1.map kV))/\RelV p.2 q.2.2) kvs xs /\
   ∃ o es ep,h.get? a=some o/\o.ExactDict/\o.data=.dict es ep/\es.toList=xs.map (entryOfKey (tupleKind (zB P w)))/\(xs.map (·.1)).Nodup
 | .set S n=>h.SetOf (intKind P w) a S n
 | .ins C dx fs=>H dx=some (.own a)/\fs.length<=1000/\dx≠a/\h.get? a=some (PySem.W.instObj C dx) /\
   ∃ mA,h.Ns1 dx mA/\(∀ f,RelO (fs.lookup f) (mA f))/\PySem.Within mA (fs.map (·.1))
 | .own _=>∃ o,h.get? a=some o
 | .xd fs=>∃ mA,h.Ns1 a mA/\∀ f,RelO (fs.lookup f) (mA f)
 | .rng lo hi=>∃ t u v,h.get? a=some { cls:=.type "range",data:=.fields #[.int lo t,.int hi u,.int 1 v] }
 | .frz o u=>h.get? a=some o/\ObjOk H h a u
 | .tbl ps=>h.get? a=some { cls:=.none,data:=.fields ps }
 | .met f x=>h.get? a=some (PySem.W.methodObj 269 (.ref x))
 | .ext φ=>φ h/\(∃ o,h.get? a=some o)/\∀ h1 h2:Heap,φ h1->(∀ o,h1.get? a=some o->h2.get? a=some o)->φ h2
def HOk (H:Hp)(h:Heap):Prop:=∀ a o,H a=some o->ObjOk P w H h a o
end
section
variable {P:204}{w:World}{H H':Hp}{h h':Heap}{a:Addr}{o:HO}
theorem ObjOk.lt (x:ObjOk P w H h a o):a<h.objs.size:=by
 cases o with
 | lst xs=>obtain ⟨_,_,_,_,e⟩:=x;exact Y0g e
 | tup xs=>obtain ⟨_,_,_,p⟩:=x;exact p.lt
 | dK kvs=>obtain ⟨_,_,_,_,o,_,_,e,_⟩:=x;exact Y0g e
 | dT kvs=>obtain ⟨_,_,_,_,o,_,_,e,_⟩:=x;exact Y0g e
 | set S n=>obtain ⟨o,_,_,_,e,_⟩:=x;exact Y0g e
 | ins C dx fs=>obtain ⟨_,_,_,e,_⟩:=x;exact Y0g e
 | own y=>obtain ⟨_,e⟩:=x;exact Y0g e
 | xd fs=>obtain ⟨_,⟨_,_,_,e,_⟩,_⟩:=x;exact Y0g e
 | rng lo hi=>obtain ⟨_,_,_,e⟩:=x;exact Y0g e
 | frz ob u=>obtain ⟨e,_⟩:=x;exact Y0g e
 | tbl ps=>exact Y0g (show h.get? a=some _ from x)
 | met f y=>exact Y0g (show h.get? a=some _ from x)
 | ext φ=>obtain ⟨_,⟨_,e⟩,_⟩:=x;exact Y0g e
theorem Paired.mapP {α β:Type}{F G:α->β->Prop}:∀ {l₁:List α}{l₂:List β},Paired F l₁ l₂->(∀ a b,F a b->G a b)->Paired G l₁ l₂
 | _,_,.nil,_=>.nil
 | _,_,.cons r t,f=>.cons (f _ _ r) (Paired.mapP t f)
theorem Paired.imp' {α β:Type}{F G:α->β->Prop}(f:∀ a b,F a b->G a b){l₁:List α}{l₂:List β}(r:Paired F l₁ l₂):Paired G l₁ l₂:=Paired.mapP r f
theorem ObjOk.stay (x:ObjOk P w H h a o)(k:∀ b u,(b=a\/H b=some (.own a))->h.get? b=some u->h'.get? b=some u)
  (ho:∀ b,H b=some (.own a)->H' b=some (.own a)) (ht:∀ b xs,H b=some 241->H' b=some 241):ObjOk P w H' h' a o:=by
 induction o with
 | lst xs=>obtain ⟨z,its,n,r,e⟩:=x;exact ⟨z,its,n,r,k _ _ 243 e⟩
 | tup xs=>obtain ⟨z,its,r,ob,e,c⟩:=x;exact ⟨z,its,r,ob,k _ _ 243 e,c⟩
 | dK kvs=>obtain ⟨z,y,vs,r,ob,es,ep,e,c⟩:=x;exact ⟨z,y,vs,r,ob,es,ep,k _ _ 243 e,c⟩
 | dT kvs =>
  obtain ⟨z,y,xs,r,ob,es,ep,e,c⟩:=x;exact ⟨z,y,xs,Paired.mapP r λ p q z=>⟨z.1,ht _ _ z.2.1,z.2.2⟩,ob,es,ep,k _ _ 243 e,c⟩
 | set S n=>obtain ⟨ob,es,ep,t,e,c⟩:=x;exact ⟨ob,es,ep,t,k _ _ 243 e,c⟩
 | ins C dx fs =>
  obtain ⟨d,z,ne,e,mA,⟨od,es,ep,e2,c⟩,r⟩:=x;exact ⟨ho _ d,z,ne,k _ _ 243 e,mA,⟨od,es,ep,k _ _ (.inr d) e2,c⟩,r⟩
 | own y=>obtain ⟨ob,e⟩:=x;exact ⟨ob,k _ _ 243 e⟩
 | xd fs=>obtain ⟨mA,⟨od,es,ep,e,c⟩,r⟩:=x;exact ⟨mA,⟨od,es,ep,k _ _ 243 e,c⟩,r⟩
 | rng lo hi=>obtain ⟨t,u,v,e⟩:=x;exact ⟨t,u,v,k _ _ 243 e⟩
 | frz ob u ih=>obtain ⟨e,q⟩:=x;exact ⟨k _ _ 243 e,ih q⟩
 | tbl ps =>
  have e:=x;show h'.get? a=some { cls:=.none,data:=.fields ps };exact k a _ 243 e
 | met f y =>
  have e:=x;show h'.get? a=some (PySem.W.methodObj 269 (.ref y));exact k a _ 243 e
 | ext φ=>obtain ⟨p,⟨o,e⟩,st⟩:=x;exact ⟨st _ _ p λ o q=>k _ _ 243 q,⟨o,k _ _ 243 e⟩,st⟩
theorem HOk.lt (x:HOk P w H h)(e:H a=some o):a<h.objs.size:=(x a o e).lt
theorem HOk.fresh (x:HOk P w H h)(e:h.objs.size<=a):H a=none:=by
 cases q:H a with
 | none=>rfl
 | some u=>exact absurd (Y0w (x.lt q) e) (Y1b _)
theorem HOk.kept (x:HOk P w H h)(k:∀ b u,h.get? b=some u->h'.get? b=some u):HOk P w H h':=λ a o e =>
 (x a o e).stay (λ b u _ q=>k b u q) (λ _ q=>q) λ _ _ q=>q
theorem HOk.laid (x:HOk P w H h)(k:∀ b u,h.get? b=some u->h'.get? b=some u)(hp:h.objs.size<=a)(new:ObjOk P w (upd H a o) h' a o):HOk P w (upd H a o) h':=λ b u e=>by
 have hn:=x.fresh hp;by_cases hb:b=a
 ·subst hb;rw [zC] at e;cases e;exact new
 ·rw [zr hb] at e;exact (x b u e).stay (λ c v _ q=>k c v q) (λ c q=>by rw [zr (jF q hn)];exact q) λ c xs q=>by rw [zr (jF q hn)];exact q
end
def Rd (H:Hp)(a:Addr)(u:HO):Prop:=H a=some u\/∃ o,H a=some (.frz o u)
theorem Rd.ok {P:204}{w:World}{H:Hp}{h:Heap}{a:Addr}{u:HO}(r:Rd H a u)(x:HOk P w H h):ObjOk P w H h a u:=by
 rcases r with r | ⟨o,r⟩
 ·exact x a u r
 ·obtain ⟨_,q⟩:=x a _ r;exact q
def Mut:Option HO->Prop
 | some (.lst _)=>True
 | some (.dK _)=>True
 | some (.dT _)=>True
 | some (.set _ _)=>True
 | some (.ins _ _ _)=>True
 | some (.ext _)=>True
 | _=>False
section
variable {P:204}{w:World}{H:Hp}{h h':Heap}{x e:Addr}{o':HO}
theorem HOk.write (ok:HOk P w H h)(mu:Mut (H x))(he:e=x\/H e=some (.own x))(k:∀ b u,b≠e->h.get? b=some u->h'.get? b=some u)(heo:∃ u,h'.get? e=some u)
  (new:ObjOk P w (upd H x o') h' x o'):HOk P w (upd H x o') h':=λ b u q=>by
 have nown:∀ c y,H c=some (.own y)->c≠x:=λ c y r z=>by subst z;rw [r] at mu;exact mu
 have ntup:∀ c xs,H c=some 241->c≠x:=λ c xs r z=>by subst z;rw [r] at mu;exact mu
 by_cases hb:b=x
 ·subst hb;rw [zC] at q;cases q;exact new
 ·rw [zr hb] at q;by_cases hbe:b=e
  ·have q':H b=some (.own x):=by
    rcases he with z | z
    ·exact absurd (hbe.trans z) hb
    ·rw [hbe];exact z
   rw [q] at q';cases q';obtain ⟨v,hv⟩:=heo;exact ⟨v,by rw [hbe];exact hv⟩
  ·refine (ok b u q).stay (λ c v hc r=>k c v ?_ r) (λ c r=>by rw [zr (nown c b r)];exact r) λ c xs r=>by rw [zr (ntup c xs r)];exact r
   rcases hc with rfl | hc
   ·exact hbe
   ·rintro rfl
    rcases he with z | z
    ·exact nown c b hc z
    ·rw [hc] at z;cases z;exact hb rfl
end
structure Un (fs ex:XZ)(H H':Hp)(h h':Heap):Prop where
 keep:∀ b o,h.get? b=some o->H b=none->b∉fs->b∉ex->h'.get? b=some o
 slot:∀ b o,h.get? b=some o->H b=none->b∈fs->b∉ex->∃ sl,h'.get? b=some { o with slots:=sl }
 free:∀ b o,h.get? b=some o->H b=none->b∉ex->H' b=none
 there:∀ b o,h.get? b=some o->b∉ex->∃ o',h'.get? b=some o'
 tups:∀ b xs,H b=some 241->H' b=some 241
 frzs:∀ b o u,H b=some (.frz o u)->H' b=some (.frz o u)
 tbls:∀ b ps,H b=some (.tbl ps)->∃ more,H' b=some (.tbl (ps++more))
section
variable {fs fs' ex ex':XZ}{H H1 H2:Hp}{h h1 h2 h':Heap}{a x e:Addr}{o:HO}
theorem Un.any (u:Un fs ex H H1 h h1){b:Addr}{ob:Obj}(q:h.get? b=some ob)(n:H b=none)(hx:b∉ex):∃ sl,h1.get? b=some { ob with slots:=sl }:=by
 by_cases hb:b∈fs
 ·exact u.slot b ob q n hb hx
 ·exact ⟨ob.slots,u.keep b ob q n hb hx⟩
theorem Un.kept (k:∀ b u,h.get? b=some u->h'.get? b=some u):Un fs ex H H h h' :=
 ⟨λ b ob q _ _ _=>k b ob q,λ b ob q _ _ _=>⟨ob.slots,k b ob q⟩,λ _ _ _ n _=>n,λ b ob q _=>⟨ob,k b ob q⟩,λ _ _ q=>q,λ _ _ _ q=>q,λ _ ps q=>⟨#[],by rw [q];simp⟩⟩
theorem Un.refl:Un fs ex H H h h:=Un.kept λ _ _ q=>q
theorem Un.laid (k:∀ b u,h.get? b=some u->h'.get? b=some u)(hp:h.objs.size<=a)(hn:H a=none):Un fs ex H (upd H a o) h h' where
 keep:=λ b u q _ _ _=>k b u q
 slot:=λ b u q _ _ _=>⟨u.slots,k b u q⟩
 free:=λ b u q n _=>by rw [zr (Y0k (Y0w (Y0g q) hp))];exact n
 there:=λ b u q _=>⟨u,k b u q⟩
 tups:=λ b xs q=>by rw [zr (jF q hn)];exact q
 frzs:=λ b u xs q=>by rw [zr (jF q hn)];exact q
 tbls:=λ b ps q=>⟨#[],by rw [zr (jF q hn),q];simp⟩
theorem Un.write (mu:Mut (H x))(he:e=x\/H e=some (.own x))(k:∀ b u,b≠e->h.get? b=some u->h'.get? b=some u)(heo:∃ u,h'.get? e=some u):Un fs ex H (upd H x o) h h':=by
 have hx:∀ b,H b=none->b≠x:=λ b n z=>by subst z;rw [n] at mu;exact mu
 have hb:∀ b,H b=none->b≠e:=λ b n z=>by
  subst z;rcases he with r | r
  ·exact hx b n r
  ·rw [n] at r;cases r
 have hm:∀ b u,H b=some u->¬ Mut (some u)->b≠x:=λ b u q nm z=>by subst z;rw [q] at mu;exact nm mu
 refine ⟨λ b u q n _ _=>k b u (hb b n) q,λ b u q n _ _=>⟨u.slots,k b u (hb b n) q⟩,λ b u q n _=>by rw [zr (hx b n)];exact n,λ b u q _=>?_,
  λ b xs q=>by rw [zr (hm b _ q λ z=>z)];exact q,λ b u xs q=>by rw [zr (hm b _ q λ z=>z)];exact q,λ b ps q=>⟨#[],by rw [zr (hm b _ q λ z=>z),q];simp⟩⟩
 by_cases hbe:b=e
 ·subst hbe;exact heo
 ·exact ⟨u,k b u hbe q⟩
end
def trk (h:Heap)(H:Hp):List Addr:=(List.range h.objs.size).filter λ a=>(H a).isSome
def WE (h:Heap)(H:Hp):Heap:=PySem.W.hideAll h (trk h H)
theorem O1 (h:Heap)(H:Hp):(WE h H).objs.size=h.objs.size:=PySem.W.hideAll_size _ _
theorem B7 {h:Heap}{H:Hp}{b:Addr}{o:Obj}(e:h.get? b=some o)(n:H b=none):(WE h H).get? b=some o :=
 PySem.W.hideAll_get _ e λ hm=>by
  have q:=(Y27.mp hm).2;rw [n] at q;simp at q
theorem z3c {h:Heap}{H:Hp}{b:Addr}{o:Obj}(e:(WE h H).get? b=some o):h.get? b=some o/\H b=none:=by
 have e':=PySem.W.of_hideAll (trk h H) e;refine ⟨e',?_⟩;cases q:H b with
 | none=>rfl
 | some x =>
  have hm:b∈trk h H:=Y27.mpr ⟨Y1n.mpr (Y0g e'),by simp [q]⟩;have z:(WE h H).get? b=none:=PySem.W.hideAll_none (trk h H) hm;rw [z] at e;cases e
def z3d (g h:Heap)(L:Addr):List (Addr×Obj):=(List.range h.objs.size).filterMap λ a=>if a=L\/(g.get? a).isSome=true then none else (h.get? a).map λ o=>(a,o)
def rest (g h:Heap)(L d:Addr):List (Addr×Obj):=(z3d g h L).filter λ p=>decide (p.1≠d)
structure Mod (K:Y01)(mg:XJ)(base:Heap):Prop where
 kin:K.In base
 glob:base.Ns mainGlobals mg
 blt:∃ mb,base.Ns builtinsNs mb/\∀ x:Str,x≠"__name__"->mb x=bootBuiltins x
 nolimit:base.NoLimit
structure Cx where
 prog:Program
 w:World
 K:Y01
 mg:Str->Option Value
 base:Heap
 A:Around
 N:List Str
 s₀:Shared
 H₀:Hp
 env:Env
 outer:List Env
 stack:List Env
 ex:List Addr
 fn:Str->Bool
 calm:Bool
 pn:List (Addr×Obj)
 xe:Value->Shared->Prop
def frs (l:List Env):List Addr:=l.filterMap (·.frame)
abbrev Cx.fs (X:Cx):List Addr:=frs X.outer
def Vis (sc:Scope)(x:Str):Prop:=sc.names.lookup x=some .local\/sc.names.lookup x=some .cell\/sc.names.lookup x=some .free
def Loc (sc:Scope)(x:Str):Prop:=sc.names.lookup x=some .local\/sc.names.lookup x=some .cell
def zcz (env:Env)(h:Heap)(m:XJ)(x:Str)(u:Value):Prop :=
 (env.kindOf x=some .local/\m x=some u)\/((env.kindOf x=some .cell\/env.kindOf x=some .free)/\∃ c,env.cells.lookup x=some c/\h.IsCell c (some u))
structure Cx.Ok (X:Cx):Prop where
 mod:Mod X.K X.mg X.base
 kind:X.env.scope.kind=.function
 glob:X.env.globals=mainGlobals
 blt:X.env.builtins=builtinsNs
 above:X.s₀.heap.objs.size<=X.env.locals
 inj:∀ x y c,X.env.cells.lookup x=some c->X.env.cells.lookup y=some c->x=y
 has:∀ x,(X.env.kindOf x=some .cell\/X.env.kindOf x=some .free)->∃ c,X.env.cells.lookup x=some c
 cab:∀ x c,X.fn x=true->X.env.cells.lookup x=some c->X.s₀.heap.objs.size<=c
 hd:X.calm=true->X.A.handled=none
 frames:X.A.frames=some X.stack
 stk:X.stack=X.outer\/(X.stack=X.env::X.outer/\X.env.frame=some X.env.locals)
 exf:∀ b∈X.ex,b≠X.env.locals/\∀ x c,X.env.cells.lookup x=some c->c≠b
 bs:∀ b o,X.base.get? b=some o->X.s₀.heap.get? b=some o/\X.H₀ b=none
 bsz:X.base.objs.size<=X.s₀.heap.objs.size
 noex:∀ b o,X.base.get? b=some o->b∉X.ex
 exfs:∀ b∈X.ex,b∉X.fs
 funs:X.s₀.heap.FunFrames X.base X.outer
 frf:∀ b∈X.fs,X.H₀ b=none
structure Inv (X:Cx)(pins:137)(σ:List (Option V))(H:Hp)(s:153):Prop where
 ok:X.Ok
 os:s.os=X.s₀.os
 bare:AllBare s.gens
 base:Un X.fs X.ex X.H₀ H X.s₀.heap s.heap
 loc:∃ m,s.heap.Ns X.env.locals m/\∀ (i:Nat) (x:Str) (v:V),X.N[i]?=some x->σ[i]?=some (some v)->Vis X.env.scope x->∃ u,RelV v u/\zcz X.env s.heap m x u
 cell:∀ x c,X.env.cells.lookup x=some c->∃ v,s.heap.IsCell c v
 free:H X.env.locals=none
 freeC:∀ x c,X.env.cells.lookup x=some c->H c=none
 pin:∀ p∈X.pn++pins,s.heap.get? p.1=some p.2/\H p.1=none/\p.1≠X.env.locals/\p.1∉X.fs/\∀ v,p.2.data≠.cell v
 hok:HOk X.prog X.w H s.heap
 len:σ.length=X.N.length
section
variable {X:Cx}{pins:137}{σ:List (Option V)}{H H':Hp}{s:153}{h':Heap}
theorem Cx.Ok.nofr (ok:X.Ok){b:Addr}{o:Obj}(e:X.base.get? b=some o):b∉X.fs:=λ hb=>by
 have:=(ok.funs.mem hb).1
 rw [e] at this;cases this
theorem Inv.bs (I:131):∀ b o,X.base.get? b=some o->s.heap.get? b=some o/\H b=none:=λ b o e =>
 ⟨I.base.keep b o (I.ok.bs b o e).1 (I.ok.bs b o e).2 (I.ok.nofr e) (I.ok.noex b o e),I.base.free b o (I.ok.bs b o e).1 (I.ok.bs b o e).2 (I.ok.noex b o e)⟩
theorem Inv.bk (I:131):∀ b o,X.base.get? b=some o->s.heap.get? b=some o:=λ b o e=>(I.bs b o e).1
theorem Inv.mod (I:131):Mod X.K X.mg X.base:=I.ok.mod
theorem Inv.kIn (I:131):X.K.In s.heap:=I.ok.mod.kin.keeps I.bk
theorem Inv.lt (I:131):X.env.locals<s.heap.objs.size:=let ⟨_,hn,_⟩:=I.loc;hn.lt
theorem Inv.sz (I:131):X.s₀.heap.objs.size<=s.heap.objs.size:=Y0y I.ok.above (Y21 I.lt)
theorem Inv.nofs (I:131){a:Addr}(h:s.heap.objs.size<=a):a∉X.fs:=λ hb=>by
 obtain ⟨_,o,ho,_⟩:=I.ok.funs.mem hb;exact absurd (Y0w (Y0g ho) (Y0y I.sz h)) (Y1b _)
theorem Inv.cne (I:131):∀ x c,X.env.cells.lookup x=some c->c≠X.env.locals:=λ x c e z=>by
 obtain ⟨v,o,ho,hd⟩:=I.cell x c e;obtain ⟨m,⟨o',es,ep,ho',hd',_⟩,_⟩:=I.loc;rw [z,ho'] at ho;cases ho;rw [hd'] at hd;cases hd
theorem Inv.funs (I:131):s.heap.FunFrames X.base X.outer:=by
 have all:∀ (l:List Env),(∀ b∈frs l,b∈X.fs)->X.s₀.heap.FunFrames X.base l->s.heap.FunFrames X.base l:=by
  intro l
  induction l with
  | nil=>intro _ _;trivial
  | cons env r ih =>
   intro hs hl;obtain ⟨hk,⟨L,o,hf,hn,ho,hd⟩,hr⟩:=hl;have hL:=hs L (by unfold frs;rw [Y1l,hf];exact Y04);obtain ⟨sl,e⟩:=I.base.slot L o ho (I.ok.frf L hL) hL λ z=>I.ok.exfs L z hL;exact ⟨hk,⟨L,_,hf,hn,e,hd⟩,ih (λ b hb=>hs b (by unfold frs;rw [Y1l,hf];exact Y02 _ hb)) hr⟩
 exact all X.outer (λ _ hb=>hb) I.ok.funs
theorem Inv.stack (I:131):s.heap.FunFrames X.base X.stack:=by
 rcases I.ok.stk with e | ⟨e,hf⟩
 ·rw [e];exact I.funs
 ·rw [e];obtain ⟨m,hn,_⟩:=I.loc;refine .cons (by rw [I.ok.kind];decide) hf hn ?_ I.funs;exact Y2d (Y0y I.ok.bsz I.ok.above)
theorem Inv.stkSub (I:131):∀ b∈frs X.stack,b∈X.env.locals::X.fs:=λ b hb=>by
 rcases I.ok.stk with e | ⟨e,hf⟩
 ·rw [e] at hb;exact Y02 _ hb
 ·rw [e] at hb;unfold frs at hb;rw [Y1l,hf] at hb;exact hb
theorem Inv.stkFree (I:131):∀ b∈frs X.stack,H b=none:=λ b hb=>by
 rcases Y08.mp (I.stkSub b hb) with e | hb
 ·rw [e];exact I.free
 ·obtain ⟨_,o,ho,_⟩:=I.ok.funs.mem hb;exact I.base.free b o ho (I.ok.frf b hb) λ z=>I.ok.exfs b z hb
theorem Inv.step {g':Array GenState}{t':Nat}{d':Drawn}{ch:XZ}(I:131)
  (hch:165)
  (keep:∀ b o,b≠X.env.locals->b∉X.fs->b∉ch->s.heap.get? b=some o->H b=none->h'.get? b=some o)
  (slot:∀ b o,b≠X.env.locals->b∈X.fs->b∉ch->s.heap.get? b=some o->H b=none->∃ sl,h'.get? b=some { o with slots:=sl }) (free:∀ b o,b∉ch->s.heap.get? b=some o->H b=none->H' b=none)
  (there:∀ b o,b∉ch->s.heap.get? b=some o->∃ o',h'.get? b=some o')
  (tups:∀ b xs,H b=some 241->H' b=some 241) (frzs:∀ b o u,H b=some (.frz o u)->H' b=some (.frz o u)) (tbls:∀ b ps,H b=some (.tbl ps)->∃ more,H' b=some (.tbl (ps++more)))
  (ns:∀ m,s.heap.Ns X.env.locals m->h'.Ns X.env.locals m) (hok:HOk X.prog X.w H' h') (hg:AllBare g') :
  Inv X pins σ H' { s with heap:=h',gens:=g',drawn:=d',toks:=t' }:=by
 have neL:∀ b o,X.s₀.heap.get? b=some o->b≠X.env.locals:=λ b o e=>Y0k (Y0w (Y0g e) I.ok.above);have neC:∀ b o,X.s₀.heap.get? b=some o->b∉X.ex->b∉ch:=λ b o e hx hb=>by
  rcases (hch b hb).1 with z | z
  ·exact hx z
  ·exact absurd (Y0w (Y0g e) z) (Y1b _)
 have cellK:∀ x c,X.env.cells.lookup x=some c->∀ v,s.heap.IsCell c v->h'.IsCell c v:=λ x c e v ⟨o,ho,hd⟩=>by
  have nch:=λ z=>(hch c z).2.2.1 x c e rfl;by_cases hc:c∈X.fs
  ·obtain ⟨sl,q⟩:=slot c o (I.cne x c e) hc nch ho (I.freeC x c e);exact ⟨_,q,hd⟩
  ·exact ⟨o,keep c o (I.cne x c e) hc nch ho (I.freeC x c e),hd⟩
 refine ⟨I.ok,I.os,hg,⟨λ b o e n hb hx=>?_,λ b o e n hb hx=>?_,λ b o e n hx=>?_,λ b o e hx=>?_,λ b xs e=>tups b xs (I.base.tups b xs e),λ b o xs e=>frzs b o xs (I.base.frzs b o xs e),λ b ps e=>?_⟩,?_,λ x c e=>?_,?_,λ x c e=>?_,λ p hp=>?_,hok,I.len⟩
 ·exact keep b o (neL b o e) hb (neC b o e hx) (I.base.keep b o e n hb hx) (I.base.free b o e n hx)
 ·obtain ⟨sl,e1⟩:=I.base.slot b o e n hb hx;obtain ⟨sl',e2⟩:=slot b _ (neL b o e) hb (neC b o e hx) e1 (I.base.free b o e n hx);exact ⟨sl',e2⟩
 ·obtain ⟨o',e1⟩:=I.base.there b o e hx;exact free b o' (neC b o e hx) e1 (I.base.free b o e n hx)
 ·obtain ⟨o',e1⟩:=I.base.there b o e hx;exact there b o' (neC b o e hx) e1
 ·obtain ⟨m1,e1⟩:=I.base.tbls b ps e;obtain ⟨m2,e2⟩:=tbls b _ e1;exact ⟨m1++m2,by rw [e2,Array.append_assoc]⟩
 ·obtain ⟨m,hn,hl⟩:=I.loc;refine ⟨m,ns m hn,λ i x v e1 e2 e3=>?_⟩;obtain ⟨u,r,l⟩:=hl i x v e1 e2 e3;refine ⟨u,r,?_⟩;rcases l with l | ⟨k,c,e,z⟩
  ·exact .inl l
  ·exact .inr ⟨k,c,e,cellK x c e _ z⟩
 ·obtain ⟨v,z⟩:=I.cell x c e;exact ⟨v,cellK x c e v z⟩
 ·obtain ⟨m,⟨o,_,_,ho,_⟩,_⟩:=I.loc;exact free _ o (λ z=>(hch _ z).2.1 rfl) ho I.free
 ·obtain ⟨v,o,ho,hd⟩:=I.cell x c e;exact free c o (λ z=>(hch c z).2.2.1 x c e rfl) ho (I.freeC x c e)
 ·obtain ⟨e,n,ne,nf,d⟩:=I.pin p hp;have nch:=λ z=>(hch p.1 z).2.2.2 p hp rfl;exact ⟨keep p.1 p.2 ne nf nch e n,free p.1 p.2 nch e n,ne,nf,d⟩
theorem Inv.un {t':Nat}(I:131)(u:Un X.fs [] H H' s.heap h')(hok:HOk X.prog X.w H' h'):Inv X pins σ H' { s with heap:=h',toks:=t' }:=by
 obtain ⟨m,⟨o,es,ep,ho,r⟩,_⟩:=id I.loc;obtain ⟨sl,hL⟩:=u.any ho I.free 130;exact I.step (ch:=[]) (λ _ z=>nomatch z) (λ b o _ hb _ e n=>u.keep b o e n hb 130) (λ b o _ hb _ e n=>u.slot b o e n hb 130) (λ b o _ e n=>u.free b o e n 130) (λ b o _ e=>u.there b o e 130) u.tups u.frzs u.tbls (λ m' hm=>by
  obtain ⟨o',es',ep',ho',r'⟩:=hm;rw [ho] at ho';cases ho';exact ⟨_,es',ep',hL,r'⟩) hok I.bare
theorem Inv.call {g':Array GenState}{t':Nat}{d':Drawn}{ch:XZ}(I:131)(u:Un (frs X.stack) ch H H' s.heap h')(hok:HOk X.prog X.w H' h')(hg:AllBare g')
  (hch:165) :
  Inv X pins σ H' { s with heap:=h',gens:=g',drawn:=d',toks:=t' }:=by
 obtain ⟨m,⟨o,es,ep,ho,r⟩,_⟩:=id I.loc;obtain ⟨sl,hL⟩:=u.any ho I.free λ z=>(hch _ z).2.1 rfl;exact I.step hch (λ b o hL hb hc e n=>u.keep b o e n (λ z=>(Y08.mp (I.stkSub b z)).elim hL hb) hc) (λ b o _ _ hc e n=>u.any e n hc) (λ b o hc e n=>u.free b o e n hc) (λ b o hc e=>u.there b o e hc) u.tups u.frzs u.tbls (λ m' hm=>by
  obtain ⟨o',es',ep',ho',r'⟩:=hm;rw [ho] at ho';cases ho';exact ⟨_,es',ep',hL,r'⟩) hok hg
theorem Inv.turned {t':Nat}{it:Addr}(I:131)(k:∀ b o,b≠it->s.heap.get? b=some o->h'.get? b=some o)(hn:H it=none)(hL:it≠X.env.locals)
  (h1:it∈X.ex\/X.s₀.heap.objs.size<=it) (h2:∀ x c,X.env.cells.lookup x=some c->c≠it) (h3:∀ p∈X.pn++pins,p.1≠it):Inv X pins σ H { s with heap:=h',toks:=t' }:=by
 have nit:∀ b u,H b=some u->b≠it:=λ b u e z=>by rw [z,hn] at e;cases e
 refine I.step (ch:=[it]) (λ b hb=>?_) (λ b o _ _ hc e _=>k b o (λ z=>hc (by simp [z])) e) (λ b o _ _ hc e _=>⟨o.slots,k b o (λ z=>hc (by simp [z])) e⟩) (λ _ _ _ _ n=>n)
  (λ b o hc e=>⟨o,k b o (λ z=>hc (by simp [z])) e⟩) (λ _ _ e=>e) (λ _ _ _ e=>e) (λ b ps e=>⟨#[],by rw [e];simp⟩) (λ m hm=>?_) (λ b u e=>?_) I.bare
 ·have e:b=it:=by simpa using hb
  subst e;exact ⟨h1,hL,h2,h3⟩
 ·obtain ⟨o,es,ep,ho,r⟩:=hm;exact ⟨o,es,ep,k _ o (Ne.symm hL) ho,r⟩
 ·refine (I.hok b u e).stay (λ c v hc q=>k c v ?_ q) (λ _ q=>q) λ _ _ q=>q;rcases hc with z | z
  ·rw [z];exact nit b u e
  ·exact nit c _ z
theorem Inv.tok (I:131)(t:Nat):Inv X pins σ H { s with toks:=t }:=I.un Un.refl I.hok
theorem Inv.kept {t':Nat}(I:131)(k:∀ b u,s.heap.get? b=some u->h'.get? b=some u):Inv X pins σ H { s with heap:=h',toks:=t' }:=I.un (Un.kept k) (I.hok.kept k)
theorem Inv.laid {a:Addr}{o:HO}{t':Nat}(I:131)(k:∀ b u,s.heap.get? b=some u->h'.get? b=some u)(hp:s.heap.objs.size<=a)(new:ObjOk X.prog X.w (upd H a o) h' a o) :
  Inv X pins σ (upd H a o) { s with heap:=h',toks:=t' }:=I.un (Un.laid k hp (I.hok.fresh hp)) (I.hok.laid k hp new)
theorem Inv.write {x e:Addr}{o:HO}{t':Nat}(I:131)(mu:Mut (H x))(he:e=x\/H e=some (.own x))(k:∀ b u,b≠e->s.heap.get? b=some u->h'.get? b=some u)(heo:∃ u,h'.get? e=some u)
  (new:ObjOk X.prog X.w (upd H x o) h' x o):Inv X pins σ (upd H x o) { s with heap:=h',toks:=t' }:=I.un (Un.write mu he k heo) (I.hok.write mu he k heo new)
theorem Inv.weak {σ':List (Option V)}(I:131)(hl:σ'.length=σ.length)(w:∀ (i:Nat) v,σ'[i]?=some (some v)->σ[i]?=some (some v)):Inv X pins σ' H s :=
 ⟨I.ok,I.os,I.bare,I.base,let ⟨m,hn,hl'⟩:=I.loc;⟨m,hn,λ i x v e1 e2 e3=>hl' i x v e1 (w i v e2) e3⟩,I.cell,I.free,I.freeC,I.pin,I.hok,hl.trans I.len⟩
theorem Inv.pins_of {pins':137}(I:131)(h:∀ p∈pins',s.heap.get? p.1=some p.2/\H p.1=none/\p.1≠X.env.locals/\p.1∉X.fs/\∀ v,p.2.data≠.cell v):Inv X pins' σ H s :=
 ⟨I.ok,I.os,I.bare,I.base,I.loc,I.cell,I.free,I.freeC,λ p hp=>(Y0j.mp hp).elim (λ z=>I.pin p (Y1h _ z)) (h p),I.hok,I.len⟩
theorem Yb {N:XQ}(hN:N.Nodup){i j:Nat}{x:Str}(a:N[i]?=some x)(b:N[j]?=some x):i=j:=by
 obtain ⟨h1,e1⟩:=Y00.mp a;obtain ⟨h2,e2⟩:=Y00.mp b;exact (List.getElem_inj hN).mp (e1.trans e2.symm)
theorem JR {M:Model}{A:296}{E:XU}{i:Nat}{x:Str}{v:V}{u:Value}{Q:Unit->Shared->Prop}(I:131)(hN:X.N.Nodup)(hi:X.N[i]?=some x)(hx:Loc X.env.scope x)(r:RelV v u)
  (h:∀ s',Inv X pins (σ.set i (some v)) H s'->(∃ a,Heap.SameBut a s.heap s'.heap/\(a=X.env.locals\/X.env.cells.lookup x=some a))->Q () s') (hf:X.fn x=true\/X.env.scope.names.lookup x=some .local:=by first | exact .inl rfl | exact .inr rfl | assumption):wpAny M A (storeName X.env x u) Q E s:=by
 obtain ⟨m,hn,hl⟩:=id I.loc;have hcls:(X.env.scope.kind==.class||(X.env.scope.kind==.module&&X.env.locals != X.env.globals))=false:=by rw [I.ok.kind];rfl
 have hiσ:i<σ.length:=by rw [I.len];exact (Y00.mp hi).1
 have cne:=I.cne;have tracked:∀ {a:Addr}{h':Heap},(∃ o,s.heap.get? a=some o/\H a=none)->Heap.SameBut a s.heap h'->HOk X.prog X.w H h':=λ {a h'} ha hs b ob e=>by
  obtain ⟨_,_,hfree⟩:=ha;refine (I.hok b ob e).stay (λ c w' hc q=>(hs.2 c ?_).trans q) (λ _ q=>q) λ _ _ q=>q
  rintro rfl
  rcases hc with rfl | hc
  ·rw [hfree] at e;cases e
  ·rw [hfree] at hc;cases hc
 rcases hx with hk | hk
 ·refine wpAny_storeName_local hk hn (λ h' hn' hs=>?_) hcls;obtain ⟨oL,_,_,hoL,_⟩:=id hn;refine h _ ⟨I.ok,I.os,I.bare,⟨λ b o e n hb hx=>?_,λ b o e n hb hx=>?_,I.base.free,λ b o e hx=>?_,I.base.tups,I.base.frzs,I.base.tbls⟩,⟨_,hn',λ j y v' e1 e2 e3=>?_⟩,λ y c e=>?_,I.free,I.freeC,λ p hp=>?_,tracked ⟨oL,hoL,I.free⟩ hs,by simpa using I.len⟩ ⟨_,hs,.inl rfl⟩
  ·exact (hs.2 b (Y0k (Y0w (Y0g e) I.ok.above))).trans (I.base.keep b o e n hb hx)
  ·obtain ⟨sl,e1⟩:=I.base.slot b o e n hb hx;exact ⟨sl,(hs.2 b (Y0k (Y0w (Y0g e) I.ok.above))).trans e1⟩
  ·obtain ⟨o',e1⟩:=I.base.there b o e hx;exact ⟨o',(hs.2 b (Y0k (Y0w (Y0g e) I.ok.above))).trans e1⟩
  ·by_cases hj:j=i
   ·subst hj;rw [hi] at e1;cases e1;rw [Y1i hiσ] at e2;cases e2;exact ⟨u,r,.inl ⟨hk,by simp⟩⟩
   ·rw [Y13 (Ne.symm hj)] at e2;obtain ⟨u',r',q⟩:=hl j y v' e1 e2 e3;refine ⟨u',r',?_⟩;rcases q with ⟨k,e⟩ | ⟨k,c,e,z⟩
    ·refine .inl ⟨k,?_⟩
     have:y≠x:=λ e=>hj (Yb hN e1 (e▸hi))
     simp [this,e]
    ·exact .inr ⟨k,c,e,z.sameBut hs (cne y c e)⟩
  ·obtain ⟨w',z⟩:=I.cell y c e;exact ⟨w',z.sameBut hs (cne y c e)⟩
  ·obtain ⟨e,n,ne,nf,d⟩:=I.pin p hp;exact ⟨(hs.2 p.1 ne).trans e,n,ne,nf,d⟩
 ·have hfn:X.fn x=true:=by
   rcases hf with z | z
   ·exact z
   ·rw [z] at hk;cases hk
  obtain ⟨c,hc⟩:=I.ok.has x (.inl hk);obtain ⟨w',z⟩:=I.cell x c hc;refine wpAny_storeName_cell I.ok.kind hk hc z (λ h' hc' hs=>?_);obtain ⟨oc,hoc,hocd⟩:=id z;refine h { s with heap:=h' } ⟨I.ok,I.os,I.bare,⟨λ b o e n hb hx=>?_,λ b o e n hb hx=>?_,I.base.free,λ b o e hx=>?_,I.base.tups,I.base.frzs,I.base.tbls⟩,⟨m,hn.sameBut hs (Ne.symm (cne x c hc)),λ j y v' e1 e2 e3=>?_⟩,λ y c' e=>?_,I.free,I.freeC,λ p hp=>?_,tracked ⟨oc,hoc,I.freeC x c hc⟩ hs,by simpa using I.len⟩ ⟨c,hs,.inr hc⟩
  ·exact (hs.2 b (Y0k (Y0w (Y0g e) (I.ok.cab x c hfn hc)))).trans (I.base.keep b o e n hb hx)
  ·obtain ⟨sl,e1⟩:=I.base.slot b o e n hb hx;exact ⟨sl,(hs.2 b (Y0k (Y0w (Y0g e) (I.ok.cab x c hfn hc)))).trans e1⟩
  ·obtain ⟨o',e1⟩:=I.base.there b o e hx;exact ⟨o',(hs.2 b (Y0k (Y0w (Y0g e) (I.ok.cab x c hfn hc)))).trans e1⟩
  ·by_cases hj:j=i
   ·subst hj;rw [hi] at e1;cases e1;rw [Y1i hiσ] at e2;cases e2;exact ⟨u,r,.inr ⟨.inl hk,c,hc,hc'⟩⟩
   ·rw [Y13 (Ne.symm hj)] at e2;obtain ⟨u',r',q⟩:=hl j y v' e1 e2 e3;refine ⟨u',r',?_⟩;rcases q with q | ⟨k,c',e,z'⟩
    ·exact .inl q
    ·refine .inr ⟨k,c',e,z'.sameBut hs ?_⟩
     rintro rfl
     exact hj (Yb hN e1 (I.ok.inj _ _ _ e hc▸hi))
  ·by_cases hcc:c'=c
   ·subst hcc;exact ⟨_,hc'⟩
   ·obtain ⟨w2,z2⟩:=I.cell y c' e;exact ⟨w2,z2.sameBut hs hcc⟩
  ·obtain ⟨e,n,ne,nf,d⟩:=I.pin p hp;refine ⟨(hs.2 p.1 ?_).trans e,n,ne,nf,d⟩;intro q;rw [q,hoc] at e;have q':oc=p.2:=Option.some.inj e;exact d w' (by rw [<- q'];exact hocd)
theorem Yc {M:Model}{A:296}{E:XU}{i:Nat}{x:Str}{v:V}{u:Value}{Q:Unit->Shared->Prop}(I:131)(hN:X.N.Nodup)(hi:X.N[i]?=some x)(hx:Loc X.env.scope x)(r:RelV v u)
  (h:∀ s',Inv X pins (σ.set i (some v)) H s'->Q () s') (hf:X.fn x=true\/X.env.scope.names.lookup x=some .local:=by first | exact .inl rfl | exact .inr rfl | assumption):wpAny M A (storeName X.env x u) Q E s :=
 JR I hN hi hx r (λ s' I' _=>h s' I') hf
theorem Inv.call' {s':153}{ch:XZ}(I:131)(ho:s'.os=s.os)(u:Un (frs X.stack) ch H H' s.heap s'.heap)(hok:HOk X.prog X.w H' s'.heap)(hg:AllBare s'.gens)
  (hch:165):Inv X pins σ H' s':=by
 obtain ⟨h',g',d',t',o'⟩:=s';have e:=ho;subst e;exact I.call u hok hg hch
end
abbrev XK:=Value->Option Addr->Hp->Prop
abbrev St:=List (Option V)
abbrev VK:=V->Hp->Prop
abbrev TE:=St->Hp->VK->Prop
abbrev TT:=St->Hp->(Bool->Hp->Prop)->Prop
abbrev TA:=St->Hp->(List V->Hp->Prop)->Prop
structure Ends where
 nx:St->Hp->Prop
 rt:VK
 bk:St->Hp->Prop:=λ _ _=>False
 ct:St->Hp->Prop:=λ _ _=>False
abbrev TS:=Ends->St->Hp->Prop
def EP (X:Cx)(pins:137)(σ:St)(Q:VK)(u:Value)(s':153):Prop:=∃ v H',Inv X pins σ H' s'/\RelV v u/\Q v H'
def TP (X:Cx)(pins:137)(σ:St)(Q:Bool->Hp->Prop)(b:Bool)(s':153):Prop:=∃ H',Inv X pins σ H' s'/\Q b H'
def AP (X:Cx)(pins:137)(σ:St)(Q:List V->Hp->Prop)(us:XV)(s':153):Prop:=∃ vs H',Inv X pins σ H' s'/\Vals vs us/\Q vs H'
def SP (X:Cx)(pins:137)(D:Ends)(f:Flow)(s':153):Prop :=
 match f with
 | .next=>∃ σ' H',Inv X pins σ' H' s'/\D.nx σ' H'
 | .brk=>∃ σ' H',Inv X pins σ' H' s'/\D.bk σ' H'
 | .cont=>∃ σ' H',Inv X pins σ' H' s'/\D.ct σ' H'
 | .ret u=>∃ v σ' H',Inv X pins σ' H' s'/\RelV v u/\D.rt v H'
def PE (X:Cx)(e:Expr)(t:TE):Prop :=
 ∀ (pins:137) (s:153) (σ:St) (H:Hp) (Q:VK),Inv X pins σ H s->t σ H Q->wpAny 132 X.A (eval e X.env) 231 X.xe s
def PT (X:Cx)(e:Expr)(t:TT):Prop :=
 ∀ (pins:137) (s:153) (σ:St) (H:Hp) (Q:Bool->Hp->Prop),Inv X pins σ H s->t σ H Q->wpAny 132 X.A (isTrue e X.env (eval e X.env)) (TP X pins σ Q) X.xe s
def PW (X:Cx)(e:Expr)(t:TT):Prop :=
 ∀ (whole:Sem Value) (pins:137) (s:153) (σ:St) (H:Hp) (Q:Bool->Hp->Prop),Inv X pins σ H s->t σ H Q->wpAny 132 X.A (isTrue e X.env whole) (TP X pins σ Q) X.xe s
theorem PW.pt {X:Cx}{e:Expr}{t:TT}(h:PW X e t):PT X e t:=h _
def PA (X:Cx)(es:288)(t:TA):Prop :=
 ∀ (pos:Pos) (pins:137) (s:153) (σ:St) (H:Hp) (Q:List V->Hp->Prop),Inv X pins σ H s->t σ H Q->wpAny 132 X.A (spliced (backTo pos (starEach es X.env))) (AP X pins σ Q) X.xe s
def PS (X:Cx)(st:Stmt)(t:TS):Prop :=
 ∀ (pins:137) (s:153) (σ:St) (H:Hp) (D:Ends),Inv X pins σ H s->t D σ H->wpAny 132 X.A (exec st X.env) (SP X pins D) X.xe s
def PSs (X:Cx)(st:List Stmt)(t:TS):Prop :=
 ∀ (pins:137) (s:153) (σ:St) (H:Hp) (D:Ends),Inv X pins σ H s->t D σ H->wpAny 132 X.A (execs st X.env) (SP X pins D) X.xe s
theorem thn {α:Type}{t:Sem α}{Q Q':α->Shared->Prop}{M:Model}{A:296}{E:XU}{s:153}(h:wpAny M A t Q E s)(hQ:∀ a s,Q a s->Q' a s):wpAny M A t Q' E s:=wpAny_mono h hQ λ _ _ x=>x
section
variable {X:Cx}
theorem bin {a b:Expr}{ta tb:TE}(ha:PE X a ta)(hb:PE X b tb){pins:137}{s:153}{σ:St}{H:Hp}{R:V->V->Hp->Prop}(I:131)(h:ta σ H λ x H1=>tb σ H1 λ y H2=>R x y H2)
  {α:Type}{Q:α->Shared->Prop}{f:Value->Value->Sem α}
  (hf:∀ v u s2 x y H2,Inv X pins σ H2 s2->RelV x v->RelV y u->R x y H2->wpAny 132 X.A (f v u) Q X.xe s2) :
  wpAny 132 X.A (eval a X.env) (λ v s₁=>wpAny 132 X.A (eval b X.env) (λ u s₂=>wpAny 132 X.A (f v u) Q X.xe s₂) X.xe s₁) X.xe s:=by
 refine thn 229 λ v s1 ⟨x,H1,I1,r1,q1⟩=>?_;refine thn (hb pins s1 σ H1 _ I1 q1) λ u s2 ⟨y,H2,I2,r2,q2⟩=>?_;exact hf v u s2 x y H2 I2 r1 r2 q2
def zak (i:Nat):TE:=λ σ H Q=>∃ v,σ[i]?=some (some v)/\Q v H
def tC (v:V):TE:=λ _ H Q=>Q v H
theorem B8 {i:Nat}{x:Str}{pos:Pos} (hN:X.N[i]?=some x) (hv:Vis X.env.scope x) (hd:159=false:=by decide) (hcd:(x==("__classdict__":Str))=false:=by decide):PE X (.Name x pos) (zak i):=by
 intro pins s σ H Q I h;obtain ⟨v,e,h⟩:=h;obtain ⟨m,hn,hl⟩:=I.loc;obtain ⟨u,r,l⟩:=hl i x v hN e hv;have fin:EP X pins σ Q u s:=⟨v,H,I,r,h⟩;rcases l with ⟨hk,hm⟩ | ⟨hk,c,hc,hcell⟩
 ·exact wpAny_Name (wpAny_loadName_local I.ok.kind hk hn hm fin) hd
 ·rcases hk with hk | hk
  ·exact wpAny_Name (wpAny_loadName_cell I.ok.kind hk hc hcell fin) hd
  ·exact wpAny_Name (wpAny_loadName_free I.ok.kind hk hc hcell fin hcd) hd
theorem z79 {i j pos}:PE X (.Constant 209 j pos) (tC 209):=λ _ _ _ H _ I h=>wpAny_Constant_int ⟨.int i,H,I.tok _,146,h⟩
theorem zal {b j pos}:PE X (.Constant (.bool b) j pos) (tC (.bl b)):=λ _ _ _ H _ I h=>Constant_bool ⟨.bl b,H,I,rfl,h⟩
theorem z7a {j pos}:PE X (.Constant .none j pos) (tC .non):=λ _ _ _ H _ I h=>Constant_none ⟨.non,H,I,rfl,h⟩
theorem B9 {x j pos}:PE X (.Constant 172 j pos) (tC 172):=λ _ _ _ H _ I h=>Calls.Constant_str ⟨.str x,H,I.tok _,146,h⟩
def Gl (X:Cx)(x:Str):Prop:=X.env.kindOf x=some .globalImplicit
theorem WF {E:XU}{pins:137}{s:153}{σ:St}{H:Hp}{x:Str}{u:Value}{pos:Pos}{Q:XU}(I:131)(hg:Gl X x)(hm:X.mg x=some u)(h:Q u s)
  (hd:159=false:=by decide):wpAny 132 X.A (eval (.Name x pos) X.env) Q E s :=
 Calls.Name_function_global I.ok.kind hg (Calls.loadGlobal_global (by rw [I.ok.glob];exact I.mod.glob.keeps I.bk) hm h) hd
theorem yo {E:XU}{pins:137}{s:153}{σ:St}{H:Hp}{x:Str}{u:Value}{pos:Pos}{Q:XU}(I:131)(hg:Gl X x)(hm:X.mg x=none)(hv:bootBuiltins x=some u)(h:Q u s)
  (hn:x≠"__name__":=by decide) (hd:159=false:=by decide):wpAny 132 X.A (eval (.Name x pos) X.env) Q E s:=by
 obtain ⟨mb,h1,h2⟩:=I.mod.blt;exact Calls.Name_function_global I.ok.kind hg (Calls.loadGlobal_builtin (by rw [I.ok.glob];exact I.mod.glob.keeps I.bk) hm (by rw [I.ok.blt];exact h1.keeps I.bk) ((h2 x hn).trans hv) h) hd
theorem z3e {x:Str}{v:V}{u:Value}{pos:Pos} (hg:Gl X x) (hm:X.mg x=some u) (r:RelV v u) (hd:159=false:=by decide):PE X (.Name x pos) (tC v) :=
 λ _ _ _ H _ I h=>WF I hg hm ⟨v,H,I,r,h⟩ hd
theorem z3f {x:Str}{v:V}{u:Value}{pos:Pos} (hg:Gl X x) (hm:X.mg x=none) (hv:bootBuiltins x=some u) (r:RelV v u) (hn:x≠"__name__":=by decide) (hd:159=false:=by decide):PE X (.Name x pos) (tC v) :=
 λ _ _ _ H _ I h=>yo I hg hm hv ⟨v,H,I,r,h⟩ hn hd
variable {a b:Expr}{ta tb:TE}{pos:Pos}
def tB (t:TE):TT:=λ σ H Q=>t σ H λ x H1=>∃ c,x=.bl c/\Q c H1
theorem z7b {e:Expr}{t:TE}(h:PE X e t)(he:∀ whole,isTrue e X.env whole=(do let v <- whole;standAt e.pos;holding [v] (truthy v)):=by intro _;rfl):PT X e (tB t):=by
 intro pins s σ H Q I hw;refine isTrue_plain (thn (h pins s σ H _ I hw) λ v s1 ⟨x,H1,I1,r1,q1⟩=>?_) (he _);obtain ⟨d,rfl,q⟩:=q1;cases r1;exact wpAny_truthy_bool ⟨H1,I1,q⟩
variable {tA tB':TT}{rest:288}
def zd0 (t u:TT):TT:=λ σ H Q=>t σ H λ c H1=>if c=true then u σ H1 Q else Q false H1
def tOr (t u:TT):TT:=λ σ H Q=>t σ H λ c H1=>if c=true then Q true H1 else u σ H1 Q
def zd1 (t:TT):TT:=λ σ H Q=>t σ H λ c H1=>Q (!c) H1
theorem z3g (ha:PT X a tA):PW X (.BoolOp .And [a] pos) tA:=by
 intro wh pins s σ H Q I h;refine isTrue_and (thn (ha pins s σ H Q I h) λ c s1 e=>?_);cases c with
 | true=>exact isTrue_and_nil e
 | false=>exact e
theorem z7c (ha:PT X a tA):PW X (.BoolOp .Or [a] pos) tA:=by
 intro wh pins s σ H Q I h;refine isTrue_or (thn (ha pins s σ H Q I h) λ c s1 e=>?_);cases c with
 | false=>exact isTrue_or_nil e
 | true=>exact e
theorem Ba (ha:PT X a tA)(hb:PW X (.BoolOp .And (b::rest) pos) tB'):PW X (.BoolOp .And (a::b::rest) pos) (zd0 tA tB'):=by
 intro wh pins s σ H Q I h;refine isTrue_and (thn 229 λ c s1 ⟨H1,I1,q1⟩=>?_);cases c with
 | true=>exact hb wh pins s1 σ H1 Q I1 q1
 | false=>exact ⟨H1,I1,q1⟩
theorem z68 (ha:PT X a tA)(hb:PW X (.BoolOp .Or (b::rest) pos) tB'):PW X (.BoolOp .Or (a::b::rest) pos) (tOr tA tB'):=by
 intro wh pins s σ H Q I h;refine isTrue_or (thn 229 λ c s1 ⟨H1,I1,q1⟩=>?_);cases c with
 | true=>exact ⟨H1,I1,q1⟩
 | false=>exact hb wh pins s1 σ H1 Q I1 q1
theorem z7d (ha:PT X a tA):PT X (.UnaryOp .Not a pos) (zd1 tA):=by
 intro pins s σ H Q I h;exact isTrue_not (ha pins s σ H (λ c H1=>Q (!c) H1) I h)
def zam (ta tb:TE):TE:=λ σ H Q=>ta σ H λ x H1=>∃ c,x=.bl c/\if c=true then tb σ H1 Q else Q (.bl false) H1
def zd2 (ta tb:TE):TE:=λ σ H Q=>ta σ H λ x H1=>∃ c,x=.bl c/\if c=true then Q 214 H1 else tb σ H1 Q
def zan (ta:TE):TE:=λ σ H Q=>ta σ H λ x H1=>∃ c,x=.bl c/\Q (.bl (!c)) H1
theorem Bb {op}{t:TE}(h:PE X a t):PE X (.BoolOp op [a] pos) t:=λ pins s σ H Q I hw=>BoolOp_one (h pins s σ H Q I hw)
theorem Bc (ha:PE X a ta)(hb:PE X (.BoolOp .And (b::rest) pos) tb):PE X (.BoolOp .And (a::b::rest) pos) (zam ta tb):=by
 intro pins s σ H Q I h;refine BoolOp_and (thn 229 λ v s1 ⟨x,H1,I1,r1,q1⟩=>?_);obtain ⟨c,rfl,q1⟩:=q1;cases r1;refine wpAny_truthy_bool ?_;cases c with
 | true=>exact hb pins s1 σ H1 Q I1 q1
 | false=>exact ⟨.bl false,H1,I1,rfl,q1⟩
theorem z69 (ha:PE X a ta)(hb:PE X (.BoolOp .Or (b::rest) pos) tb):PE X (.BoolOp .Or (a::b::rest) pos) (zd2 ta tb):=by
 intro pins s σ H Q I h;refine BoolOp_or (thn 229 λ v s1 ⟨x,H1,I1,r1,q1⟩=>?_);obtain ⟨c,rfl,q1⟩:=q1;cases r1;refine wpAny_truthy_bool ?_;cases c with
 | false=>exact hb pins s1 σ H1 Q I1 q1
 | true=>exact ⟨.bl true,H1,I1,rfl,q1⟩
theorem z7e (ha:PE X a ta):PE X (.UnaryOp .Not a pos) (zan ta):=by
 intro pins s σ H Q I h;refine UnaryOp_ (thn 229 λ v s1 ⟨x,H1,I1,r1,q1⟩=>?_);obtain ⟨c,rfl,q1⟩:=q1;cases r1;exact not_of (wpAny_truthy_bool ⟨.bl (!c),H1,I1,rfl,q1⟩)
def tIf (t:TT)(ta tb:TE):TE:=λ σ H Q=>t σ H λ c H1=>if c=true then ta σ H1 Q else tb σ H1 Q
theorem Bf {c:Expr}(hc:PT X c tA)(ha:PE X a ta)(hb:PE X b tb):PE X (.IfExp c a b pos) (tIf tA ta tb):=by
 intro pins s σ H Q I h;refine wpAny_IfExp (thn (hc pins s σ H _ I h) λ d s1 ⟨H1,I1,q1⟩=>?_);cases d with
 | true=>exact ha pins s1 σ H1 Q I1 q1
 | false=>exact hb pins s1 σ H1 Q I1 q1
end
def SqL (K:Y01)(H:Hp)(a:Addr)(xs:193):Prop :=
 Rd H a 195 \/
  ∃ (o:Obj) (its:Array Value) (n:Nat),K.lookup a=some o/\o.cls=.type "list"/\o.dict=none/\o.data=.seq its n/\its.size<=sizeLine/\Vals xs its.toList
def SqT (K:Y01)(H:Hp)(a:Addr)(xs:193):Prop :=
 Rd H a 241 \/
  ∃ (o:Obj) (its:Array Value) (n:Nat),K.lookup a=some o/\o.cls=.type "tuple"/\o.data=.seq its n/\its.size<=sizeLine/\Vals xs its.toList
def zd3:Value->Option V
 | .none=>some .non
 | .bool b=>some (.bl b)
 | .int i _=>some 209
 | .str x _=>some 172
 | .bytes b _=>some (.byt b)
 | .float b _=>some (.flt b)
 | .ref a=>some 202
 | .type n=>some (.ty n)
 | _=>none
theorem RelV.abs {x:V}{u:Value}(r:RelV x u):zd3 u=some x:=by
 cases x with
 | non=>cases r;rfl
 | bl _=>cases r;rfl
 | int _=>obtain ⟨t,rfl⟩:=r;rfl
 | str _=>obtain ⟨t,rfl⟩:=r;rfl
 | byt _=>obtain ⟨t,rfl⟩:=r;rfl
 | flt _=>obtain ⟨t,rfl⟩:=r;rfl
 | ref _=>cases r;rfl
 | ty _=>cases r;rfl
theorem RelV.inj {x y:V}{u:Value}(r:RelV x u)(q:RelV y u):x=y:=Option.some.inj (r.abs.symm.trans q.abs)
theorem Vals.inj:∀ {xs ys:193}{us:XV},Vals xs us->Vals ys us->xs=ys
 | _,_,_,.nil,.nil=>rfl
 | _,_,_,.cons r t,.cons r' t'=>by rw [r.inj r',Vals.inj t t']
section
variable {X:Cx}{pins:137}{σ:St}{H:Hp}{s:153}{a:Addr}{xs ys:193}
theorem SqL.of {K:Y01}(h:H a=some 195):SqL K H a xs:=.inl (.inl h)
theorem SqT.of {K:Y01}(h:H a=some 241):SqT K H a xs:=.inl (.inl h)
theorem Inv.list (I:131)(h:SqL X.K H a xs):∃ its:List Value,Vals xs its/\PlainL s.heap a its.toArray/\xs.length<=sizeLine:=by
 rcases h with h | ⟨o,its,n,hk,hc,hd,hs,hz,r⟩
 ·obtain ⟨z,its,n,r,e⟩:=h.ok I.hok;exact ⟨its,r,⟨_,n,e,rfl,rfl,rfl⟩,z⟩
 ·refine ⟨its.toList,r,⟨o,n,I.kIn a o hk,hc,hd,by simpa using hs⟩,?_⟩;have e:=r.length;simp only [Y1m] at e;omega
theorem Inv.tuple (I:131)(h:SqT X.K H a xs):∃ its:List Value,Vals xs its/\IsTup s.heap a its.toArray/\xs.length<=sizeLine:=by
 rcases h with h | ⟨o,its,n,hk,hc,hs,hz,r⟩
 ·obtain ⟨z,its,r,p⟩:=h.ok I.hok;exact ⟨its,r,p,z⟩
 ·refine ⟨its.toList,r,⟨o,I.kIn a o hk,hc,n,by simpa using hs⟩,?_⟩;have e:=r.length;simp only [Y1m] at e;omega
theorem Inv.list_inj (I:131)(h:SqL X.K H a xs)(h':SqL X.K H a ys):xs=ys:=by
 obtain ⟨its,r,⟨o,n,e,_,_,d⟩,_⟩:=I.list h;obtain ⟨its',r',⟨o',n',e',_,_,d'⟩,_⟩:=I.list h';rw [e] at e';cases e';rw [d] at d';injection d' with d1 _
 have:its=its':=by simpa using congrArg Array.toList d1
 subst this;exact r.inj r'
theorem Inv.tuple_inj (I:131)(h:SqT X.K H a xs)(h':SqT X.K H a ys):xs=ys:=by
 obtain ⟨its,r,⟨o,e,_,n,d⟩,_⟩:=I.tuple h;obtain ⟨its',r',⟨o',e',_,n',d'⟩,_⟩:=I.tuple h';rw [e] at e';cases e';rw [d] at d';injection d' with d1 _
 have:its=its':=by simpa using congrArg Array.toList d1
 subst this;exact r.inj r'
end
abbrev Cx.wish (X:Cx)(E:XU):Cx:={ X with xe:=E }
abbrev Cx.nox (X:Cx):Cx:=X.wish λ _ _=>False
theorem Cx.Ok.wish {X:Cx}(ok:X.Ok)(E:XU):(X.wish E).Ok :=
 282
theorem Cx.Ok.unwish {X:Cx}{E:XU}(ok:(X.wish E).Ok):X.Ok :=
 282
section
variable {X:Cx}{pins:137}{σ:St}{H:Hp}{s:153}{E:XU}
theorem Inv.wish (I:131)(E:XU):Inv (X.wish E) pins σ H s:=⟨I.ok.wish E,I.os,I.bare,I.base,I.loc,I.cell,I.free,I.freeC,I.pin,I.hok,I.len⟩
theorem Inv.unwish (I:Inv (X.wish E) pins σ H s):Inv X pins σ H s:=⟨I.ok.unwish,I.os,I.bare,I.base,I.loc,I.cell,I.free,I.freeC,I.pin,I.hok,I.len⟩
theorem SP.unwish {D:Ends}{f:Flow}{s':153}(h:SP (X.wish E) pins D f s'):SP X pins D f s':=by
 cases f with
 | next=>obtain ⟨σ',H',I,q⟩:=h;exact ⟨σ',H',I.unwish,q⟩
 | brk=>obtain ⟨σ',H',I,q⟩:=h;exact ⟨σ',H',I.unwish,q⟩
 | cont=>obtain ⟨σ',H',I,q⟩:=h;exact ⟨σ',H',I.unwish,q⟩
 | ret u=>obtain ⟨v,σ',H',I,r,q⟩:=h;exact ⟨v,σ',H',I.unwish,r,q⟩
end
section
variable {X:Cx}{st:Stmt}{rest:List Stmt}{t u:TS}{e:Expr}{te:TE}{pos:Pos}
def zao:TS:=λ D σ H=>D.nx σ H
def zd4 (t u:TS):TS:=λ D σ H=>t { D with nx:=u D } σ H
theorem z3h:PSs X [] zao:=λ _ _ σ H _ I h=>wpAny_execs_nil ⟨σ,H,I,h⟩
theorem Bg (h1:PS X st t)(h2:PSs X rest u):PSs X (st::rest) (zd4 t u):=by
 intro pins s σ H D I h;refine wpAny_execs_cons (thn (h1 pins s σ H { D with nx:=u D } I h) λ f s1 q=>?_);cases f with
 | next =>
  obtain ⟨σ',H',I',q⟩:=q;exact h2 pins s1 σ' H' D I' q
 | ret v=>exact q
 | brk=>exact q
 | cont=>exact q
theorem Inv.quiet {pins:137}{σ:St}{H:Hp}{s:153}(I:131):interactive X.env=false:=by simp [interactive,I.ok.kind]
def zap (te:TE):TS:=λ D σ H=>te σ H λ _ H1=>D.nx σ H1
theorem z3i (he:PE X e te)(hs:swapsWith e none pos.line X.env=pure false:=by rfl):PS X (.Expr e pos) (zap te):=by
 intro pins s σ H D I h;exact wpAny_Expr_any (thn (he pins s σ H _ I h) λ v s1 ⟨x,H1,I1,r1,q1⟩=>⟨σ,H1,I1,q1⟩) I.quiet hs
def zd5 (te:TE):TS:=λ D σ H=>te σ H D.rt
theorem z7f (he:PE X e te):PS X (.Return (some e) pos) (zd5 te):=by
 intro pins s σ H D I h;exact wpAny_Return_some (thn (he pins s σ H _ I h) λ v s1 ⟨x,H1,I1,r1,q1⟩=>⟨x,σ,H1,I1,r1,q1⟩)
def zd6 (c:TT)(t u:TS):TS:=λ D σ H=>c σ H λ b H1=>if b=true then t D σ H1 else u D σ H1
theorem zaq {c:Expr}{a b:List Stmt}{tc:TT}(hc:PT X c tc)(ha:PSs X a t)(hb:PSs X b u):PS X (.If c a b pos) (zd6 tc t u):=by
 intro pins s σ H D I h;refine wpAny_If (thn (hc pins s σ H _ I h) λ d s1 ⟨H1,I1,q1⟩=>?_);cases d with
 | true=>exact ha pins s1 σ H1 D I1 q1
 | false=>exact hb pins s1 σ H1 D I1 q1
end
abbrev TG:=V->St->Hp->(St->Hp->Prop)->Prop
abbrev TGs:=List V->St->Hp->(St->Hp->Prop)->Prop
def PG (X:Cx)(target:Expr)(t:TG):Prop :=
 ∀ (pins:137) (s:153) (σ:St) (H:Hp) (v:V) (u:Value) (Q:St->Hp->Prop),Inv X pins σ H s->RelV v u->t v σ H Q ->
  wpAny 132 X.A (assign target X.env u) (λ _ s'=>∃ σ' H',Inv X pins σ' H' s'/\Q σ' H') X.xe s
def PGs (X:Cx)(ts:288)(t:TGs):Prop :=
 ∀ (pins:137) (s:153) (σ:St) (H:Hp) (vs:193) (us:XV) (Q:St->Hp->Prop),Inv X pins σ H s->Vals vs us->t vs σ H Q ->
  wpAny 132 X.A (assignInOrder ((assignEach ts X.env).map (·.2)) us) (λ _ s'=>∃ σ' H',Inv X pins σ' H' s'/\Q σ' H') X.xe s
abbrev Bh:=V->V->V->Hp->(Hp->Prop)->Prop
def z7g (X:Cx)(t:Bh):Prop :=
 ∀ (pins:137) (s:153) (σ:St) (H:Hp) (o i v:V) (ov iv u:Value) (Q:Hp->Prop),Inv X pins σ H s->RelV o ov->RelV i iv->RelV v u->t o i v H Q ->
  wpAny 132 X.A (setItem ov iv u) (λ _ s'=>∃ H',Inv X pins σ H' s'/\Q H') X.xe s
section
variable {X:Cx}{pos:Pos}
def Vo (i:Nat):TG:=λ v σ H Q=>Q (σ.set i (some v)) H
theorem Vp {i:Nat}{x:Str}(hN:X.N.Nodup)(hi:X.N[i]?=some x)(hx:Loc X.env.scope x)(hf:X.fn x=true\/X.env.scope.names.lookup x=some .local:=by first | exact .inl rfl | exact .inr rfl | assumption):PG X (.Name x pos) (Vo i):=by
 intro pins s σ H v u Q I r h;exact wpAny_assign_Name (Yc I hN hi hx r (λ s' I'=>⟨_,H,I',h⟩) hf)
def zar:TGs:=λ vs σ H Q=>vs=[]/\Q σ H
def z6a (t:TG)(u:TGs):TGs:=λ vs σ H Q=>∃ v r,vs=v::r/\t v σ H λ σ' H'=>u r σ' H' Q
theorem z3j:PGs X [] zar:=by
 intro pins s σ H vs us Q I r h;obtain ⟨e,h⟩:=h;subst e;cases r;exact assignInOrder_nil ⟨σ,H,I,h⟩
theorem Bj {e:Expr}{es:288}{t:TG}{u:TGs}(h1:PG X e t)(h2:PGs X es u)
  (hs:(assignEach (e::es) X.env).map (·.2)=assign e X.env::(assignEach es X.env).map (·.2):=by rfl):PGs X (e::es) (z6a t u):=by
 intro pins s σ H vs us Q I r h;obtain ⟨v,vr,e1,h⟩:=h;subst e1;cases r with
 | cons r rr =>
  rw [hs];refine assignInOrder_cons (thn (h1 pins s σ H _ _ _ I r h) λ _ s1 ⟨σ1,H1,I1,q1⟩=>?_);exact h2 pins s1 σ1 H1 _ _ Q I1 rr q1
def zd7 (K:Y01)(n:Nat)(t:TGs):TG:=λ v σ H Q=>∃ a xs,v=.ref a/\SqT K H a xs/\xs.length=n/\t xs σ H Q
theorem Bk {es:288}{k:Nat}{t:TGs}{n:Nat}(hc:216)(h:PGs X es t)
  (hn:(assignEach es X.env).length=n:=by rfl) (hst:(assignEach es X.env).findIdx? (·.1)=none:=by rfl):PG X (.Tuple es k pos) (zd7 X.K n t):=by
 intro pins s σ H v u Q I r hw;obtain ⟨a,xs,e1,hq,hl,hw⟩:=hw;subst e1;cases r;obtain ⟨its,rv,ht,hz⟩:=I.tuple hq;refine assign_Tuple_tuple (I.ok.hd hc) ht (by simp [hn,<- hl,rv.length]) hst λ h' hx=>?_;have I1:Inv X pins σ H { s with heap:=h' }:=I.kept λ b o e=>hx b o (Y0k (Y0g e)) e;exact h pins _ σ H xs _ Q I1 (by simpa using rv) hw
def zd8 (to ti:TE)(t:Bh):TG:=λ v σ H Q=>to σ H λ o H1=>ti σ H1 λ i H2=>t o i v H2 λ H3=>Q σ H3
theorem Bl {o i:Expr}{to ti:TE}{t:Bh}(ho:PE X o to)(hi:PE X i ti)(hs:z7g X t)
  (ha:∀ v,assign (.Subscript o i pos) X.env v=(do
   let ov <- holding [v] (eval o X.env)
   let iv <- holding [v,ov] (eval i X.env)
   standAt pos
   holding [v,ov,iv] (setItem ov iv v)
   release [v,ov,iv] []):=by intro _;rfl):PG X (.Subscript o i pos) (zd8 to ti t):=by
 intro pins s σ H v u Q I r h;rw [ha];refine wpAny_bind (wpAny_holding (thn (ho pins s σ H _ I h) λ ov s1 ⟨x,H1,I1,r1,q1⟩=>?_));refine wpAny_bind (wpAny_holding (thn (hi pins s1 σ H1 _ I1 q1) λ iv s2 ⟨y,H2,I2,r2,q2⟩=>?_));refine wpAny_bind (wpAny_standAt (wpAny_bind (wpAny_holding (thn (hs pins s2 σ H2 x y v ov iv u _ I2 r1 r2 r q2) λ _ s3 ⟨H3,I3,q3⟩=>?_))));exact wpAny_release ⟨σ,H3,I3,q3⟩
def z7h (te:TE)(g:TG):TS:=λ D σ H=>te σ H λ x H1=>g x σ H1 D.nx
theorem Uc {tg e:Expr}{te:TE}{g:TG}(he:PE X e te)(hg:PG X tg g)(hs:swapsWithSole [tg] e pos.line X.env=pure false:=by rfl)(hw:swappedStores [tg] e X.env=pure none:=by rfl)
  (h1:(assignEach [tg] X.env).map (·.2)=[assign tg X.env]:=by rfl):PS X (.Assign [tg] e pos) (z7h te g):=by
 intro pins s σ H D I h;refine wpAny_Assign_stores (thn (he pins s σ H _ I h) λ v s1 ⟨x,H1,I1,r1,q1⟩=>?_) hs hw;rw [h1];exact thn (hg pins s1 σ H1 x v _ I1 r1 q1) λ _ s2 q=>q
theorem z7i {i:Nat}{x:Str}{e:Expr}{te:TE}{pos':Pos}(hN:X.N.Nodup)(hi:X.N[i]?=some x)(hx:Loc X.env.scope x)(he:PE X e te)(hs:swapsWith e (some (.Name x pos')) pos.line X.env=pure false:=by rfl)(hf:X.fn x=true\/X.env.scope.names.lookup x=some .local:=by first | exact .inl rfl | exact .inr rfl | assumption) :
  PS X (.Assign [.Name x pos'] e pos) (z7h te (Vo i)):=by
 intro pins s σ H D I h;refine wpAny_Assign_Name (thn (he pins s σ H _ I h) λ v s1 ⟨y,H1,I1,r1,q1⟩=>?_) hs;exact Yc I1 hN hi hx r1 (λ s2 I2=>⟨_,H1,I2,q1⟩) hf
end
section
variable {X:Cx}{pos:Pos}
def Ud (c:TT)(tb:TS):TS:=λ D σ H=>∃ W:Nat->St->Hp->Prop,(∃ m,W m σ H)/\∀ m σ H,W m σ H ->
 c σ H λ b H1=>if b=true then ∃ N:St->Hp->Prop,(∀ σ' H',N σ' H'->∃ m',m'<m/\W m' σ' H')/\tb { D with nx:=N,ct:=N,bk:=D.nx } σ H1 else D.nx σ H1
theorem Bm {c:Expr}{body:List Stmt}{tc:TT}{tb:TS}(hp:PassesOwn 132 X.A X.env X.xe)(hc:PT X c tc)(hb:PSs X body tb):PS X (.While c body [] pos) (Ud tc tb):=by
 intro pins s σ H D I h;obtain ⟨W,⟨m0,w0⟩,turn⟩:=h;refine wpAny_While (codeAny_whileLoop (λ n s'=>∃ σ' H',Inv X pins σ' H' s'/\W n σ' H') ?_ m0 ⟨σ,H,I,w0⟩)
 rintro n s1 ⟨σ1,H1,I1,w1⟩
 refine wpAny_passesOwn hp (thn (hc pins s1 σ1 H1 _ I1 (turn n σ1 H1 w1)) λ b s2 ⟨H2,I2,q2⟩=>?_);cases b with
 | true =>
  obtain ⟨N,hN,q2⟩:=q2;rw [if_pos rfl];refine wpAny_passesOwn hp (thn (hb pins s2 σ1 H2 _ I2 q2) λ f s3 q3=>?_);cases f with
  | next =>
   obtain ⟨σ3,H3,I3,n3⟩:=q3;obtain ⟨m',hm,w3⟩:=hN σ3 H3 n3;exact ⟨m',hm,σ3,H3,I3,w3⟩
  | cont =>
   obtain ⟨σ3,H3,I3,n3⟩:=q3;obtain ⟨m',hm,w3⟩:=hN σ3 H3 n3;exact ⟨m',hm,σ3,H3,I3,w3⟩
  | brk=>exact q3
  | ret v=>exact q3
 | false =>
  rw [if_neg Y0x];exact wpAny_execs_nil ⟨σ1,H2,I2,q2⟩
end
structure It where
 go:Nat->Hp->Prop
 yld:Nat->Hp->V->Hp->Prop
 stop:Nat->Hp->Prop
def Z3 (X:Cx)(pins:137)(H:Hp)(b:Addr):Prop :=
 H b=none/\b≠X.env.locals/\b∉X.fs/\(b∈X.ex\/X.s₀.heap.objs.size<=b)/\(∀ x c,X.env.cells.lookup x=some c->c≠b)/\∀ p∈X.pn++pins,p.1≠b
theorem Inv.fpOk {X:Cx}{pins:137}{σ:St}{H H':Hp}{s:153}{b:Addr}(I:131)(hb:s.heap.objs.size<=b)(hn:H' b=none):Z3 X pins H' b:=by
 refine ⟨hn,Y20 (Y0w I.lt hb),I.nofs hb,.inr (Y0y I.sz hb),λ x c e z=>?_,λ p hp z=>?_⟩
 ·obtain ⟨v,q⟩:=I.cell x c e;exact absurd (Y0w q.lt (by rw [z];exact hb)) (Y1b _)
 ·exact absurd (Y0w (Y0g (I.pin p hp).1) (by rw [z];exact hb)) (Y1b _)
structure Turn (P:204)(w:World)(K:Y01)(tg:Expr)(J:It)(fp:XZ)(it:Addr)(tn:Nat->Heap->Prop):Prop where
 mem:it∈fp
 obj:∀ i h,tn i h->∀ b∈fp,∃ o,h.get? b=some o/\∀ v,o.data≠.cell v
 keep:∀ i h h',tn i h->(∀ b∈fp,∀ o,h.get? b=some o->h'.get? b=some o)->tn i h'
 item:∀ (X:Cx),X.prog=P->X.w=w->X.K=K->X.calm=true->∀ (i:Nat) (pins:137) (s:153) (σ:St) (H:Hp) (E:XU),Inv X pins σ H s->(∀ b∈fp,Z3 X pins H b)->tn i s.heap->J.go i H ->
  wpAny (model P w) X.A (pyNext (.ref it)) (λ r s1=>∃ u,r=some u /\
   wpAny (model P w) X.A (letOwnedTupleGo tg (.ref it) u) (λ _ s2=>∃ x H',Inv X pins σ H' s2/\RelV x u/\J.yld i H x H'/\tn (i+1) s2.heap/\∀ b∈fp,H' b=none) E s1) E s
 done:∀ (X:Cx),X.prog=P->X.w=w->X.K=K->X.calm=true->∀ (i:Nat) (pins:137) (s:153) (σ:St) (H:Hp) (E:XU),Inv X pins σ H s->(∀ b∈fp,Z3 X pins H b)->tn i s.heap->J.stop i H ->
  wpAny (model P w) X.A (pyNext (.ref it)) (λ r s1=>r=none/\Inv X pins σ H s1) E s
 self:∀ (A:296) (i:Nat) (s:153) (Q:XU) (E:XU),tn i s.heap->Q (.ref it) s->wpAny (model P w) A (pyIter (.ref it)) Q E s
abbrev TI:=St->Hp->(It->Hp->Prop)->Prop
def PIE (X:Cx)(pins:137)(σ:St)(tg:Expr)(R:It->Hp->Prop)(itv:Value)(s2:153):Prop :=
 ∃ (it:Addr) (fp:XZ) (tn:Nat->Heap->Prop) (J:It) (H':Hp),itv=.ref it/\Inv X pins σ H' s2/\Turn X.prog X.w X.K tg J fp it tn/\tn 0 s2.heap/\(∀ b∈fp,Z3 X pins H' b)/\R J H'
def PI (X:Cx)(tg iter:Expr)(wi:TI):Prop :=
 ∀ (pins:137) (s:153) (σ:St) (H:Hp) (R:It->Hp->Prop),Inv X pins σ H s->wi σ H R ->
  wpAny 132 X.A (eval iter X.env) (λ v s1=>wpAny 132 X.A (pyIter v) (PIE X pins σ tg R) X.xe s1) X.xe s
theorem Vq {M:Model}{A:296}{E:XU}{s:153}{tg:Expr}{it:Addr}{u:Value}{o:Obj}{n:String}{vs:Array Value}{Q:Unit->Shared->Prop}(ho:s.heap.get? it=some o)(hc:o.cls=.type n)(hd:o.data=.fields vs)
    (hn:["enumerate","zip","dict_itemiterator","dict_reverseitemiterator","odict_iterator","itertools.zip_longest","itertools.pairwise"].contains n=false) (hQ:Q () s):wpAny M A (letOwnedTupleGo tg (.ref it) u) Q E s:=by
  unfold letOwnedTupleGo;cases tg<;>first
    | exact wpAny_pure hQ
    | (cases u<;>first
        | exact wpAny_pure hQ
        | (refine wpAny_bind (wpAny_load ho ?_)
           rw [hc,hd];show wpAny M A (if (["enumerate","zip","dict_itemiterator","dict_reverseitemiterator","odict_iterator","itertools.zip_longest","itertools.pairwise"].contains n&&vs[0]?==some (rawInt _))=true then _ else _) Q E s;rw [if_neg (by intro h;rw [hn,Bool.false_and] at h;cases h)];exact wpAny_pure hQ))
def Itl (K:Y01)(a:Addr):It :=
 ⟨λ i H=>∃ xs x,SqL K H a xs/\xs[i]?=some x,λ i H x H'=>H'=H/\∀ xs,SqL K H a xs->xs[i]?=some x,λ i H=>∃ xs,SqL K H a xs/\xs.length<=i⟩
def Itt (K:Y01)(a:Addr):It :=
 ⟨λ i H=>∃ xs x,SqT K H a xs/\xs[i]?=some x,λ i H x H'=>H'=H/\∀ xs,SqT K H a xs->xs[i]?=some x,λ i H=>∃ xs,SqT K H a xs/\xs.length<=i⟩
def Itr (lo:Int)(n:Nat):It:=⟨λ i _=>i<n,λ i H x H'=>H'=H/\x=.int (lo+i),λ i _=>n<=i⟩
theorem JS {P:204}{w:World}{K:Y01}{tg:Expr}(a it:Addr):Turn P w K tg (Itl K a) [it] it (λ i h=>h.IsListIter it a i) where
 mem:=by simp
 obj:=λ i h st b hb=>by
  have e:b=it:=by simpa using hb
  subst e;obtain ⟨o,e,c,d⟩:=st;exact ⟨o,e,λ v z=>by rw [d] at z;cases z⟩
 keep:=λ i h h' st k=>st.at λ o e=>k it 130 o e
 item:=by
  intro X hP hw hK hc i pins s σ H E I hf st hg;subst hP hw hK;obtain ⟨xs,x,hq,hx⟩:=hg;obtain ⟨its,rv,p,hz⟩:=I.list hq;obtain ⟨u,hu,ru⟩:=rv.get hx;obtain ⟨f0,f1,f2,f3,f4,f5⟩:=hf it 130;refine wpAny_pyNext_list_item st p.isList (by simpa using hu) λ h' st' sb=>?_;have I1:Inv X pins σ H { s with heap:=h' }:=I.turned (λ b o hb e=>(sb.2 b hb).trans e) f0 f1 f3 f4 f5;obtain ⟨o,e,c,d⟩:=id st';exact ⟨u,rfl,Vq e c d 127 ⟨x,H,I1,ru,⟨rfl,λ ys hy=>by rw [I.list_inj hy hq];exact hx⟩,st',λ b hb=>(hf b hb).1⟩⟩
 done:=by
  intro X hP hw hK hc i pins s σ H E I hf st hg;subst hP hw hK;obtain ⟨xs,hq,hx⟩:=hg;obtain ⟨its,rv,p,hz⟩:=I.list hq;obtain ⟨f0,f1,f2,f3,f4,f5⟩:=hf it 130;have hl:=rv.length;exact wpAny_pyNext_list_end (I.ok.hd hc) st p.isList 154 λ h' eb=>226
 self:=λ _ _ _ _ _ st h=>wpAny_pyIter_listiter st h
theorem Ue {P:204}{w:World}{K:Y01}{tg:Expr}(a it:Addr):Turn P w K tg (Itt K a) [it] it (λ i h=>h.IsTupleIter it a i) where
 mem:=by simp
 obj:=λ i h st b hb=>by
  have e:b=it:=by simpa using hb
  subst e;obtain ⟨o,e,c,d⟩:=st;exact ⟨o,e,λ v z=>by rw [d] at z;cases z⟩
 keep:=λ i h h' st k=>st.at λ o e=>k it 130 o e
 item:=by
  intro X hP hw hK hc i pins s σ H E I hf st hg;subst hP hw hK;obtain ⟨xs,x,hq,hx⟩:=hg;obtain ⟨its,rv,p,hz⟩:=I.tuple hq;obtain ⟨u,hu,ru⟩:=rv.get hx;obtain ⟨f0,f1,f2,f3,f4,f5⟩:=hf it 130;refine wpAny_pyNext_tuple_item st (show s.heap.IsTuple a its.toArray from p) (by simpa using hu) λ h' st' sb=>?_;have I1:Inv X pins σ H { s with heap:=h' }:=I.turned (λ b o hb e=>(sb.2 b hb).trans e) f0 f1 f3 f4 f5;obtain ⟨o,e,c,d⟩:=id st';exact ⟨u,rfl,Vq e c d 127 ⟨x,H,I1,ru,⟨rfl,λ ys hy=>by rw [I.tuple_inj hy hq];exact hx⟩,st',λ b hb=>(hf b hb).1⟩⟩
 done:=by
  intro X hP hw hK hc i pins s σ H E I hf st hg;subst hP hw hK;obtain ⟨xs,hq,hx⟩:=hg;obtain ⟨its,rv,p,hz⟩:=I.tuple hq;obtain ⟨f0,f1,f2,f3,f4,f5⟩:=hf it 130;have hl:=rv.length;exact wpAny_pyNext_tuple_end (I.ok.hd hc) st (show s.heap.IsTuple a its.toArray from p) 154 λ h' eb=>226
 self:=λ _ _ _ _ _ st h=>wpAny_pyIter_tupleiter st h
theorem Uf {P:204}{w:World}{K:Y01}{tg:Expr}(it:Addr)(lo:Int)(n:Nat):Turn P w K tg (Itr lo n) [it] it (λ i h=>IsRangeIter h it (lo+(i:Nat)*1) ((n:Int)-(i:Nat)) 1) where
 mem:=by simp
 obj:=λ i h st b hb=>by
  have e:b=it:=by simpa using hb
  subst e;exact ⟨_,st,λ v z=>by
   have z':=z;cases z'⟩
 keep:=λ i h h' st k=>k it 130 _ st
 item:=by
  intro X hP hw hK hc i pins s σ H E I hf st hg;subst hP hw hK;obtain ⟨f0,f1,f2,f3,f4,f5⟩:=hf it 130;have W:=Walks.range (prog:=X.prog) (w:=X.w) (I.ok.hd hc) it lo 1 n;refine W.item i s _ _ hg st λ v h' tk hv st' kk=>?_;obtain ⟨t,rfl⟩:=hv;have I1:Inv X pins σ H { s with heap:=h',toks:=tk }:=I.turned (λ b o hb e=>kk b o (by simpa using hb) e) f0 f1 f3 f4 f5;refine ⟨_,rfl,Vq st' rfl rfl 127 ⟨.int (lo+i),H,I1,⟨t,?_⟩,210,st',λ b hb=>(hf b hb).1⟩⟩;rw [Int.mul_one]
 done:=by
  intro X hP hw hK hc i pins s σ H E I hf st hg;subst hP hw hK;obtain ⟨f0,f1,f2,f3,f4,f5⟩:=hf it 130;exact wpAny_pyNext_range_end (I.ok.hd hc) st (by have:n<=i:=hg;omega) λ h' eb=>226
 self:=λ _ _ _ _ _ st h=>wpAny_pyIter_rangeiter st h
section
variable {X:Cx}{tg:Expr}
def zas (K:Y01)(tl:TE):TI:=λ σ H R=>tl σ H λ x H1=>∃ a,x=.ref a/\(∃ xs,SqL K H1 a xs)/\R (Itl K a) H1
theorem z3k {l:Expr}{tl:TE}(hl:PE X l tl):PI X tg l (zas X.K tl):=by
 intro pins s σ H R I h;refine thn (hl pins s σ H _ I h) λ v s1 ⟨x,H1,I1,r1,q1⟩=>?_;obtain ⟨a,e,⟨xs,hq⟩,q⟩:=q1;subst e;cases r1;obtain ⟨its,rv,p,hz⟩:=I1.list hq;refine wpAny_pyIter_list p.isList ?_;refine ⟨s1.heap.objs.size,[s1.heap.objs.size],_,_,H1,rfl,I1.kept λ b o e=>Y03 _ e,JS a _,203,λ b hb=>?_,q⟩;have e:b=s1.heap.objs.size:=by simpa using hb
 subst e;exact I1.fpOk 175 (I1.hok.fresh 175)
theorem Bn {pins:137}{σ:St}{H:Hp}{s:153}{R:It->Hp->Prop}{E:XU}{lo hi:Int}{t u v:Tok}{tk:Nat}(I:131)(h1:-(2 ^ 62)<=lo)(h2:lo<2 ^ 62)(h3:-(2 ^ 62)<=hi)(h4:hi<2 ^ 62)
  (q:R (Itr lo (hi-lo).toNat) H):wpAny 132 X.A (pyIter 178) (PIE X pins σ tg R) E { s with heap:=s.heap.push { cls:=.type "range",data:=.fields #[.int lo t,.int hi u,.int 1 v] },toks:=tk }:=by
 refine wpAny_pyIter_range (IsRange.new ..) (small_one h1 h2 h3 h4) ?_;have I1:Inv X pins σ H { s with heap:=s.heap.push { cls:=.type "range",data:=.fields #[.int lo t,.int hi u,.int 1 v] },toks:=tk }:=I.kept λ b o e=>Y03 _ e;refine ⟨(s.heap.push { cls:=.type "range",data:=.fields #[.int lo t,.int hi u,.int 1 v] }).objs.size,[(s.heap.push { cls:=.type "range",data:=.fields #[.int lo t,.int hi u,.int 1 v] }).objs.size],_,_,H,rfl,
  I1.kept λ b o e=>Y03 _ e,Uf _ lo (hi-lo).toNat,?_,λ b hb=>?_,q⟩
 ·have e1:lo+((0:Nat):Int)*1=lo:=by simp
  have e2:(((hi-lo).toNat:Nat):Int)-((0:Nat):Int)=Builtin.Range.rangeSize lo hi 1:=by rw [rangeSize_one];split<;>omega
  show IsRangeIter _ _ (lo+((0:Nat):Int)*1) ((((hi-lo).toNat:Nat):Int)-((0:Nat):Int)) 1;rw [e1,e2];exact Y0c _ rfl
 ·have e:b=(s.heap.push { cls:=.type "range",data:=.fields #[.int lo t,.int hi u,.int 1 v] }).objs.size:=by simpa using hb
  subst e;exact I1.fpOk 175 (I1.hok.fresh 175)
def zat (ta:TA):TI:=λ σ H R=>ta σ H λ vs H1=>∃ j:Int,vs=[.int j]/\-(2 ^ 62)<=j/\j<2 ^ 62/\R (Itr 0 j.toNat) H1
theorem O2 {a:Expr}{ta:TA}{p pos:Pos} (hg:Gl X "range") (hm:X.mg "range"=none) (ha:PA X [a] ta) (hs:starEach [a] X.env=[(false,eval a X.env)]:=by rfl):PI X tg (.Call (.Name "range" p) [a] [] pos) (zat ta):=by
 intro pins s σ H R I h;refine Call_ (yo I hg hm boot_range (Y33 (thn (ha pos pins s σ H _ I h) λ us s1 ⟨vs,H1,I1,r1,q1⟩=>?_) hs rfl));obtain ⟨j,e,q1,q2,q⟩:=q1;subst e;cases r1 with
 | cons r rr =>
  cases rr;obtain ⟨t,rfl⟩:=r;exact call_range_1 (Bn I1 128 128 q1 q2 (by simpa using q))
def z7j (wi:TI)(g:TG)(tb:TS):TS:=λ D σ H=>wi σ H λ J H1=>∃ W:Nat->Nat->St->Hp->Prop,(∃ m,W 0 m σ H1)/\∀ i m σ H,W i m σ H ->
 (J.stop i H/\D.nx σ H)\/(J.go i H/\∃ N:St->Hp->Prop,(∀ σ' H',N σ' H'->∃ m',m'<m/\W (i+1) m' σ' H')/\∀ x H',J.yld i H x H'->g x σ H' λ σ2 H2=>tb { D with nx:=N,ct:=N,bk:=D.nx } σ2 H2)
def qD (fp:XZ)(h:Heap):List (Addr×Obj):=fp.filterMap λ b=>(h.get? b).map λ o=>(b,o)
theorem wG {fp:XZ}{h:Heap}{b:Addr}{o:Obj}(hb:b∈fp)(e:h.get? b=some o):(b,o)∈qD fp h:=Y1v.mpr ⟨b,hb,by rw [e];rfl⟩
theorem JT {fp:XZ}{h:Heap}{p:Addr×Obj}(hp:p∈qD fp h):p.1∈fp/\h.get? p.1=some p.2:=by
 obtain ⟨b,hb,e⟩:=Y1v.mp hp;cases q:h.get? b with
 | none=>rw [q] at e;cases e
 | some o =>
  rw [q] at e;have e':=Option.some.inj e;subst e';exact ⟨hb,q⟩
theorem Inv.pinned {pins:137}{σ:St}{H:Hp}{s:153}{fp:XZ}(I:131)(hf:∀ b∈fp,Z3 X pins H b)(ho:∀ b∈fp,∃ o,s.heap.get? b=some o/\∀ v,o.data≠.cell v):Inv X (pins++qD fp s.heap) σ H s :=
 I.pins_of λ p hp=>(Y0j.mp hp).elim (λ z=>I.pin p (Y0s _ z)) λ z=>by
  obtain ⟨hb,e⟩:=JT z;obtain ⟨f0,f1,f2,_⟩:=hf p.1 hb;obtain ⟨o,e',d⟩:=ho p.1 hb;rw [e] at e';cases e';exact ⟨e,f0,f1,f2,d⟩
theorem Inv.unpinned {pins pl:137}{σ:St}{H:Hp}{s:153}(I:Inv X (pins++pl) σ H s):Inv X pins σ H s:=I.pins_of λ p hp=>I.pin p (Y0s _ (Y1h _ hp))
theorem z7k {iter:Expr}{body:List Stmt}{wi:TI}{g:TG}{tb:TS}{pos:Pos}(hp:PassesOwn 132 X.A X.env X.xe)(hc:216)(hi:PI X tg iter wi)(hg:PG X tg g)(hb:PSs X body tb)
  (hs:∀ x,foldedSetIterable iter X.env x=pure x:=by intro _;rfl):PS X (.For tg iter body [] pos) (z7j wi g tb):=by
 intro pins s σ H D I h;refine wpAny_For (thn (hi pins s σ H _ I h) λ v s1 h1=>thn h1 λ itv s2 h2=>?_) hs;obtain ⟨it,fp,tn,J,H2,e,I2,T,st2,f2,W,⟨m0,w0⟩,turn⟩:=h2;subst e;have stat:∀ {H':Hp},(∀ b∈fp,H' b=none)->∀ b∈fp,Z3 X pins H' b:=λ hn b hb=>⟨hn b hb,(f2 b hb).2⟩;refine codeAny_forLoop_any (λ n s'=>∃ i σ' H',Inv X pins σ' H' s'/\tn i s'.heap/\(∀ b∈fp,H' b=none)/\W i n σ' H') ?_ m0 ⟨0,σ,H2,I2,st2,λ b hb=>(f2 b hb).1,w0⟩
 rintro n s3 ⟨i,σ3,H3,I3,st3,fr3,w3⟩
 rcases turn i n σ3 H3 w3 with ⟨stop,qn⟩ | ⟨go,N,hN,step⟩
 ·refine wpAny_passesOwn hp (thn (T.done X rfl rfl rfl hc i pins s3 σ3 H3 X.xe I3 (stat fr3) st3 stop) λ r s4 ⟨hr,I4⟩=>?_);subst hr;exact wpAny_execs_nil ⟨σ3,H3,I4,qn⟩
 ·refine wpAny_passesOwn hp (thn (T.item X rfl rfl rfl hc i pins s3 σ3 H3 X.xe I3 (stat fr3) st3 go) λ r s4 ⟨u,hr,h4⟩=>?_);subst hr;refine wpAny_passesOwn hp (thn h4 λ _ s5 ⟨x,H5,I5,r5,y5,st5,fr5⟩=>?_);have I5':=I5.pinned (stat fr5) (T.obj _ _ st5);refine wpAny_passesOwn hp (thn (hg _ s5 σ3 H5 x u _ I5' r5 (step x H5 y5)) λ _ s6 ⟨σ6,H6,I6,q6⟩=>?_);refine wpAny_passesOwn hp (thn (hb _ s6 σ6 H6 _ I6 q6) λ f s7 q7=>?_);have again:∀ {σ7:St}{H7:Hp},Inv X (pins++qD fp s5.heap) σ7 H7 s7->N σ7 H7->∃ m,m<n/\∃ i σ' H',Inv X pins σ' H' s7/\tn i s7.heap/\(∀ b∈fp,H' b=none)/\W i m σ' H':=λ {σ7 H7} I7 n7=>by
   obtain ⟨m',hm,w7⟩:=hN σ7 H7 n7;refine ⟨m',hm,i+1,σ7,H7,I7.unpinned,T.keep _ _ _ st5 λ b hb o e=>(I7.pin (b,o) (Y0s _ (Y0s _ (wG hb e)))).1,λ b hb=>?_,w7⟩;obtain ⟨o,e,d⟩:=T.obj _ _ st5 b hb;exact (I7.pin (b,o) (Y0s _ (Y0s _ (wG hb e)))).2.1
  cases f with
  | next=>obtain ⟨σ7,H7,I7,n7⟩:=q7;exact again I7 n7
  | cont=>obtain ⟨σ7,H7,I7,n7⟩:=q7;exact again I7 n7
  | brk=>obtain ⟨σ7,H7,I7,q7⟩:=q7;exact ⟨σ7,H7,I7.unpinned,q7⟩
  | ret v=>obtain ⟨x7,σ7,H7,I7,r7,q7⟩:=q7;exact ⟨x7,σ7,H7,I7.unpinned,r7,q7⟩
end
abbrev R2:=V->V->Hp->VK->Prop
def OpR (X:Cx)(f:Value->Value->Sem Value)(r:R2):Prop :=
 ∀ (pins:137) (s:153) (σ:St) (H:Hp) (x y:V) (v u:Value) (Q:VK),Inv X pins σ H s->RelV x v->RelV y u->r x y H Q ->
  wpAny 132 X.A (f v u) 231 X.xe s
def UnR (X:Cx)(f:Value->Sem Value)(r:V->Hp->VK->Prop):Prop :=
 ∀ (pins:137) (s:153) (σ:St) (H:Hp) (x:V) (v:Value) (Q:VK),Inv X pins σ H s->RelV x v->r x H Q ->
  wpAny 132 X.A (f v) 231 X.xe s
def jh (X:Cx)(f:Value)(r:List V->Hp->VK->Prop):Prop :=
 ∀ (pins:137) (s:153) (σ:St) (H:Hp) (xs:193) (us:XV) (Q:VK),Inv X pins σ H s->Vals xs us->r xs H Q ->
  wpAny 132 X.A (call f us) 231 X.xe s
def tOp (r:R2)(ta tb:TE):TE:=λ σ H Q=>ta σ H λ x H1=>tb σ H1 λ y H2=>r x y H2 Q
def tUn (r:V->Hp->VK->Prop)(ta:TE):TE:=λ σ H Q=>ta σ H λ x H1=>r x H1 Q
def rI (C:Int->Int->Prop)(g:Int->Int->V):R2:=λ x y H Q=>∃ i j,x=.int i/\y=.int j/\C i j/\Q (g i j) H
def rI0 (g:Int->Int->V):R2:=λ x y H Q=>∃ i j,x=.int i/\y=.int j/\Q (g i j) H
def rU (g:Int->V):V->Hp->VK->Prop:=λ x H Q=>∃ i,x=.int i/\Q (g i) H
section
variable {X:Cx}{a b c:Expr}{ta tb tc:TE}{pos:Pos}
theorem z7l (ha:PE X a ta)(hb:PE X b tb){pins:137}{s:153}{σ:St}{H:Hp}{R:V->V->Hp->Prop}(I:131)
  (h:ta σ H λ x H1=>tb σ H1 λ y H2=>R x y H2) {Q:XU}{f:Value->Value->Sem Value}
  (hf:∀ v u s2 x y H2,Inv X pins σ H2 s2->RelV x v->RelV y u->R x y H2->wpAny 132 X.A (f v u) Q X.xe s2) :
  wpAny 132 X.A (eval a X.env) (λ v s₁=>wpAny 132 X.A (eval b X.env) (λ u s₂=>wpAny 132 X.A (f v u) Q X.xe s₂) X.xe s₁) X.xe s:=by
 refine thn 229 λ v s1 ⟨x,H1,I1,r1,q1⟩=>?_;refine thn (hb pins s1 σ H1 _ I1 q1) λ u s2 ⟨y,H2,I2,r2,q2⟩=>?_;exact hf v u s2 x y H2 I2 r1 r2 q2
theorem zau {op:Operator}{r:R2}(ho:OpR X (binaryOp op) r)(ha:PE X a ta)(hb:PE X b tb):PE X (.BinOp a op b pos) (tOp r ta tb):=by
 intro pins s σ H Q I h;exact wpAny_BinOp (z7l ha hb I h λ v u s2 x y H2 I2 rx ry q=>ho pins s2 σ H2 x y v u Q I2 rx ry q)
theorem Bp {op:UnaryOp}{r:V->Hp->VK->Prop}(ho:UnR X (unaryOp op) r)(ha:PE X a ta):PE X (.UnaryOp op a pos) (tUn r ta):=by
 intro pins s σ H Q I h;exact UnaryOp_ (thn 229 λ v s1 ⟨x,H1,I1,r1,q1⟩=>ho pins s1 σ H1 x v Q I1 r1 q1)
theorem opI {f:Value->Value->Sem Value}{C:Int->Int->Prop}{g:Int->Int->Int}
  (rule:∀ (i j:Int) (t u:Tok) (s:153) (Q:XU) (E:XU),C i j->Q (.int (g i j) s.toks) { s with toks:=s.toks+1 }->wpAny (model X.prog X.w) X.A (f (.int i t) (.int j u)) Q E s) :
  OpR X f (rI C λ i j=>.int (g i j)):=by
 intro pins s σ H x y v u Q I rx ry h;obtain ⟨i,j,rfl,rfl,hc,q⟩:=h;obtain ⟨t,rfl⟩:=rx;obtain ⟨t',rfl⟩:=ry;exact rule i j t t' s _ _ hc ⟨.int (g i j),H,I.tok _,146,q⟩
theorem z3l {f:Value->Value->Sem Value}{g:Int->Int->Int}
  (rule:∀ (i j:Int) (t u:Tok) (s:153) (Q:XU) (E:XU),Q (.int (g i j) s.toks) { s with toks:=s.toks+1 }->wpAny (model X.prog X.w) X.A (f (.int i t) (.int j u)) Q E s) :
  OpR X f (rI0 λ i j=>.int (g i j)):=by
 intro pins s σ H x y v u Q I rx ry h;obtain ⟨i,j,rfl,rfl,q⟩:=h;obtain ⟨t,rfl⟩:=rx;obtain ⟨t',rfl⟩:=ry;exact rule i j t t' s _ _ ⟨.int (g i j),H,I.tok _,146,q⟩
theorem z7m {f:Value->Value->Sem Value}{g:Int->Int->Bool}
  (rule:∀ (i j:Int) (t u:Tok) (s:153) (Q:XU) (E:XU),Q (.bool (g i j)) s->wpAny 132 X.A (f (.int i t) (.int j u)) Q E s) :
  OpR X f (rI0 λ i j=>.bl (g i j)):=by
 intro pins s σ H x y v u Q I rx ry h;obtain ⟨i,j,rfl,rfl,q⟩:=h;obtain ⟨t,rfl⟩:=rx;obtain ⟨t',rfl⟩:=ry;exact rule i j t t' s _ _ ⟨.bl (g i j),H,I,rfl,q⟩
def zei (i j:Int):Prop:=(-(2 ^ 64)<i/\i<2 ^ 64)\/(-(2 ^ 64)<j/\j<2 ^ 64)
theorem Ug (k:Nat):(0:Int)<=2 ^ k:=by
 rw [two_pow_cast];exact Int.natCast_nonneg _
theorem z7n:OpR X (binaryOp .Add) (rI0 λ i j=>.int (i+j)):=z3l λ _ _ _ _ _ _ _ q=>add_int q
theorem z7o:OpR X (binaryOp .Sub) (rI0 λ i j=>.int (i-j)):=z3l λ _ _ _ _ _ _ _ q=>sub_int q
theorem z7p:OpR X (binaryOp .Mod) (rI (λ _ j=>0<j) λ i j=>.int (i%j)):=opI λ i j _ _ _ _ _ hc q=>by
 have h1:(0:Int)<j:=hc;exact mod_int' 128 (by rw [Int.fmod_eq_emod_of_nonneg i 128];exact q)
theorem z7q:OpR X (binaryOp .RShift) (rI (λ _ j=>0<=j) λ i j=>.int (i/2 ^ j.toNat)):=opI λ i j _ _ _ _ _ hc q =>
 rshift_int hc (by rw [Int.fdiv_eq_ediv_of_nonneg i (Ug _)];exact q)
theorem z7r:OpR X (binaryOp .BitAnd) (rI0 λ i j=>.int (Builtin.bitAnd i j)):=z3l λ _ _ _ _ _ _ _ q=>and_int q
theorem zav:OpR X (binaryOp .BitOr) (rI0 λ i j=>.int (Builtin.bitOr i j)):=z3l λ _ _ _ _ _ _ _ q=>or_int q
theorem unI {f:Value->Sem Value}{g:Int->Int}
  (rule:∀ (i:Int) (t:Tok) (s:153) (Q:XU) (E:XU),Q (.int (g i) s.toks) { s with toks:=s.toks+1 }->wpAny (model X.prog X.w) X.A (f (.int i t)) Q E s) :
  UnR X f (rU λ i=>.int (g i)):=by
 intro pins s σ H x v Q I rx h;obtain ⟨i,rfl,q⟩:=h;obtain ⟨t,rfl⟩:=rx;exact rule i t s _ _ ⟨.int (g i),H,I.tok _,146,q⟩
theorem z7s:UnR X (unaryOp .USub) (rU λ i=>.int (-i)):=unI λ _ _ _ _ _ q=>neg_int q
theorem z7t:UnR X (unaryOp .Invert) (rU λ i=>.int (Builtin.bitNot i)):=unI λ _ _ _ _ _ q=>invert_int q
end
section
variable {X:Cx}{a b c:Expr}{ta tb tc:TE}{pos:Pos}
theorem WG {pins:137}{σ:St}{H:Hp}{s:153}{Q:VK}{k k':Bool}(I:131)(q:Q (.bl k) H)(e:k=k'):EP X pins σ Q (.bool k') s:=by
 subst e;exact ⟨.bl k,H,I,rfl,q⟩
theorem zaw:OpR X (compareOp .Lt) (rI0 λ i j=>.bl (decide (i<j))):=z7m λ _ _ _ _ _ _ _ q=>lt_int q
theorem zax:OpR X (compareOp .Gt) (rI0 λ i j=>.bl (decide (j<i))):=z7m λ _ _ _ _ _ _ _ q=>gt_int q
theorem zay:OpR X (compareOp .GtE) (rI0 λ i j=>.bl (decide (j<=i))):=z7m λ _ _ _ _ _ _ _ q=>ge_int q
theorem WH {op:CmpOp}{r:R2}(ho:OpR X (compareOp op) r)(ha:PE X a ta)(hb:PE X b tb)(hm:behindInMarks op b=false):PE X (.Compare a [op] [b] pos) (tOp r ta tb):=by
 intro pins s σ H Q I h;exact wpAny_Compare1 (z7l ha hb I h λ v u s2 x y H2 I2 rx ry q=>ho pins s2 σ H2 x y v u Q I2 rx ry q) hm
def Vr (t:TE):TT:=λ σ H Q=>t σ H λ x H'=>∃ k,x=.bl k/\Q k H'
theorem WI {op:CmpOp}{r:R2}(ho:OpR X (compareOp op) r)(ha:PE X a ta)(hb:PE X b tb)(hm:behindInMarks op b=false):PT X (.Compare a [op] [b] pos) (Vr (tOp r ta tb)):=by
 intro pins s σ H Q I h;refine wpAny_isTrue_Compare1 (thn 229 λ v s1 ⟨x,H1,I1,r1,q1⟩=>thn (hb pins s1 σ H1 _ I1 q1) λ u s2 ⟨y,H2,I2,r2,q2⟩ =>
  thn (ho pins s2 σ H2 x y v u _ I2 r1 r2 q2) λ c s3 ⟨z,H3,I3,r3,k,e,q3⟩=>?_) hm
 subst e;cases r3;exact wpAny_truthy_bool ⟨H3,I3,q3⟩
theorem WJ:(sizeLine:Nat)<2 ^ 63:=by rw [sizeLine_eq];decide
theorem Uh:OpR X (binaryOp .Add) (λ x y H Q=>∃ i j,x=.str i/\y=.str j/\i.length+j.length<=sizeLine/\Q (.str (i++j)) H):=by
 intro pins s σ H x y v u Q I rx ry h;obtain ⟨i,j,rfl,rfl,hz,q⟩:=h;obtain ⟨t,rfl⟩:=rx;obtain ⟨t',rfl⟩:=ry;exact add_str (λ t' tk=>⟨.str (i++j),H,I.tok _,146,q⟩) hz
theorem qS {x:V}{us:XV}(r:Vals [x] us):∃ u,us=[u]/\RelV x u:=by
 cases r with
 | cons r1 r2=>cases r2;exact ⟨_,rfl,r1⟩
theorem z6b {x y:V}{us:XV}(r:Vals [x,y] us):∃ u w',us=[u,w']/\RelV x u/\RelV y w':=by
 cases r with
 | cons r1 r2 =>
  cases r2 with
  | cons r3 r4=>cases r4;exact ⟨_,_,rfl,r1,r3⟩
theorem O3 (hc:216):jh X (.builtin "max") (λ xs H Q=>∃ i j,xs=[.int i,.int j]/\Q (.int (if j > i then j else i)) H):=by
 intro pins s σ H xs us Q I r h;obtain ⟨i,j,rfl,q⟩:=h;obtain ⟨u,w',rfl,⟨t,rfl⟩,⟨t',rfl⟩⟩:=z6b r;refine max_two_ints (I.ok.hd hc) λ h' tk k=>⟨_,H,I.kept k,?_,q⟩;by_cases hj:j > i
 ·rw [if_pos hj,if_pos hj];exact 146
 ·rw [if_neg hj,if_neg hj];exact 146
theorem JU:jh X (.type "int") (λ xs H Q=>(∃ i,xs=[.int i]/\Q 209 H)\/∃ k,xs=[.bl k]/\Q (.int (if k then 1 else 0)) H):=by
 intro pins s σ H xs us Q I r h;rcases h with ⟨i,rfl,q⟩ | ⟨k,rfl,q⟩
 ·obtain ⟨u,rfl,t,rfl⟩:=qS r;exact call_int_int ⟨.int i,H,I,146,q⟩
 ·obtain ⟨u,rfl,r1⟩:=qS r;cases r1;exact call_int_bool ⟨.int (if k then 1 else 0),H,I.tok _,146,q⟩
def zd9 (K:Y01)(x:V)(H:Hp)(n:Nat):Prop :=
 match x with
 | .str y=>y.length<=sizeLine/\n=y.length
 | .byt y=>y.size<=sizeLine/\n=y.size
 | .ref p=>(∃ xs,SqL K H p xs/\n=xs.length)\/∃ xs,SqT K H p xs/\n=xs.length
 | _=>False
theorem Bq:jh X (.builtin "len") (λ xs H Q=>∃ x n,xs=[x]/\zd9 X.K x H n/\Q (.int n) H):=by
 intro pins s σ H xs us Q I r h;obtain ⟨x,n,rfl,e,q⟩:=h;obtain ⟨u,rfl,rx⟩:=qS r;have hl:=WJ;have hs:=sizeLine_eq;cases x with
 | str y =>
  obtain ⟨t,rfl⟩:=rx;obtain ⟨hy,e'⟩:y.length<=sizeLine/\n=y.length:=e;subst e';exact len_str 128 ⟨.int _,H,I.tok _,146,q⟩
 | byt y =>
  obtain ⟨t,rfl⟩:=rx;obtain ⟨hy,e'⟩:y.size<=sizeLine/\n=y.size:=e;subst e';exact PySem.W.len_bytes 128 ⟨.int _,H,I.tok _,146,q⟩
 | ref p =>
  cases rx;have e':=e;rcases e' with ⟨xs,hx,e'⟩ | ⟨xs,hx,e'⟩
  ·subst e';obtain ⟨its,r',pl,hz⟩:=I.list hx;have hlen:=r'.length;exact Calls.call_len_list pl.isList (by simp only [Y0f];omega) ⟨.int xs.length,H,I.tok _,⟨_,by simp only [Y0f];rw [hlen]⟩,q⟩
  ·subst e';obtain ⟨its,r',pl,hz⟩:=I.tuple hx;have hlen:=r'.length;exact len_tuple pl (by simp only [Y0f];omega) ⟨.int xs.length,H,I.tok _,⟨_,by simp only [Y0f];rw [hlen]⟩,q⟩
 | _=>exact (show False from e).elim
end
structure ObjM (h:Heap)(x dx C:Addr)(mA:XJ):Prop where
 obj:h.get? x=some (PySem.W.instObj C dx)
 ns:h.Ns1 dx mA
 ne:dx≠x
theorem O4 {h:Heap}{dx:Addr}{mA:XJ}(n:h.Ns1 dx mA):∃ od,h.get? dx=some od/\∀ name,PySem.W.lookIn name od=some (mA name):=by
 obtain ⟨o,es,ep,ho,hd,hk,_,hm⟩:=n;refine ⟨o,ho,λ name=>?_⟩;have e:=hm name;unfold nsFind findBy at e;rw [<- Array.find?_toList] at e;unfold PySem.W.lookIn;rw [hd];dsimp only
 split
 ·rename_i y q;rw [q] at e;exact congrArg some e
 ·rename_i q;rw [q] at e;have a:es.toList.any (·.refKey)=false:=by
   rw [Y3c];intro y hy;obtain ⟨z,t,hkey⟩:=hk y (Array.mem_toList_iff.mp hy);simp [DictEntry.refKey,hkey]
  have a':¬ es.toList.any (·.refKey)=true:=by rw [a];exact Y0x
  rw [if_neg a'];exact congrArg some e
theorem ObjM.look {h:Heap}{x dx C:Addr}{mA:XJ}(I:ObjM h x dx C mA):∃ od,PySem.W.InstAt h x (PySem.W.instObj C dx) C (some od)/\∀ name,PySem.W.lookIn name od=some (mA name) :=
 let ⟨od,ho,hl⟩:=O4 I.ns
 ⟨od,⟨I.obj,rfl,rfl,ho⟩,hl⟩
section
variable {prog:204}{w:World}{A:296}{E:XU}{s:153}{K:Y01}{x dx C f:Addr}{mA:XJ}{name:Str}{v:Value}
theorem z3m {expr:Bool}{Q:XU}(X:K.In s.heap)(I:ObjM s.heap x dx C mA)(hg:PySem.W.plainGet K C name=true)(hh:PySem.W.hasDictIn K C=true)
  (ha:PySem.W.findIn K (.ref C) name=some none) (hv:mA name=some v) (hv':PySem.W.handedIn v=true) (h:Q v { s with toks:=s.toks+1 }) :
  wpAny 139 A (getAttr (.ref x) name expr) Q E s:=by
 obtain ⟨od,J,hl⟩:=I.look;exact PySem.W.get_value X J (PySem.W.plainGet_of hg).1 (PySem.W.findObj_own hh ha rfl (by rw [hl,hv])) hv' h
theorem z3n {ns:XQ}{Q:Unit->Shared->Prop}(X:K.In s.heap)(I:ObjM s.heap x dx C mA)
  (hs:PySem.W.findIn K (.ref C) "__setattr__"=some (some (.builtin "object.__setattr__"))) (hp:PySem.W.plainOver K C=true) (ht:PySem.W.takerIn K C name=some none) (hh:PySem.W.hasDictIn K C=true)
  (hw:PySem.Within mA ns) (hsz:ns.length<=sizeLine)
  (h:∀ h',ObjM h' x dx C (λ y=>if y=name then some v else mA y)->Heap.SameBut dx s.heap h'->Q () { s with heap:=h',toks:=s.toks+2 }) :
  wpAny 139 A (setAttr (.ref x) name v) Q E s:=by
 obtain ⟨od,J,hl⟩:=I.look;refine PySem.W.set_plain X J hs (PySem.W.osa_open X J hp ht λ b=>?_);obtain ⟨cd,hc,hd'⟩:=PySem.W.any_some hh;have hx:=I.obj;refine wpAny_bind (wpAny_pure (wpAny_bind (wpAny_bind (wpAny_loadPart hx (wpAny_bind (PySem.W.Looks.here (PySem.W.looks_clsIn X hc) ?_))))));rw [hd'];refine wpAny_pure (wpAny_bind (wpAny_pure (wpAny_bind ?_)));refine wpAny_nsSet1 I.ns λ h' hn2 hs2=>?_;obtain ⟨oD,esD,epD,hoD,hdD,hcD⟩:=hn2.count (PySem.Within.cons name v hw);refine wpAny_bind (wpAny_lookBehind hoD (by rw [hdD];exact pastItsLine_dict (Y0y hcD (by rw [Y09];omega))) ?_);exact wpAny_pure (h _ ⟨(hs2.2 _ (Ne.symm I.ne)).trans I.obj,hn2,I.ne⟩ hs2)
theorem Bs {R:Result->Shared->Prop}{vs:XV}{kw:List (Str×Value)}(X:K.In s.heap)(hm:PySem.W.makesIn K C=true)
    (hi:PySem.W.findIn K (.ref C) "__init__"=some (some 269)) (hf:PySem.W.typeIn K 269=some (.type "function"))
    (h:codeAny 139 (A.under (.builtin "type.__call__" ⟨.ref C::vs,kw⟩)) (.call 269 ⟨.ref 166::vs,kw⟩) (PySem.W.InitBack 166 R)
      { s with heap:=(s.heap.push PySem.W.emptyDict).push (PySem.W.instObj C s.heap.objs.size) }) :
    codeAny 139 A (.call (.ref C) ⟨vs,kw⟩) R s:=by
  obtain ⟨hh,g,d,t,os⟩:=s;exact PySem.W.make_core (PySem.W.makes_of X hm) (PySem.W.looks_findIn X hi) (λ self=>PySem.W.bind_fn X self hf) 243 h
end
def wH (f:Str)(v:V):List (Str×V)->List (Str×V)
 | []=>[(f,v)]
 | (g,x)::r=>if g=f then (g,v)::r else (g,x)::wH f v r
theorem yR (f g:Str)(v:V):∀ fs:List (Str×V),(wH f v fs).lookup g=if g=f then some v else fs.lookup g
 | []=>by
  show List.lookup g [(f,v)]=_;by_cases h:g=f
  ·have hb:=beq_iff_eq.mpr h;simp only [List.lookup,hb,if_pos h]
  ·have hb:=beq_eq_false_iff_ne.mpr h;simp only [List.lookup,hb,if_neg h]
 | (k,x)::r=>by
  have ih:=yR f g v r;rw [show wH f v ((k,x)::r)=(if k=f then (k,v)::r else (k,x)::wH f v r) from rfl];by_cases hk:k=f
  ·rw [if_pos hk];by_cases h:g=k
   ·have hb:=beq_iff_eq.mpr h;simp only [List.lookup,hb,if_pos (h.trans hk)]
   ·have hb:=beq_eq_false_iff_ne.mpr h;simp only [List.lookup,hb,if_neg (λ e:g=f=>h (e.trans hk.symm))]
  ·rw [if_neg hk];by_cases h:g=k
   ·have hb:=beq_iff_eq.mpr h;simp only [List.lookup,hb,if_neg (λ e:g=f=>hk (h.symm.trans e))]
   ·have hb:=beq_eq_false_iff_ne.mpr h;simp only [List.lookup,hb];exact ih
theorem yp (f:Str)(v:V):∀ fs:List (Str×V),f∈(wH f v fs).map (·.1)/\∀ g,g∈fs.map (·.1)->g∈(wH f v fs).map (·.1)
 | []=>⟨by simp [wH],λ g h=>by simp at h⟩
 | (k,x)::r=>by
  obtain ⟨i1,i2⟩:=yp f v r;rw [show wH f v ((k,x)::r)=(if k=f then (k,v)::r else (k,x)::wH f v r) from rfl];by_cases hk:k=f
  ·rw [if_pos hk];subst hk;exact ⟨by simp,λ g h=>by simpa using h⟩
  ·rw [if_neg hk];refine ⟨?_,λ g h=>?_⟩
   ·rw [Y0a];exact Y02 _ i1
   ·rw [Y0a] at h ⊢;rcases Y08.mp h with e | e
    ·exact Y08.mpr (.inl e)
    ·exact Y02 _ (i2 g e)
theorem yS (f:Str)(v:V):∀ fs:List (Str×V),(wH f v fs).length<=fs.length+1
 | []=>by simp [wH]
 | (k,x)::r=>by
  have ih:=yS f v r;rw [show wH f v ((k,x)::r)=(if k=f then (k,v)::r else (k,x)::wH f v r) from rfl];by_cases hk:k=f
  ·rw [if_pos hk,Y09,Y09];omega
  ·rw [if_neg hk,Y09,Y09];omega
theorem RelO.some_of {v:V}{o:Option Value}(r:RelO (some v) o):∃ u,o=some u/\RelV v u:=by
 cases o with
 | none=>exact (show False from r).elim
 | some u=>exact ⟨u,rfl,r⟩
theorem O5 {v:V}{u:Value}(r:RelV v u):PySem.W.handedIn u=true:=by
 cases v with
 | non=>cases (show u=Value.none from r);rfl
 | bl b=>cases (show u=Value.bool b from r);rfl
 | int i=>obtain ⟨t,e⟩:=(show ∃ t,u=Value.int i t from r);cases e;rfl
 | str x=>obtain ⟨t,e⟩:=(show ∃ t,u=Value.str x t from r);cases e;rfl
 | byt b=>obtain ⟨t,e⟩:=(show ∃ t,u=Value.bytes b t from r);cases e;rfl
 | flt b=>obtain ⟨t,e⟩:=(show ∃ t,u=Value.float b t from r);cases e;rfl
 | ref a=>cases (show u=Value.ref a from r);rfl
 | ty n=>cases (show u=Value.type n from r);rfl
section
variable {P:204}{w:World}{H H':Hp}{h h':Heap}{a C dx:Addr}{fs fs':List (Str×V)}
theorem WK (hok:HOk P w H h)(e:H a=some (.ins C dx fs)):∃ mA,ObjM h a dx C mA/\(∀ f,RelO (fs.lookup f) (mA f))/\PySem.Within mA (fs.map (·.1))/\fs.length<=1000/\H dx=some (.own a):=by
 obtain ⟨d,z,ne,ob,mA,n,r,q⟩:=(show ObjOk P w H h a (.ins C dx fs) from hok a _ e);exact ⟨mA,⟨ob,n,ne⟩,r,q,z,d⟩
end
structure Cls (K:Y01)(C:Addr):Prop where
 pg:PySem.W.plainGet K C Str.empty=true
 hd:PySem.W.hasDictIn K C=true
 po:PySem.W.plainOver K C=true
 sa:PySem.W.findIn K (.ref C) "__setattr__"=some (some (.builtin "object.__setattr__"))
theorem Cls.get {K:Y01}{C:Addr}(c:Cls K C)(f:Str):PySem.W.plainGet K C f=true:=c.pg
def NoAttr (K:Y01)(C:Addr)(f:Str):Prop:=PySem.W.findIn K (.ref C) f=some none
theorem NoAttr.taker {K:Y01}{C:Addr}{f:Str}(n:NoAttr K C f):PySem.W.takerIn K C f=some none:=by
 unfold PySem.W.takerIn;rw [show PySem.W.findIn K (.ref C) f=some none from n];rfl
structure Con (K:Y01)(C:Addr)(f:Str)(v:V)(u:Value):Prop where
 at_:PySem.W.findIn K (.ref C) f=some (some u)
 rel:RelV v u
 get:PySem.W.specialIn K u "__get__"=some none
 cp:PySem.W.copiedNames.contains f=false
structure Meth (K:Y01)(C:Addr)(m:Str)(f:Addr):Prop where
 at_:PySem.W.findIn K (.ref C) m=some (some 269)
 fn:PySem.W.isFn K 269=true
 kp:PySem.W.keepIn K 269=true
section
variable {X:Cx}{pins:137}{σ:St}{H:Hp}{s:153}{a C dx:Addr}{fs:List (Str×V)}{f:Str}{v:V}{A:296}{E:XU}
theorem Ui {b:Bool}{Q:XU}(I:131)(e:H a=some (.ins C dx fs))(c:Cls X.K C)(n:NoAttr X.K C f)(l:fs.lookup f=some v)
  (h:∀ u s',Inv X pins σ H s'->RelV v u->Q u s'):wpAny 132 A (getAttr 202 f b) Q E s:=by
 obtain ⟨mA,O,r,_,_,_⟩:=WK I.hok e;obtain ⟨u,hu,ru⟩:=RelO.some_of (by rw [<- l];exact r f);exact z3m I.kIn O (c.get f) c.hd n hu (O5 ru) (h u _ (I.tok _) ru)
theorem Uj {y:V}{u:Value}{Q:Unit->Shared->Prop}(I:131)(e:H a=some (.ins C dx fs))(c:Cls X.K C)(n:NoAttr X.K C f)(hl:fs.length<1000)(ry:RelV y u)
  (h:∀ s',Inv X pins σ (upd H a (.ins C dx (wH f y fs))) s'->Q () s'):wpAny 132 A (setAttr 202 f u) Q E s:=by
 obtain ⟨mA,O,r,wi,_,ho⟩:=WK I.hok e;have hz:(fs.map (·.1)).length<=sizeLine:=by rw [Y07,sizeLine_eq];omega
 refine z3n I.kIn O c.sa c.po n.taker c.hd wi hz λ h' O' sb=>h _ ?_;have hd:∃ o,h'.get? dx=some o:=let ⟨o,_,_,e',_⟩:=O'.ns;⟨o,e'⟩;refine I.write (by rw [e];exact True.intro) (.inr ho) (λ b q hb z=>(sb.2 b hb).trans z) hd ?_;refine ⟨by rw [zr O.ne];exact ho,?_,O.ne,O'.obj,_,O'.ns,λ g=>?_,λ g hg=>?_⟩
 ·have:=yS f y fs;omega
 ·show RelO ((wH f y fs).lookup g) (if g=f then some u else mA g);rw [yR];by_cases q:g=f
  ·rw [if_pos q,if_pos q];exact ry
  ·rw [if_neg q,if_neg q];exact r g
 ·by_cases q:g=f
  ·rw [q];exact (yp f y fs).1
  ·refine (yp f y fs).2 g (wi g λ z=>hg ?_);show (if g=f then some u else mA g)=none;rw [if_neg q];exact z
theorem Inv.made (I:131):Inv X pins σ (upd (upd H s.heap.objs.size (.own 166)) 166 (.ins C s.heap.objs.size []))
    { s with heap:=(s.heap.push PySem.W.emptyDict).push (PySem.W.instObj C s.heap.objs.size) }:=by
  have e1:(s.heap.push PySem.W.emptyDict).get? s.heap.objs.size=some PySem.W.emptyDict:=Y0c s.heap rfl;have e2:((s.heap.push PySem.W.emptyDict).push (PySem.W.instObj C s.heap.objs.size)).get? 166=some (PySem.W.instObj C s.heap.objs.size):=by
    have:=Y0c (s.heap.push PySem.W.emptyDict) (o:=PySem.W.instObj C s.heap.objs.size) rfl
    rwa [Y1e] at this
  have e3:(s.heap.push PySem.W.emptyDict).Ns s.heap.objs.size (λ _=>none):=⟨PySem.W.emptyDict,#[],_,e1,rfl,(λ e he=>absurd he 130),λ _=>rfl⟩;have I1:=I.laid (a:=s.heap.objs.size) (o:=.own 166) (h':=s.heap.push PySem.W.emptyDict) (t':=s.toks) (λ b u q=>Y03 _ q) 175 ⟨_,e1⟩;refine I1.laid (a:=s.heap.objs.size+1) (o:=.ins C s.heap.objs.size []) (t':=s.toks) (λ b u q=>Y03 _ q) (Y41 (Y1e _ _)) ?_;have ne:s.heap.objs.size≠s.heap.objs.size+1:=Y0k (Y1p _);refine ⟨by rw [zr ne,zC],Y19 _,ne,e2,λ _=>none,(Heap.Ns1.of_empty e3).at λ o q=>Y03 _ q,λ _=>True.intro,λ y hy=>absurd rfl hy⟩
theorem z3o {prog:204}{w:World}{env:Env}{e:Expr}{f:Str}{pos:Pos}{s:153}{Q:XU}(hb:attributeBase e f env (eval e env)=eval e env)
  (h:wpAny 139 A (eval e env) (λ o s₁=>wpAny 139 A (getAttr o f true) Q E s₁) E s):wpAny 139 A (eval (.Attribute e f pos) env) Q E s :=
 Attribute_any_ h (by rw [arm_eval_Attribute,hb])
end
def zda (K:Y01)(ta:TE)(f:Str):TE:=λ σ H Q=>ta σ H λ x H1=>∃ a C dx fs v,x=.ref a/\H1 a=some (.ins C dx fs)/\Cls K C/\NoAttr K C f/\fs.lookup f=some v/\Q v H1
def zdb (K:Y01)(ta tv:TE)(f:Str):TS:=λ D σ H=>tv σ H λ y H1=>ta σ H1 λ x H2=>∃ a C dx fs,x=.ref a/\H2 a=some (.ins C dx fs)/\Cls K C/\NoAttr K C f/\fs.length<1000 /\
 D.nx σ (upd H2 a (.ins C dx (wH f y fs)))
section
variable {X:Cx}{o e value:Expr}{f:Str}{pos pos' tpos:Pos}{ta tv:TE}
theorem z7u (he:PE X e ta)(hb:attributeBase e f X.env (eval e X.env)=eval e X.env):PE X (.Attribute e f pos) (zda X.K ta f):=by
 intro pins s σ H Q I h;refine z3o hb (thn (he pins s σ H _ I h) λ u s1 ⟨x,H1,I1,rx,a,C,dx,fs,v,ex,ea,c,n,l,q⟩=>?_);subst ex;obtain rfl:u=Value.ref a:=rx;exact Ui I1 ea c n l λ u' s2 I2 ru=>⟨v,H1,I2,ru,q⟩
theorem z7v (ha:PE X o ta)(hv:PE X value tv)(hs:swapsWith value (some (.Attribute o f pos')) pos.line X.env=pure false):PS X (.Assign [.Attribute o f pos'] value pos) (zdb X.K ta tv f):=by
 intro pins s σ H D I h;refine plainObj_wpAny_Assign_Attribute (thn (hv pins s σ H _ I h) λ u s1 ⟨y,H1,I1,ry,q⟩=>thn (ha pins s1 σ H1 _ I1 q) λ ov s2 ⟨x,H2,I2,rx,a,C,dx,fs,ex,ea,c,n,l,q2⟩=>?_) hs;subst ex;obtain rfl:ov=Value.ref a:=rx;exact Uj I2 ea c n l ry λ s3 I3=>⟨σ,_,I3,q2⟩
end
section
variable {X:Cx}{pins:137}{σ:St}{H:Hp}{s:153}{A:296}{E:XU}{Q:XU}{c:Value}{b:Bool}
inductive TyOf (K:Y01)(H:Hp):V->Value->Prop where
 | non:TyOf K H .non (.type "NoneType")
 | bl (x:Bool):TyOf K H (.bl x) (.type "bool")
 | int (i:Int):TyOf K H 209 (.type "int")
 | str (x:Str):TyOf K H 172 (.type "str")
 | flt (x:UInt64):TyOf K H (.flt x) (.type "float")
 | lst {a:Addr}{xs:193} (e:H a=some 195):TyOf K H 202 (.type "list")
 | frz {a:Addr}{o:Obj}{xs:193} (e:H a=some (.frz o 195)):TyOf K H 202 (.type "list")
 | tup {a:Addr}{xs:193} (e:H a=some 241):TyOf K H 202 (.type "tuple")
 | dK {a:Addr}{kvs:173} (e:H a=some 177):TyOf K H 202 (.type "dict")
 | dT {a:Addr}{kvs:List (List Key×V)} (e:H a=some (.dT kvs)):TyOf K H 202 (.type "dict")
 | ins {a C dx:Addr}{fs:List (Str×V)} (e:H a=some (.ins C dx fs)) (cl:Cls K C) (ha:PySem.W.findIn K (.ref C) "__class__"=some (some 246))
   (hn:PySem.W.specialIn K 246 "__get__"=some (some (.builtin "getset_descriptor.__get__"))) (htk:PySem.W.takesIn K 246=some true)
   (hm:PySem.W.mroIn K C (.type "object")=some true):TyOf K H 202 (.ref C)
theorem jQ {x:V}{u t:Value}(I:131)(rx:RelV x u)(ty:TyOf X.K H x t)(e:PySem.W.kitOne X.K t c=some b)(h:∀ tk,Q (.bool b) { s with toks:=tk }) :
  wpAny 132 A (call (.builtin "isinstance") [u,c]) Q E s:=by
 cases ty with
 | non=>cases (show u=Value.none from rx);exact Y18 PySem.W.kitx_none I.kIn True.intro e (λ z=>nomatch z) h
 | bl y=>cases (show u=Value.bool y from rx);exact Y18 PySem.W.kitx_bool I.kIn True.intro e (λ z=>nomatch z) h
 | int i=>obtain ⟨t,q⟩:=(show ∃ t,u=Value.int i t from rx);cases q;exact Y18 PySem.W.kitx_int I.kIn True.intro e (λ z=>nomatch z) h
 | str y=>obtain ⟨t,q⟩:=(show ∃ t,u=Value.str y t from rx);cases q;exact Y18 PySem.W.kitx_str I.kIn True.intro e (λ z=>nomatch z) h
 | flt y=>obtain ⟨t,q⟩:=(show ∃ t,u=Value.float y t from rx);cases q;exact Y18 PySem.W.kitx_float I.kIn True.intro e (λ z=>nomatch z) h
 | @lst a xs ea =>
  cases (show u=Value.ref a from rx);obtain ⟨_,_,n,_,h1⟩:=(show ObjOk X.prog X.w H s.heap a 195 from I.hok a _ ea);exact Y18 Y39 I.kIn ⟨_,h1,rfl⟩ e 275 h
 | @frz a ob xs ea =>
  cases (show u=Value.ref a from rx);obtain ⟨_,_,_,n,_,h1⟩:=(show ObjOk X.prog X.w H s.heap a (.frz ob 195) from I.hok a _ ea);exact Y18 Y39 I.kIn ⟨_,h1,rfl⟩ e 275 h
 | @tup a xs ea =>
  cases (show u=Value.ref a from rx);obtain ⟨_,_,_,p⟩:=(show ObjOk X.prog X.w H s.heap a 241 from I.hok a _ ea);obtain ⟨o,h1,h2,_⟩:=p;exact Y18 PySem.W.kitx_tuple I.kIn ⟨o,h1,h2⟩ e 275 h
 | @dK a kvs ea =>
  cases (show u=Value.ref a from rx);obtain ⟨_,_,vs,_,p⟩:=(show ObjOk X.prog X.w H s.heap a 177 from I.hok a _ ea);obtain ⟨o,es,ep,h1,h2,_⟩:=p;exact Y18 Y3x I.kIn ⟨o,h1,h2.1⟩ e 275 h
 | @dT a kvs ea =>
  cases (show u=Value.ref a from rx);obtain ⟨_,_,xs,_,o,es,ep,h1,h2,_⟩:=(show ObjOk X.prog X.w H s.heap a (.dT kvs) from I.hok a _ ea);exact Y18 Y3x I.kIn ⟨o,h1,h2.1⟩ e 275 h
 | @ins a C dx fs ea cl ha hn htk hm =>
  cases (show u=Value.ref a from rx);obtain ⟨mA,O,_⟩:=WK I.hok ea;obtain ⟨od,J,_⟩:=O.look;exact Y18 (PySem.W.kitx_own (cl.get _) cl.hd ha hn htk hm) I.kIn J e 275 h
end
structure Room (k:Nat)(A:296):Prop where
 hd:A.handled=none
 dp:A.depth+3*k+5<recursionLimit
 un:A.units+16*k+200<cLine
theorem Room.mono {j k:Nat}{A:296}(r:Room k A)(h:j<=k):Room j A:=⟨r.hd,by have:=r.dp;omega,by have:=r.un;omega⟩
theorem Room.deeper {k:Nat}{A:296}(r:Room (k+1) A)(env:Env):Room k (A.deeper env) :=
 ⟨r.hd,by have:=r.dp;show A.depth+1+3*k+5<_;omega,by have:=r.un;show A.units+3+16*k+200<_;omega⟩
theorem Uk {A:296}{C:Addr}{us:XV}{kw:List (Str×Value)}:(A.under 298).depth=A.depth+1:=by
 first | rfl | simp [Around.under,Code.weight,Code.isCreation,Code.isGuard,Code.isCaller,Code.frames,Code.isFrame,guardIds]
theorem Ul {A:296}{C:Addr}{us:XV}{kw:List (Str×Value)}:(A.under 298).units=A.units+1:=by
 first | rfl | simp [Around.under,Code.cUnits,Code.frames,Code.isFrame]
theorem Room.make {k:Nat}{A:296}(r:Room (k+1) A)(C:Addr)(us:XV)(kw:List (Str×Value)):Room k (A.under 298) :=
 ⟨r.hd,by have:=r.dp;rw [Uk];omega,by have:=r.un;rw [Ul];omega⟩
theorem Room.depth {k:Nat}{A:296}(r:Room k A):A.depth<recursionLimit:=by have:=r.dp;omega
theorem Room.units {k:Nat}{A:296}(r:Room k A):A.units+64<cLine:=by have:=r.un;omega
def zdc:TA:=λ _ H Q=>Q [] H
def Bt (ta:TE)(tr:TA):TA:=λ σ H Q=>ta σ H λ x H1=>tr σ H1 λ xs H2=>Q (x::xs) H2
section
variable {X:Cx}{e:Expr}{es:288}{te:TE}{t:TA}{pos:Pos}
theorem j9:PA X [] zdc:=λ _ _ _ _ H Q I h=>Calls.spliced_nil ⟨[],H,I,.nil,h⟩
theorem zY (ha:PE X e te)(hr:PA X es t)(hs:starEach (e::es) X.env=284::starEach es X.env:=by rfl):PA X (e::es) (Bt te t):=by
 intro pos pins s σ H Q I h;rw [hs];show wpAny _ _ (spliced (284::backTo pos (starEach es X.env))) _ _ s;refine Calls.spliced_cons (thn 229 λ u s1 ⟨x,H1,I1,r1,q1⟩=>?_);exact thn (hr pos pins s1 σ H1 _ I1 q1) λ us s2 ⟨xs,H2,I2,r2,q2⟩=>⟨x::xs,H2,I2,.cons r1 r2,q2⟩
def zdd (t:TA):TE:=λ σ H Q=>t σ H λ xs H1=>xs.length<=sizeLine/\∀ p,H1 p=none->Q (.ref p) (upd H1 p 241)
def zde (t:TA):TE:=λ σ H Q=>t σ H λ xs H1=>xs.length<=sizeLine/\∀ p,H1 p=none->Q (.ref p) (upd H1 p 195)
theorem Bu {x1}(h:PA X es t):PE X (.Tuple es x1 pos) (zdd t):=by
 intro pins s σ H Q I hq;refine wpAny_Tuple_spliced (thn (h pos pins s σ H _ I hq) λ us s1 ⟨xs,H1,I1,r,z,q⟩=>⟨by rw [<- r.length];exact z,?_⟩);have hf:=I1.hok.fresh 175;refine ⟨.ref s1.heap.objs.size,upd H1 s1.heap.objs.size 241,I1.laid (λ b u e=>Y03 _ e) 175 ?_,rfl,q _ hf⟩;exact ⟨z,us,r,⟨_,Y0c _ rfl,rfl,_,rfl⟩⟩
theorem Um (h:PA X es t):PE X (.List es pos) (zde t):=by
 intro pins s σ H Q I hq;refine wpAny_List_spliced (thn (h pos pins s σ H _ I hq) λ us s1 ⟨xs,H1,I1,r,z,q⟩=>⟨by rw [<- r.length];exact z,?_⟩);have hf:=I1.hok.fresh 175;refine ⟨.ref s1.heap.objs.size,upd H1 s1.heap.objs.size 195,I1.laid (λ b u e=>Y03 _ e) 175 ?_,rfl,q _ hf⟩;exact ⟨z,us,0,r,Y0c _ rfl⟩
end
abbrev Sp:=List V->Hp->VK->XK->Prop
abbrev CXT:=List Env->Hp->Shared->XK->Value->Shared->Prop
structure Env0 (P:204)(w:World)(K:Y01)(mg:XJ)(base:Heap)(A:296)(outer:List Env)(s:153)(H:Hp):Prop where
 frames:A.frames=some outer
 mod:Mod K mg base
 bs:∀ b o,base.get? b=some o->s.heap.get? b=some o/\H b=none
 bsz:base.objs.size<=s.heap.objs.size
 funs:s.heap.FunFrames base outer
 frf:∀ b∈frs outer,H b=none
 hok:HOk P w H s.heap
 bare:AllBare s.gens
def CE (outer:List Env)(P:204)(w:World)(H:Hp)(s:153)(Q:VK)(u:Value)(s':153):Prop :=
 ∃ v H',s'.os=s.os/\AllBare s'.gens/\Un (frs outer) [] H H' s.heap s'.heap/\HOk P w H' s'.heap/\RelV v u/\Q v H'
def CR (CX:CXT)(outer:List Env)(P:204)(w:World)(H:Hp)(s:153)(Q:VK)(E:XK)(r:Result)(s':153):Prop :=
 match r with
 | .ok (.ret u)=>CE outer P w H s Q u s'
 | .ok _=>False
 | .error e=>CX outer H s E e s'
structure FnOk (P:204)(w:World)(K:Y01)(mg:XJ)(base:Heap)(CX:CXT)(k:Nat)(f:Addr)(fd:FuncData)(ps:XQ)(sp:Sp):Prop where
 len:∀ vs H Q E,sp vs H Q E->vs.length=ps.length
 run:∀ (A:296) (outer:List Env) (s:153) (H:Hp) (args:Args) (us:XV) (vs:193) (Q:VK) (E:XK),Room k A->Env0 P w K mg base A outer s H->BindsTo s fd args (ps.zip us)->Vals vs us->sp vs H Q E ->
  codeAny (model P w) A (.call 269 args) (CR CX outer P w H s Q E) s
theorem Env0.make {P:204}{w:World}{K:Y01}{mg:XJ}{base:Heap}{A:296}{outer:List Env}{s:153}{H:Hp}(e:Env0 P w K mg base A outer s H)(C:Addr)(us:XV)(kw:List (Str×Value)) :
  Env0 P w K mg base (A.under 298) outer s H:=⟨by first | exact e.frames | (simpa [Around.under,Code.envs,Code.isFrame,pushEnvs] using e.frames),e.mod,e.bs,e.bsz,e.funs,e.frf,e.hok,e.bare⟩
section
variable {X:Cx}{pins:137}{σ:St}{H:Hp}{s s':153}
theorem Inv.env0 (I:131):Env0 X.prog X.w X.K X.mg X.base X.A X.stack s H :=
 ⟨I.ok.frames,I.ok.mod,I.bs,Y0y I.ok.bsz I.sz,I.stack,I.stkFree,I.hok,I.bare⟩
theorem Inv.after {Q:VK}{u:Value}(I:131)(h:CE X.stack X.prog X.w H s Q u s'):EP X pins σ Q u s':=by
 obtain ⟨v,H',os,bare,un,hok,r,q⟩:=h;obtain ⟨hh,g,d,t,os'⟩:=s';obtain rfl:os'=s.os:=os;exact ⟨v,H',I.call un hok bare (λ b z=>absurd z 130),r,q⟩
end
def Binds (K:Y01)(fd:FuncData)(ps:XQ)(ds:XV):Prop :=
 ∀ (s:153) (us:XV),K.In s.heap->(us++ds).length=ps.length->BindsTo s fd ⟨us,[]⟩ (ps.zip (us++ds))
theorem Binds.all {K:Y01}{fd:FuncData}{ps:XQ}(h:∀ us:List Value,us.length=ps.length->bindArgs fd ⟨us,[]⟩=pure (ps.zip us)):Binds K fd ps []:=λ s us _ hl=>by
 rw [Y0v] at hl ⊢;exact .of_eq (h us hl)
def z7w (CX:CXT)(X:Cx)(E:XK):Prop:=∀ (pins:137) (σ:St) (H:Hp) (s:153) (e:Value) (s':153),Inv X pins σ H s->CX X.stack H s E e s'->X.xe e s'
section
variable {X:Cx}{CX:CXT}{k:Nat}{f C:Addr}{fd:FuncData}{ps:XQ}{sp:Sp}{dvs:193}{ds:XV}{E:XK}{x m:Str}{p pos apos:Pos}{e o:Expr}{es:288}{ta:TE}{t:TA}
theorem z7x {pins:137}{σ:St}{H:Hp}{s:153}{Q:VK}{us:XV}{vs:193}(F:FnOk X.prog X.w X.K X.mg X.base CX k f fd ps sp)(hr:Room k X.A)(hb:Binds X.K fd ps ds)(hd:Vals dvs ds)(hx:z7w CX X E)
  (I:131) (r:Vals vs us) (h:sp (vs++dvs) H Q E):wpAny 132 X.A (call 269 us) 231 X.xe s:=by
 have r2:Vals (vs++dvs) (us++ds):=r.append hd;have hl:(us++ds).length=ps.length:=by rw [<- r2.length];exact F.len _ _ _ _ h
 refine wpAny_call (codeAny_mono (F.run X.A X.stack s H ⟨us,[]⟩ (us++ds) (vs++dvs) Q E hr I.env0 (hb s us I.kIn hl) r2 h) λ r s' hq=>?_);cases r with
 | error e=>exact hx pins σ H s e s' I hq
 | ok fl =>
  cases fl with
  | ret u=>exact I.after hq
  | next=>exact False.elim hq
  | brk=>exact False.elim hq
  | cont=>exact False.elim hq
structure Mk (K:Y01)(C f:Addr):Prop where
 makes:PySem.W.makesIn K C=true
 init:PySem.W.findIn K (.ref C) "__init__"=some (some 269)
 fn:PySem.W.isFn K 269=true
 kp:PySem.W.keepIn K (.ref C)=true
end
section
variable {X:Cx}{CX:CXT}{k:Nat}{f C:Addr}{fd:FuncData}{ps ks:XQ}{sp:Sp}{E:XK}{x m:Str}{p pos apos kpos:Pos}{e o:Expr}{es:288}{kws:List Keyword}{te ta:TE}{t tk:TA}{nm:XX}
structure KBinds (K:Y01)(fd:FuncData)(ps ks:XQ)(g:List Value->List Value->List Value)(gV:List V->List V->List V):Prop where
 to:∀ (s:153) (us ws:XV),K.In s.heap->(g us ws).length=ps.length->BindsTo s fd ⟨us,ks.zip ws⟩ (ps.zip (g us ws))
 rel:∀ {vs:193}{us:XV}{zs:193}{ws:XV},Vals vs us->Vals zs ws->Vals (gV vs zs) (g us ws)
variable {g:List Value->List Value->List Value}{gV:List V->List V->List V}
end
structure FnScope (N P:XQ)(sc:Scope):Prop where
 kind:sc.kind=.function
 co:sc.isCoroutine=false
 gen:sc.isGenerator=false
 nd:N.Nodup
 pre:N.take P.length=P
 par:∀ x∈P,sc.names.lookup x=some .local\/sc.names.lookup x=some .cell
 nofree:∀ y∈sc.names,y.2≠.free
theorem JV {kindOf:Str->Option NameKind}{x:Str}:∀ {binds:List (Str×Value)}{m:XJ},(∀ v,(x,v)∉binds)->bindL kindOf binds m x=m x
 | [],_,_=>rfl
 | (n,v)::r,m,h=>by
  unfold bindL;rw [JV λ w hw=>h w (Y02 _ hw)]
  split
  ·have:x≠n:=by rintro rfl;exact h v Y04
   simp [this]
  ·rfl
theorem JW {kindOf:Str->Option NameKind}{x:Str}:∀ {binds:List (Str×Value)}{m:XJ},(∀ v,(x,v)∉binds)->bindC kindOf binds m x=m x
 | [],_,_=>rfl
 | (n,v)::r,m,h=>by
  unfold bindC;rw [JW λ w hw=>h w (Y02 _ hw)]
  split
  ·rfl
  ·have:x≠n:=by rintro rfl;exact h v Y04
   simp [this]
theorem JX {kindOf:Str->Option NameKind}{x:Str}{v:Value}:∀ {P:XQ}{vs:XV}{i:Nat}{m:XJ},P.Nodup->P[i]?=some x->vs[i]?=some v->kindOf x=some .local ->
  bindL kindOf (P.zip vs) m x=some v
 | [],_,_,_,_,h,_,_=>by simp at h
 | _::_,[],_,_,_,_,h,_=>by simp at h
 | p::P,w::vs,0,m,nd,h1,h2,hk=>by
  simp at h1 h2;subst h1;subst h2;show bindL kindOf ((p,w)::P.zip vs) m p=_;unfold bindL;rw [JV λ v hv=>(Y12.mp nd).1 (List.of_mem_zip hv).1,if_pos hk];simp
 | p::P,w::vs,i+1,m,nd,h1,h2,hk=>by
  show bindL kindOf ((p,w)::P.zip vs) m x=_;unfold bindL;exact JX (Y12.mp nd).2 (by simpa using h1) (by simpa using h2) hk
theorem JY {kindOf:Str->Option NameKind}{x:Str}{v:Value}:∀ {P:XQ}{vs:XV}{i:Nat}{m:XJ},P.Nodup->P[i]?=some x->vs[i]?=some v->kindOf x≠some .local ->
  bindC kindOf (P.zip vs) m x=some v
 | [],_,_,_,_,h,_,_=>by simp at h
 | _::_,[],_,_,_,_,h,_=>by simp at h
 | p::P,w::vs,0,m,nd,h1,h2,hk=>by
  simp at h1 h2;subst h1;subst h2;show bindC kindOf ((p,w)::P.zip vs) m p=_;unfold bindC;rw [JW λ v hv=>(Y12.mp nd).1 (List.of_mem_zip hv).1,if_neg hk];simp
 | p::P,w::vs,i+1,m,nd,h1,h2,hk=>by
  show bindC kindOf ((p,w)::P.zip vs) m x=_;unfold bindC;exact JY (Y12.mp nd).2 (by simpa using h1) (by simpa using h2) hk
def start (N:XQ)(vs:193):St:=vs.map some++List.replicate (N.length-vs.length) none
def Uo (CX:CXT)(P:204)(w:World)(K:Y01)(mg:XJ)(base:Heap)(N:XQ)(qual:Str)(scope:Scope)(f:Addr)(cd:Value)(A:296)(outer:List Env)(s:153)(H:Hp)(E:XK):Cx where
 prog:=P
 w:=w
 K:=K
 mg:=mg
 base:=base
 A:=A.deeper (envOfC qual scope s.heap.objs.size f cd)
 N:=N
 s₀:=s
 H₀:=H
 env:=envOfC qual scope s.heap.objs.size f cd
 outer:=outer
 stack:=envOfC qual scope s.heap.objs.size f cd::outer
 ex:=[]
 calm:=true
 fn:=λ _=>true
 pn:=[]
 xe:=λ e s'=>wpAny (model P w) (A.deeper (envOfC qual scope s.heap.objs.size f cd)) (leaving (envOfC qual scope s.heap.objs.size f cd) e) (λ _ s''=>CX outer H s E e s'') (λ e' s''=>CX outer H s E e' s'') s'
theorem Yd {sc:Scope}{n:Nat}{x:Str}(h:sc.names.lookup x=some .cell):∃ c,(cellsFrom n sc.names []).lookup x=some c:=by
 have q:=Y24 sc.names n [] (.inl h);exact Y2k.mp q
theorem O6 {CX:CXT}{P:204}{w:World}{K:Y01}{mg:XJ}{base:Heap}{N ps:XQ}{qual:Str}{scope:Scope}{f:Addr}{cd:Value}{A:296}{outer:List Env}{s s1:153}{H:Hp}{E:XK}{us:XV}{vs:193}
  (S:FnScope N ps scope) (hd:212) (e0:Env0 P w K mg base A outer s H) (hl:vs.length=ps.length) (r:Vals vs us)
  (x:InCallC s s.heap.objs.size (bindL (envOfC qual scope s.heap.objs.size f cd).kindOf (ps.zip us) λ _=>none) (cellsFrom 166 scope.names []) (bindC (envOfC qual scope s.heap.objs.size f cd).kindOf (ps.zip us) λ _=>none) s1) :
  Inv (Uo CX P w K mg base N qual scope f cd A outer s H E) [] (start N vs) H s1:=by
 have hpl:ps.length<=N.length:=by have:=congrArg List.length S.pre;rw [Y1t] at this;omega
 obtain ⟨h1,tk,rfl,hk⟩:=x.done;have noA:∀ b:Addr,b∉(Uo CX P w K mg base N qual scope f cd A outer s H E).ex:=λ b z=>absurd (show b∈([]:List Addr) from z) 130;refine ⟨⟨e0.mod,S.kind,rfl,rfl,Y0b _,λ y z c h1 h2=>?_,λ y hy=>?_,λ y c _ h=>?_,λ _=>hd,Around.frames_deeper e0.frames,.inr 210,λ b z=>absurd z (noA b),e0.bs,e0.bsz,λ b _ _=>noA b,λ b z=>absurd z (noA b),e0.funs,e0.frf⟩,
  rfl,e0.bare,Un.kept hk,⟨_,x.toInCall.ns,λ i y v h1 h2 h3=>?_⟩,λ y c h=>⟨_,x.cell y c h⟩,e0.hok.fresh 175,λ y c h=>?_,λ p hp=>absurd (show p∈([]:List (Addr×Obj)) from hp) 130,e0.hok.kept hk,?_⟩
 ·exact name_of_addr x.apart (Y11 h1) (Y11 h2)
 ·have hy:scope.names.lookup y=some .cell\/scope.names.lookup y=some .free:=hy;rcases hy with hy | hy
  ·exact Yd hy
  ·exact absurd rfl (S.nofree _ (Y11 hy))
 ·exact Y21 (x.above y c (Y11 h))
 ·have hi:i<vs.length:=by
   unfold start at h2;by_cases hi:i<vs.length
   ·exact hi
   ·rw [Y0q (by simpa using hi)] at h2;rw [List.getElem?_replicate] at h2;split at h2<;>cases h2
  have ha:vs[i]?=some v:=by
   unfold start at h2;rw [Y10 (by simpa using hi),Y0r] at h2;cases e:vs[i]? with
   | none=>rw [e] at h2;cases h2
   | some a=>rw [e] at h2;cases h2;rfl
  obtain ⟨u,hu,rv⟩:=r.get ha;have hp:ps[i]?=some y:=by
   rw [<- S.pre,List.getElem?_take_of_lt 128];exact h1
  have ndP:ps.Nodup:=by rw [<- S.pre];exact S.nd.sublist (List.take_sublist _ _)
  refine ⟨u,rv,?_⟩;rcases S.par y (Y0z hp) with k | k
  ·exact .inl ⟨k,JX ndP hp hu k⟩
  ·obtain ⟨c,e⟩:=Yd (n:=s.heap.objs.size+1) k;refine .inr ⟨.inl k,c,e,?_⟩;have q:=x.cell y c e;rw [JY ndP hp hu (by show scope.names.lookup y≠_;rw [k];decide)] at q;exact q
 ·exact e0.hok.fresh (Y21 (x.above y c (Y11 h)))
 ·unfold start;show _=N.length;rw [Y05,Y07,List.length_replicate];omega
theorem zaz {CX:CXT}{P:204}{w:World}{K:Y01}{mg:XJ}{base:Heap}{k:Nat}{f:Addr}{name qual:Str}{params:Arguments}{body:List Stmt}{scope:Scope}{dV kV doc pm cdv ct oc:Value}{an od:Option Addr}
  {osl:211}{N ps:XQ}{sp:Sp} (lk:K.lookup f=some ⟨oc,od,.func (PySem.W.fnOf name qual params body scope dV kV doc pm an cdv ct),osl⟩) (hcd:PySem.W.codeIn K cdv qual=true) (S:FnScope N ps scope)
  (len:∀ vs H Q E,sp vs H Q E->vs.length=ps.length)
  (hbody:∀ (A:296) (outer:List Env) (s:153) (H:Hp) (vs:193) (Q:VK) (E:XK),Room k (A.deeper (envOfC qual scope s.heap.objs.size f cdv))->sp vs H Q E ->
   ∃ t,PSs (Uo CX P w K mg base N qual scope f cdv A outer s H E) body t/\t { nx:=λ _ H'=>Q .non H',rt:=Q } (start N vs) H) :
  FnOk P w K mg base CX (k+1) f (PySem.W.fnOf name qual params body scope dV kV doc pm an cdv ct) ps sp:=by
 refine ⟨len,λ A outer s H args us vs Q E hr e0 hb r hsp=>?_⟩;have hl:=len _ _ _ _ hsp;have KX:K.In s.heap:=e0.mod.kin.keeps λ b o e=>(e0.bs b o e).1;have lim:s.heap.NoLimit:=e0.mod.nolimit.keeps λ b o e=>(e0.bs b o e).1;have hkind:∀ y∈ps.zip us,scope.names.lookup y.1=some .local\/(scope.names.lookup y.1=some .cell/\((cellsFrom 166 scope.names []).lookup y.1).isSome=true):=λ ⟨n,v⟩ hy=>by
  rcases S.par n (List.of_mem_zip hy).1 with q | q
  ·exact .inl q
  ·exact .inr ⟨q,Y24 _ _ _ (.inl q)⟩
 refine codeAny_call_function hr.depth (KX _ _ lk) rfl S.co S.gen rfl (PySem.W.codeRec_of KX hcd) (hb _ _ _ _ ?_);refine wpAny_newFunctionEnv_cells S.kind hkind λ env he s1 x=>?_;subst he;refine ⟨lim.keeps x.toInCall.keep,codeAny_func ?_⟩;obtain ⟨t,ht,hq⟩:=hbody A outer s H vs Q E (hr.deeper _) hsp;have I:Inv (Uo CX P w K mg base N qual scope f cdv A outer s H E) [] (start N vs) H s1:=O6 S hr.hd e0 hl r x;refine wpAny_mono (ht [] s1 (start N vs) H _ I hq) (λ fl s' hs=>?_) λ e s' hs=>hs;have fin:∀ {σ':St}{H':Hp}{v:V}{u:Value},Inv (Uo CX P w K mg base N qual scope f cdv A outer s H E) [] σ' H' s'->RelV v u->Q v H'->CE outer P w H s Q u s' :=
  λ {σ' H' v u} J rv q=>⟨v,H',J.os,J.bare,J.base,J.hok,rv,q⟩
 cases fl with
 | ret u =>
  obtain ⟨v,σ',H',J,rv,q⟩:=hs;exact fin J rv q
 | next =>
  obtain ⟨σ',H',J,q⟩:=hs;exact fin (v:=V.non) (u:=Value.none) J rfl q
 | brk =>
  obtain ⟨_,_,_,q⟩:=hs;exact False.elim q
 | cont =>
  obtain ⟨_,_,_,q⟩:=hs;exact False.elim q
section
variable {X:Cx}{x:Str}{p pos:Pos}{e:Expr}{es:288}{t:TA}{id T:String}{r:List V->Hp->VK->Prop}
def tCB (r:List V->Hp->VK->Prop)(t:TA):TE:=λ σ H Q=>t σ H λ vs H1=>r vs H1 Q
theorem wz (hc:jh X (.builtin id) r) (hg:Gl X x) (hm:X.mg x=none) (hv:bootBuiltins x=some (.builtin id)) (ha:PA X (e::es) t) (hn:x≠"__name__":=by decide) (hdb:159=false:=by decide)
  (he:starEach (e::es) X.env=284::starEach es X.env:=by rfl) (hpl:(backTo pos (starEach es X.env)).any (·.1)=false:=by rfl):PE X (.Call (.Name x p) (e::es) [] pos) (tCB r t):=by
 intro pins s σ H Q I h;refine wpAny_Call_Name_kw (yo I hg hm hv ?_ hn hdb);exact Y3z (thn (ha pos pins s σ H _ I h) λ us s1 ⟨vs,H1,I1,r1,q1⟩=>hc pins s1 σ H1 vs us Q I1 r1 q1) he hpl
theorem jR (hc:jh X (.type T) r) (hg:Gl X x) (hm:X.mg x=none) (hv:bootBuiltins x=some (.type T)) (ha:PA X (e::es) t) (hn:x≠"__name__":=by decide) (hdb:159=false:=by decide)
  (he:starEach (e::es) X.env=284::starEach es X.env:=by rfl) (hpl:(backTo pos (starEach es X.env)).any (·.1)=false:=by rfl):PE X (.Call (.Name x p) (e::es) [] pos) (tCB r t):=by
 intro pins s σ H Q I h;refine wpAny_Call_Name_kw (yo I hg hm hv ?_ hn hdb);exact Y33 (thn (ha pos pins s σ H _ I h) λ us s1 ⟨vs,H1,I1,r1,q1⟩=>hc pins s1 σ H1 vs us Q I1 r1 q1) he hpl
end
end L2
namespace HT
open PySem PyProof.Rows
section
variable {prog:204}{w:World}{A:296}{E:XU}{s:153}
theorem cat_tup {t b:Addr}{vs ws:XV}{Q:XU}(ht:IsTup s.heap t vs.toArray)(hb:IsTup s.heap b ws.toArray)(hv:vs≠[])
  (h1:ws=[]->Q (.ref t) s) (h2:ws≠[]->Q 178 { s with heap:=s.heap.push { cls:=.type "tuple",data:=.seq (vs++ws).toArray } })
  (hsz:vs.length+ws.length<=sizeLine):wpAny 139 A (binaryOp .Add (.ref t) (.ref b)) Q E s:=by
 obtain ⟨⟨cls,dd,data,sl⟩,ho,hc,n,hd⟩:=id ht;obtain ⟨⟨cls2,dd2,data2,sl2⟩,ho2,hc2,n2,hd2⟩:=id hb;simp only at hc hd hc2 hd2;subst hc hd hc2 hd2;have e:vs.toArray++ws.toArray=(vs++ws).toArray:=by simp
 by_cases hw:ws=[]
 ·exact concat_meets ⟨_,ho,rfl⟩ ⟨_,ho2,rfl⟩ noFill_tuple_add seq_tuple_add Y3j Y3e (Y3a _ _)
   (tuple_addW1 t b vs.toArray ws.toArray n n2 dd dd2 sl sl2 (by simpa using hv) (by simp [hw])) ⟨ho,ho2,h1 hw⟩
 ·refine concat_meets ⟨_,ho,rfl⟩ ⟨_,ho2,rfl⟩ noFill_tuple_add seq_tuple_add Y3j Y3e (Y3a _ _)
   (tuple_addW2 t b vs.toArray ws.toArray n n2 dd dd2 sl sl2 (by simpa using hv) (by simpa using hw) (by rw [Y0f,Y0f];exact hsz)) ⟨ho,ho2,?_⟩
  rw [e];exact h2 hw
def sIx (n d:Nat):Option Int->Nat
 | none=>d
 | some v=>if v<0 then (v+(n:Int)).toNat else min v.toNat n
theorem Zr (n d:Nat):sIx n d none=d:=rfl
theorem z7y (n d:Nat)(hd:d<=n)(o:281):sIx n d o<=n:=by
 cases o with
 | none=>exact hd
 | some v =>
  show (if v<0 then (v+(n:Int)).toNat else min v.toNat n)<=n;by_cases hv:v<0
  ·rw [if_pos hv];omega
  ·rw [if_neg hv];exact Nat.min_le_right _ _
theorem Vs (v:Int)(n d:Nat):(if v<0 then max (v+(n:Int)) 0 else min v (n:Int))=((sIx n d (some v):Nat):Int):=by
 show (if v<0 then max (v+(n:Int)) 0 else min v (n:Int))=(((if v<0 then (v+(n:Int)).toNat else min v.toNat n):Nat):Int);by_cases hv:v<0
 ·simp only [if_pos hv];omega
 ·simp only [if_neg hv];omega
theorem Uq (lo hi:281)(n:Nat):Builtin.Slice.sliceAdjust lo hi 1 (n:Int)=(((sIx n 0 lo:Nat):Int),((sIx n n hi:Nat):Int)):=by
 have h1:¬ ((1:Int)<0):=by omega
 unfold Builtin.Slice.sliceAdjust;simp only [h1,if_false];refine Prod.ext ?_ ?_
 ·cases lo with
  | none=>rfl
  | some v=>exact Vs v n 0
 ·cases hi with
  | none=>rfl
  | some v=>exact Vs v n n
theorem Ur (i j:Nat):Builtin.Slice.slicePlaces (i:Int) (j:Int) 1=j-i:=by
 unfold Builtin.Slice.slicePlaces;have h1:(1:Int) > 0:=by omega
 simp only [h1,if_true,Int.ediv_one]
 split<;>omega
theorem Zs {v:Value}{o:281}{Q:Option Int->Shared->Prop}(p:IsPart v o)(h:Q o s):wpAny 139 A (Builtin.Slice.slicePartIndex v) Q E s:=by
 cases p with
 | none=>exact slicePart_none h
 | int i t=>exact slicePart_int h
theorem wA {sl:Addr}{vl vu:Value}{lo hi:281}{n:Nat}{Q:Int×Int×Nat->Shared->Prop}(hs:s.heap.IsSliceOf sl vl vu .none)(pl:IsPart vl lo)(pu:IsPart vu hi)
  (h:Q (((sIx n 0 lo:Nat):Int),1,sIx n n hi-sIx n 0 lo) s):wpAny 139 A (Builtin.Slice.sliceApplied (.ref sl) (pure (n:Int))) Q E s:=by
 obtain ⟨os,hos,hcs,hds⟩:=id hs;unfold Builtin.Slice.sliceApplied Builtin.Slice.sliceFields;refine wpAny_bind (wpAny_bind (wpAny_field hos hds rfl (wpAny_bind (wpAny_field hos hds rfl (wpAny_bind (wpAny_field hos hds rfl (wpAny_pure ?_)))))));refine wpAny_bind (slicePart_none ?_);show wpAny _ _ (if ((1:Int)==0)=true then _ else _) _ _ s;rw [if_neg 127];refine wpAny_bind (Zs pl (wpAny_bind (Zs pu (wpAny_bind (wpAny_pure ?_)))));show wpAny _ _ (match Builtin.Slice.sliceAdjust lo hi 1 (n:Int) with | (lo,hi)=>pure (lo,(1:Int),Builtin.Slice.slicePlaces lo hi 1)) _ _ s
 rw [Uq lo hi n];show wpAny _ _ (pure (((sIx n 0 lo:Nat):Int),(1:Int),Builtin.Slice.slicePlaces ((sIx n 0 lo:Nat):Int) ((sIx n n hi:Nat):Int) 1)) _ _ s;rw [Ur];exact wpAny_pure h
theorem Bv (xs:Array Value)(i k:Nat):((List.range k).filterMap λ (m:Nat)=>xs[((i:Int)+(m:Int)*1).toNat]?).toArray=((xs.toList.drop i).take k).toArray:=by
 have e:(λ (m:Nat)=>xs[((i:Int)+(m:Int)*1).toNat]?)=λ m=>xs[i+m]?:=by
  funext m
  have:((i:Int)+(m:Int)*1).toNat=i+m:=by omega
  rw [this]
 rw [e]
 have:=pick_run xs i k
 rw [List.filterMap_map] at this;have e2:((λ x=>xs[x]?)∘λ x=>i+x)=λ m=>xs[i+m]?:=rfl;rw [e2] at this;rw [this]
theorem getItem_tuple_cut {t sl:Addr}{items:Array Value}{vl vu:Value}{lo hi:281}{Q:XU}(ht:IsTup s.heap t items)(hs:s.heap.IsSliceOf sl vl vu .none)(pl:IsPart vl lo)(pu:IsPart vu hi)
  (hw:¬ (sIx items.size 0 lo=0/\sIx items.size items.size hi=items.size))
  (h:Q 178 { s with heap:=s.heap.push { cls:=.type "tuple",data:=.seq ((items.toList.drop (sIx items.size 0 lo)).take (sIx items.size items.size hi-sIx items.size 0 lo)).toArray } })
  (hsz:items.size<=sizeLine):wpAny 139 A (getItem (.ref t) (.ref sl)) Q E s:=by
 have htake:sizeOk (.seq ((items.toList.drop (sIx items.size 0 lo)).take (sIx items.size items.size hi-sIx items.size 0 lo)).toArray):=by
  show ((items.toList.drop (sIx items.size 0 lo)).take (sIx items.size items.size hi-sIx items.size 0 lo)).toArray.size<=sizeLine;rw [Y0f,Y1t,Y3i,Y1m];omega
 have hj:sIx items.size items.size hi<=items.size:=z7y _ _ 175 hi;obtain ⟨os,hos,hcs,hds⟩:=id hs;have hTs:s.TypeIs (.ref sl) "slice":=⟨os,hos,hcs⟩;unfold getItem
 try with_reducible refine wpAny_holding ?_
 first | refine wpAny_bind (wpAny_pure ?_) | skip
 refine wpAny_bind (wpAny_sequenceKey ht.typeIs 127 ?_);refine wpAny_bind (wpAny_callSpecial?_slot (name:=Str.ofString "__getitem__") ht.typeIs Y1y
  (wpAny_call_entry Y1y ht.typeIs entry_tuple_getitem ?_ (args_tuple_getitem _ _)))
 show wpAny _ _ (Builtin.Tuple.tupleItemsOf (.ref t) >>= _) _ _ s;refine wpAny_bind (tupleItemsOf_ ht ?_);refine wpAny_bind (wpAny_typeOf hTs ?_);rw [if_pos 127];refine wpAny_bind (wA hs pl pu ?_);have hno:¬ (152=true):=by
  intro q;rw [Y0l,Y0l] at q;have q1:((sIx items.size 0 lo:Nat):Int)=0:=eq_of_beq q.1.1;have q2:sIx items.size items.size hi-sIx items.size 0 lo=items.size:=eq_of_beq q.2;exact hw ⟨by omega,by omega⟩
 show wpAny _ _ (if 152=true then _ else _) _ _ s;rw [if_neg hno,Bv]
 first
  | exact wpAny_bind (m:=Builtin.Tuple.tupleExact _) (wpAny_newObj_type (wpAny_pure ⟨_,rfl,wpAny_pure h⟩) htake)
  | exact wpAny_bind (m:=Builtin.Tuple.tupleExact _) (wpAny_newObj_type (wpAny_bind (wpAny_pure (wpAny_pure ⟨_,rfl,wpAny_pure h⟩))) htake)
  | exact wpAny_bind (wpAny_bind (m:=Builtin.Tuple.tupleExact _) (wpAny_newObj_type (wpAny_pure (wpAny_pure ⟨_,rfl,wpAny_pure h⟩)) htake))
  | exact wpAny_bind (wpAny_bind (m:=Builtin.Tuple.tupleExact _) (wpAny_newObj_type (wpAny_pure ⟨_,rfl,wpAny_pure h⟩) htake))
end
end HT
namespace L2
open PySem PySem.Spec PyProof.Rows
abbrev TO:=St->Hp->(Option Int->Hp->Prop)->Prop
def PO (X:Cx)(e:Option Expr)(t:TO):Prop :=
 ∀ (pins:137) (s:153) (σ:St) (H:Hp) (Q:Option Int->Hp->Prop),Inv X pins σ H s->t σ H Q ->
  wpAny 132 X.A (evalPart e X.env) (λ u s'=>∃ o H',Inv X pins σ H' s'/\IsPart u o/\Q o H') X.xe s
def z3p:TO:=λ _ H Q=>Q none H
def zb0 (t:TE):TO:=λ σ H Q=>t σ H λ x H1=>∃ i,x=.int i/\Q (some i) H1
section
variable {X:Cx}{e:Expr}{te:TE}{lo hi:Option Expr}{tl th:TO}{pos p2:Pos}
theorem z3q:PO X none z3p:=by
 intro pins s σ H Q I h;rw [evalPart_none];exact wpAny_pure ⟨none,H,I,.none,h⟩
theorem z3r (h:PE X e te):PO X (some e) (zb0 te):=by
 intro pins s σ H Q I hw;rw [evalPart_some];refine thn (h pins s σ H _ I hw) λ u s1 ⟨x,H1,I1,r1,q1⟩=>?_;obtain ⟨i,rfl,q⟩:=q1;obtain ⟨t,rfl⟩:=r1;exact ⟨some i,H1,I1,.int i t,q⟩
def SlR (X:Cx)(r:V->Option Int->Option Int->Hp->VK->Prop):Prop :=
 ∀ (pins:137) (s:153) (σ:St) (H:Hp) (x:V) (v vl vu:Value) (lo hi:281) (sl:Addr) (Q:VK),Inv X pins σ H s->RelV x v->s.heap.IsSliceOf sl vl vu .none->IsPart vl lo->IsPart vu hi->r x lo hi H Q ->
  ∃ T id,typeLookup (.type T) "__getitem__"=pure (some (.builtin id))/\s.TypeIs v T/\wpAny 132 X.A (getItem v (.ref sl)) 231 X.xe s
def tSl (r:V->Option Int->Option Int->Hp->VK->Prop)(te:TE)(tl th:TO):TE:=λ σ H Q=>te σ H λ x H1=>tl σ H1 λ l H2=>th σ H2 λ u H3=>r x l u H3 Q
theorem Bw {r:V->Option Int->Option Int->Hp->VK->Prop}(hr:SlR X r)(he:PE X e te)(hl:PO X lo tl)(hu:PO X hi th):PE X (.Subscript e (.Slice lo hi none p2) pos) (tSl r te tl th):=by
 intro pins s σ H Q I h;refine Subscript_ (thn (he pins s σ H _ I h) λ v s1 ⟨x,H1,I1,r1,q1⟩=>?_);refine wpAny_Slice (thn (hl pins s1 σ H1 _ I1 q1) λ vl s2 ⟨l,H2,I2,pl,q2⟩=>thn (hu pins s2 σ H2 _ I2 q2) λ vu s3 ⟨u,H3,I3,pu,q3⟩=>?_);rw [evalPart_none];refine wpAny_pure ?_;have I4:Inv X pins σ H3 { s3 with heap:=s3.heap.push { cls:=.type "slice",data:=.fields #[vl,vu,.none] } }:=I3.kept (t':=s3.toks) λ b ob q=>Y03 _ q;obtain ⟨T,id,hT,ht,hg⟩:=hr pins { s3 with heap:=s3.heap.push { cls:=.type "slice",data:=.fields #[vl,vu,.none] } } σ H3 x v vl vu l u s3.heap.objs.size Q I4 r1 (Heap.IsSliceOf.new ..) pl pu q3;show wpAny 132 X.A (subscriptTail e (.Slice lo hi none p2) v (.ref s3.heap.objs.size)) 231 X.xe { s3 with heap:=s3.heap.push { cls:=.type "slice",data:=.fields #[vl,vu,.none] } };exact tail_any (ops:=[.ref s3.heap.objs.size,v]) ht hT hg (by with_unfolding_all rfl)
def O7 (xs:193)(lo hi:281):List V:=(xs.drop (HT.sIx xs.length 0 lo)).take 257
theorem yT (xs:193)(lo hi:281):(O7 xs lo hi).length<=xs.length:=by
 unfold O7;rw [Y1t,Y3i];omega
def zdf (K:Y01):V->Option Int->Option Int->Hp->VK->Prop:=λ x lo hi H Q=>∃ a xs,x=.ref a/\SqT K H a xs /\
 ¬ (HT.sIx xs.length 0 lo=0/\HT.sIx xs.length xs.length hi=xs.length)/\∀ p,H p=none->Q (.ref p) (upd H p (.tup (O7 xs lo hi)))
theorem z7z:SlR X (zdf X.K):=by
 intro pins s σ H x v vl vu lo hi sl Q I rx hs pl pu h;obtain ⟨a,xs,rfl,hx,hw,q⟩:=h;cases rx;obtain ⟨its,r,ht,hz⟩:=I.tuple hx;have hlen:its.toArray.size=xs.length:=by rw [Y0f];exact r.length.symm
 refine ⟨"tuple",_,PyProof.Rows.slot_tuple_getitem.lookup,ht.typeIs,?_⟩;refine HT.getItem_tuple_cut ht hs pl pu (by rw [hlen];exact hw) ?_ (by rw [hlen];exact hz);rw [hlen];refine ⟨.ref s.heap.objs.size,_,I.laid (λ b ob q=>Y03 _ q) 175 ?_,rfl,q _ 276⟩;exact ⟨Y0y (yT xs lo hi) hz,_,(r.drop (HT.sIx xs.length 0 lo)).take 257,IsTup.new _ _⟩
def zb1 (K:Y01):R2:=λ x y H Q=>∃ a b xs ys,x=.ref a/\y=.ref b/\SqT K H a xs/\SqT K H b ys/\xs≠[]/\xs.length+ys.length<=sizeLine /\
 (ys=[]->Q 202 H)/\(ys≠[]->∀ p,H p=none->Q (.ref p) (upd H p (.tup (xs++ys))))
theorem Vals.nil_iff {xs:193}{us:XV}(r:Vals xs us):us=[] ↔ xs=[]:=by
 cases r with
 | nil=>simp
 | cons _ _=>simp
theorem z3s:OpR X (binaryOp .Add) (zb1 X.K):=by
 intro pins s σ H x y v u Q I rx ry h;obtain ⟨a,b,xs,ys,rfl,rfl,ha,hb,hx,hz,q1,q2⟩:=h;cases rx;cases ry;obtain ⟨its,r1,p1,_⟩:=I.tuple ha;obtain ⟨its2,r2,p2,_⟩:=I.tuple hb;refine HT.cat_tup p1 p2 (λ z=>hx (r1.nil_iff.mp z)) (λ z=>⟨.ref a,H,I,rfl,q1 (r2.nil_iff.mp z)⟩) (λ z=>?_) (by rw [<- r1.length,<- r2.length];exact hz);refine ⟨.ref s.heap.objs.size,_,I.laid (λ b ob q=>Y03 _ q) 175 ?_,rfl,q2 (λ w=>z (r2.nil_iff.mpr w)) _ 276⟩;exact ⟨by rw [Y05];exact hz,_,r1.append r2,IsTup.new _ _⟩
end
def ixN (n:Nat)(i:Int):Option Nat:=if 0<=i then (if i<n then some i.toNat else none) else if -(n:Int)<=i then some (i+n).toNat else none
def atI {α:Type}(xs:List α)(i:Int):Option α:=(ixN xs.length i).bind λ j=>xs[j]?
theorem z3t {n:Nat}{i:Int}{j:Nat}(h:ixN n i=some j):seqIndex? i n=some j/\j<n/\-(n:Int)<=i/\i<n:=by
 unfold ixN at h;by_cases h0:0<=i
 ·rw [if_pos h0] at h;by_cases h1:i<n
  ·rw [if_pos h1] at h;have e:=Option.some.inj h;exact ⟨by rw [seqIndex_of h0 h1,e],by omega,by omega,h1⟩
  ·rw [if_neg h1] at h;cases h
 ·rw [if_neg h0] at h;by_cases h1:-(n:Int)<=i
  ·rw [if_pos h1] at h;have e:=Option.some.inj h;exact ⟨by rw [seqIndex_neg 128 h1,e],by omega,h1,by omega⟩
  ·rw [if_neg h1] at h;cases h
theorem WL {α:Type}{xs:List α}{i:Int}{v:α}(h:atI xs i=some v):∃ j,seqIndex? i xs.length=some j/\xs[j]?=some v/\j<xs.length/\-(xs.length:Int)<=i/\i<xs.length:=by
 unfold atI at h;cases e:ixN xs.length i with
 | none=>rw [e] at h;cases h
 | some j =>
  rw [e] at h;obtain ⟨h1,h2,h3,h4⟩:=z3t e;exact ⟨j,h1,h,h2,h3,h4⟩
theorem Vt {α:Type}{xs:List α}{j:Nat}{v:α}(h:xs[j]?=some v):atI xs (j:Int)=some v:=by
 have hj:j<xs.length:=(Y00.mp h).1;have e:ixN xs.length (j:Int)=some j:=by
  unfold ixN;rw [if_pos 128,if_pos 128];simp
 unfold atI;rw [e];exact h
def Vu (b:Expr):Prop:=∀ o i,subscripted b false o i=operate [o,i] (getItem o i)
def IxR (X:Cx)(r:R2):Prop :=
 ∀ (value slice:Expr) (pins:137) (s:153) (σ:St) (H:Hp) (x y:V) (v u:Value) (Q:VK),Inv X pins σ H s->RelV x v->RelV y u->r x y H Q ->
  subscripted slice false v u=operate [v,u] (getItem v u)->wpAny 132 X.A (subscriptTail value slice v u) 231 X.xe s
def MtR (X:Cx)(id:String)(r:V->List V->Hp->VK->Prop):Prop :=
 ∀ (pins:137) (s:153) (σ:St) (H:Hp) (x:V) (xs:193) (v:Value) (us:XV) (Q:VK),Inv X pins σ H s->RelV x v->Vals xs us->r x xs H Q ->
  wpAny 132 X.A (call (.builtin id) (v::us)) 231 X.xe s
section
variable {X:Cx}{a b:Expr}{ta tb:TE}{pos:Pos}
theorem z6c {r:R2}(hr:IxR X r)(ha:PE X a ta)(hb:PE X b tb)(hs:Vu b):PE X (.Subscript a b pos) (tOp r ta tb):=by
 intro pins s σ H Q I h;exact Subscript_ (z7l ha hb I h λ v u s2 x y H2 I2 rx ry q=>hr a b pins s2 σ H2 x y v u Q I2 rx ry q (hs _ _))
def zdg (K:Y01):R2:=λ x y H Q=>∃ p xs i v,x=.ref p/\y=.int i/\SqL K H p xs/\atI xs i=some v/\Q v H
def zdh (K:Y01):R2:=λ x y H Q=>∃ p xs i v,x=.ref p/\y=.int i/\SqT K H p xs/\atI xs i=some v/\Q v H
def zdi:R2:=λ x y H Q=>∃ z i c,x=.str z/\y=.int i/\z.length<=sizeLine/\atI z.cps.toList i=some c/\Q (.str ⟨#[c]⟩) H
theorem Vv:IxR X (zdg X.K):=by
 intro value slice pins s σ H x y v u Q I rx ry h hs;obtain ⟨p,xs,i,z,rfl,rfl,hq,he,q⟩:=h;cases rx;obtain ⟨t,rfl⟩:=ry;obtain ⟨its,r,pl,hz⟩:=I.list hq;obtain ⟨j,h1,h2,h3,h4,h5⟩:=WL he;obtain ⟨w,ew,rw'⟩:=r.get h2;have hl:=r.length;have hn:=WJ;have fin:EP X pins σ Q w s:=⟨z,H,I,rw',q⟩;by_cases h0:0<=i
 ·have hj:i.toNat=j:=by
   rw [seqIndex_of h0 h5] at h1;exact Option.some.inj h1
  exact item_listR pl.isList h0 128 (by rw [hj];simpa using ew) fin hs
 ·have hj:(i+(its.toArray.size:Int)).toNat=j:=by
   rw [seqIndex_neg 128 h4] at h1;rw [Y0f,<- hl];exact Option.some.inj h1
  exact subscriptTail_builtinR (x:=w) pl.isList.typeIs slot_list_getitem.lookup
   (wpAny_getItem_list_neg (Q:=λ r s'=>r=w/\EP X pins σ Q r s') pl.isList 128 (by rw [Y0f]<;>omega) 128 (by rw [hj];simpa using ew) ⟨rfl,fin⟩) hs
theorem z80:IxR X (zdh X.K):=by
 intro value slice pins s σ H x y v u Q I rx ry h hs;obtain ⟨p,xs,i,z,rfl,rfl,hq,he,q⟩:=h;cases rx;obtain ⟨t,rfl⟩:=ry;obtain ⟨its,r,pl,hz⟩:=I.tuple hq;obtain ⟨j,h1,h2,h3,h4,h5⟩:=WL he;obtain ⟨w,ew,rw'⟩:=r.get h2;have hl:=r.length;have hn:=WJ;have fin:EP X pins σ Q w s:=⟨z,H,I,rw',q⟩;exact subscriptTail_builtinR (x:=w) pl.typeIs slot_tuple_getitem.lookup
  (getItem_tuple (j:=j) (Q:=λ r s'=>r=w/\EP X pins σ Q r s') pl 128 128 (by rw [Y0f,<- hl];exact h1) (by simpa using ew) ⟨rfl,fin⟩) hs
theorem z81:IxR X zdi:=by
 intro value slice pins s σ H x y v u Q I rx ry h hs;obtain ⟨z,i,c,rfl,rfl,hz,he,q⟩:=h;obtain ⟨t,rfl⟩:=rx;obtain ⟨t',rfl⟩:=ry;obtain ⟨j,h1,h2,h3,h4,h5⟩:=WL he;have hl:z.cps.toList.length=z.length:=by simp [Str.length]
 rw [hl] at h1 h4 h5;have hn:=WJ;exact tail_any (typeIs_str s z t) slot_str_getitem.lookup (getItem_str (c:=c) (by
  have e1:decide (i < -(2 ^ 63:Int))=false:=decide_eq_false 128;have e2:decide (i >= 2 ^ 63)=false:=decide_eq_false 128;rw [e1,e2,Y1d]) (by rw [h1];simpa using h2) ⟨.str ⟨#[c]⟩,H,I.tok _,146,q⟩) hs
theorem WM (lo hi:281)(n:Nat):(sliceBounds lo hi none n).1=((HT.sIx n 0 lo:Nat):Int)/\(sliceBounds lo hi none n).2.1=((HT.sIx n n hi:Nat):Int)/\(sliceBounds lo hi none n).2.2=1:=by
 refine ⟨?_,?_,rfl⟩
 ·cases lo with
  | none=>simp [sliceBounds,HT.sIx]
  | some i =>
   simp only [sliceBounds,HT.sIx,Option.getD_none,show (1:Int) > 0 by decide,if_true];by_cases h:i<0
   ·simp only [h,if_true]<;>omega
   ·simp only [h,if_false]<;>omega
 ·cases hi with
  | none=>simp [sliceBounds,HT.sIx]
  | some i =>
   simp only [sliceBounds,HT.sIx,Option.getD_none,show (1:Int) > 0 by decide,if_true];by_cases h:i<0
   ·simp only [h,if_true]<;>omega
   ·simp only [h,if_false]<;>omega
theorem Jx (its:XV)(lo hi:281):slicePick its.toArray lo hi none=((its.drop (HT.sIx its.length 0 lo)).take (HT.sIx its.length its.length hi-HT.sIx its.length 0 lo)).toArray:=by
 obtain ⟨h1,h2,h3⟩:=WM lo hi its.toArray.size;unfold slicePick;rw [h1,h2,h3];simp only [sliceRange_one,pick_run,Y0f]<;>rfl
def zdj (K:Y01):V->Option Int->Option Int->Hp->VK->Prop:=λ x lo hi H Q=>∃ a xs,x=.ref a/\SqL K H a xs/\∀ p,H p=none->Q (.ref p) (upd H p (.lst (O7 xs lo hi)))
theorem Vx:SlR X (zdj X.K):=by
 intro pins s σ H x v vl vu lo hi sl Q I rx hs pl pu h;obtain ⟨a,xs,rfl,hx,q⟩:=h;cases rx;obtain ⟨its,r,ht,hz⟩:=I.list hx;have hlen:=r.length;refine ⟨"list",_,slot_list_getitem.lookup,ht.isList.typeIs,?_⟩;refine wpAny_getItem_list_slice ht.isList hs pl pu .none 130 ?_ (by rw [Y0f]<;>omega);rw [Jx,<- hlen];refine ⟨.ref s.heap.objs.size,_,I.laid (λ b ob q=>Y03 _ q) 175 ?_,rfl,q _ 276⟩;exact ⟨Y0y (yT xs lo hi) hz,_,0,(r.drop (HT.sIx xs.length 0 lo)).take 257,Y0c _ rfl⟩
def jN:V->Bool
 | .non=>true
 | .bl _=>true
 | .int _=>true
 | .str _=>true
 | _=>false
def eqV:V->V->Bool
 | .non,.non=>true
 | .bl a,.bl b=>a==b
 | .bl a,.int b=>(if a then 1 else 0)==b
 | .int a,.bl b=>a==(if b then 1 else 0)
 | .int a,.int b=>a==b
 | .str a,.str b=>a==b
 | _,_=>false
theorem Bx {A:296}{s:153}{y x:V}{u v:Value}(ry:RelV y u)(rx:RelV x v)(fy:jN y=true)(fx:jN x=true):SeqAt.EqAt A s u v (eqV y x):=by
 cases y with
 | non =>
  cases ry;cases x with
  | non=>cases rx;exact SeqAt.EqAt.same _
  | bl b=>cases rx;exact SeqAt.EqAt.none_bool b
  | int b=>obtain ⟨t,rfl⟩:=rx;exact SeqAt.EqAt.none_int b t
  | str b=>obtain ⟨t,rfl⟩:=rx;exact SeqAt.EqAt.none_str b t
  | _=>exact absurd (show false=true from fx) Y0x
 | bl a =>
  cases ry;cases x with
  | non=>cases rx;exact SeqAt.EqAt.bool_none a
  | bl b=>cases rx;exact SeqAt.EqAt.bool_bool a b
  | int b=>obtain ⟨t,rfl⟩:=rx;exact SeqAt.EqAt.bool_int a b t
  | str b=>obtain ⟨t,rfl⟩:=rx;exact SeqAt.EqAt.bool_str a b t
  | _=>exact absurd (show false=true from fx) Y0x
 | int a =>
  obtain ⟨t',rfl⟩:=ry;cases x with
  | non=>cases rx;exact SeqAt.EqAt.int_none a t'
  | bl b=>cases rx;exact SeqAt.EqAt.int_bool a t' b
  | int b=>obtain ⟨t,rfl⟩:=rx;exact SeqAt.EqAt.int_int a t' b t
  | str b=>obtain ⟨t,rfl⟩:=rx;exact SeqAt.EqAt.int_str a t' b t
  | _=>exact absurd (show false=true from fx) Y0x
 | str a =>
  obtain ⟨t',rfl⟩:=ry;cases x with
  | non=>cases rx;exact SeqAt.EqAt.str_none a t'
  | bl b=>cases rx;exact SeqAt.EqAt.str_bool a t' b
  | int b=>obtain ⟨t,rfl⟩:=rx;exact SeqAt.EqAt.str_int a t' b t
  | str b=>obtain ⟨t,rfl⟩:=rx;exact SeqAt.EqAt.str_str a t' b t
  | _=>exact absurd (show false=true from fx) Y0x
 | _=>exact absurd (show false=true from fy) Y0x
def eqU (x:V)(u:Value):Bool:=match u with
 | .none=>eqV .non x
 | .bool b=>eqV (.bl b) x
 | .int i _=>eqV 209 x
 | .str z _=>eqV (.str z) x
 | _=>false
theorem WN {x y:V}{u:Value}(r:RelV y u)(f:jN y=true):eqU x u=eqV y x:=by
 cases y with
 | non=>cases r;rfl
 | bl b=>cases r;rfl
 | int i=>obtain ⟨t,rfl⟩:=r;rfl
 | str z=>obtain ⟨t,rfl⟩:=r;rfl
 | _=>exact absurd (show false=true from f) Y0x
theorem qT {x:V}:∀ {xs:193}{us:XV},Vals xs us->xs.all jN=true->us.any (eqU x)=xs.any λ y=>eqV y x
 | _,_,.nil,_=>rfl
 | y::xs,u::us,.cons r t,f=>by
  rw [Y3g,Y0l] at f;rw [Y0p,Y0p,WN r f.1,qT t f.2]
theorem wU {A:296}{s:153}{x:V}{v:Value}(rx:RelV x v)(fx:jN x=true):∀ {xs:193}{us:XV},Vals xs us->xs.all jN=true->∀ u∈us,SeqAt.EqAt A s u v (eqU x u)
 | _,_,.nil,_=>λ u hu=>by cases hu
 | y::xs,u::us,.cons r t,f=>λ u' hu=>by
  rw [Y3g,Y0l] at f;rcases Y08.mp hu with rfl | hu
  ·rw [WN r f.1];exact Bx r rx f.1 fx
  ·exact wU rx fx t f.2 u' hu
def inV (x:V)(xs:193):Bool:=xs.any λ y=>eqV y x
def rIn (K:Y01)(neg:Bool):R2:=λ x y H Q=>∃ p xs,y=.ref p/\(SqL K H p xs\/SqT K H p xs)/\jN x=true/\xs.all jN=true/\Q (.bl (if neg then !inV x xs else inV x xs)) H
theorem O8:OpR X (compareOp .In) (rIn X.K false):=by
 intro pins s σ H x y v u Q I rx ry h;obtain ⟨p,xs,rfl,hq,fx,fs,q⟩:=h;cases ry;rcases hq with hq | hq
 ·obtain ⟨its,r,pl,hz⟩:=I.list hq;refine SeqAt.in_listAt (eqU x) pl.isList 297 ⟨.bl _,H,I,rfl,?_⟩;rw [show its.toArray.any (eqU x)=its.any (eqU x) by simp,qT r fs];exact q
 ·obtain ⟨its,r,pl,hz⟩:=I.tuple hq;refine SeqAt.in_tupleAt (eqU x) pl 297 ⟨.bl _,H,I,rfl,?_⟩;rw [show its.toArray.any (eqU x)=its.any (eqU x) by simp,qT r fs];exact q
theorem WO:OpR X (compareOp .NotIn) (rIn X.K true):=by
 intro pins s σ H x y v u Q I rx ry h;obtain ⟨p,xs,rfl,hq,fx,fs,q⟩:=h;cases ry;rcases hq with hq | hq
 ·obtain ⟨its,r,pl,hz⟩:=I.list hq;refine SeqAt.notIn_listAt (eqU x) pl.isList 297 ⟨.bl _,H,I,rfl,?_⟩;rw [show its.toArray.any (eqU x)=its.any (eqU x) by simp,qT r fs];exact q
 ·obtain ⟨its,r,pl,hz⟩:=I.tuple hq;refine SeqAt.notIn_tupleAt (eqU x) pl 297 ⟨.bl _,H,I,rfl,?_⟩;rw [show its.toArray.any (eqU x)=its.any (eqU x) by simp,qT r fs];exact q
theorem WP:jh X (.type "list") (λ xs H Q=>∃ p ys,xs=[.ref p]/\(SqL X.K H p ys\/SqT X.K H p ys)/\∀ l,H l=none->Q (.ref l) (upd H l (.lst ys))):=by
 intro pins s σ H xs us Q I r h;obtain ⟨p,ys,rfl,hq,q⟩:=h;obtain ⟨u,rfl,rx⟩:=qS r;cases rx;have fin:∀ (its:XV),Vals ys its->ys.length<=sizeLine->∀ (h':Heap) (c':Nat),(∀ b o',s.heap.get? b=some o'->h'.get? b=some o') ->
   h'.get? s.heap.objs.size=some { cls:=.type "list",dict:=none,data:=.seq its.toArray c',slots:=#[] }->EP X pins σ Q 178 { s with heap:=h' }:=λ its r' hz h' c' kp e =>
  ⟨.ref s.heap.objs.size,_,I.laid kp 175 (show ObjOk X.prog X.w _ h' _ (.lst ys) from ⟨hz,its,c',r',e⟩),rfl,q _ 276⟩
 rcases hq with hq | hq
 ·obtain ⟨its,r',pl,hz⟩:=I.list hq;have hlen:=r'.length;obtain ⟨o,ho,hc,n,hd⟩:=pl.isList;exact call_list_seq p 243 ho hc hd (λ h' c' kp e=>fin its r' hz h' c' kp e) (by simp only [Y0f]<;>omega)
 ·obtain ⟨its,r',pl,hz⟩:=I.tuple hq;have hlen:=r'.length;obtain ⟨o,ho,hc,n,hd⟩:=pl;exact call_list_seq p (.inr rfl) ho hc hd (λ h' c' kp e=>fin its r' hz h' c' kp e) (by simp only [Y0f]<;>omega)
theorem qt:jh X (.type "tuple") (λ xs H Q=>∃ p ys,xs=[.ref p]/\((SqL X.K H p ys/\∀ l,H l=none->Q (.ref l) (upd H l (.tup ys)))\/(SqT X.K H p ys/\Q (.ref p) H))):=by
 intro pins s σ H xs us Q I r h;obtain ⟨p,ys,rfl,h⟩:=h;obtain ⟨u,rfl,rx⟩:=qS r;cases rx;rcases h with ⟨hq,q⟩ | ⟨hq,q⟩
 ·obtain ⟨its,r',pl,hz⟩:=I.list hq;have hlen:=r'.length;refine call_tuple_list pl.isList (λ h' kp=>?_) (by simp only [Y0f]<;>omega);have I1:Inv X pins σ H { s with heap:=h' }:=I.kept (t':=s.toks) kp;have I2:Inv X pins σ (upd H h'.objs.size (.tup ys)) { s with heap:=h'.push { cls:=.type "tuple",data:=.seq its.toArray } } :=
   I1.laid (t':=s.toks) (λ b o e=>Y03 _ e) 175 (show ObjOk X.prog X.w _ _ _ (.tup ys) from ⟨hz,its,r',IsTup.new _ _⟩)
  exact ⟨.ref h'.objs.size,_,I2,rfl,q _ (I1.hok.fresh 175)⟩
 ·obtain ⟨its,r',pl,hz⟩:=I.tuple hq;exact call_tuple_same pl ⟨.ref p,H,I,rfl,q⟩
def tyV (K:Y01)(T:String)(x:V)(H:Hp):Prop:=match x with
 | .str _=>T="str"
 | .int _=>T="int"
 | .ref p=>(T="list"/\∃ xs,SqL K H p xs)\/(T="tuple"/\∃ o,K.lookup p=some o/\o.cls=.type "tuple"/\o.dict=none) \/
   (T="dict"/\((∃ kvs,H p=some 177)\/∃ kvs,H p=some (.dT kvs)))\/(T="set"/\∃ S n,H p=some (.set S n))
 | _=>False
theorem By {pins:137}{σ:St}{H:Hp}{s:153}{T:String}{x:V}{v:Value}(I:131)(r:RelV x v)(ty:tyV X.K T x H) :
  s.TypeIs v T/\∀ a,v=.ref a->∃ ob,s.heap.get? a=some ob/\ob.dict=none:=by
 cases x with
 | str z =>
  obtain ⟨t,rfl⟩:=r;cases (show T="str" from ty);exact ⟨typeIs_str s z t,λ _ e=>nomatch e⟩
 | int i =>
  obtain ⟨t,rfl⟩:=r;cases (show T="int" from ty);exact ⟨typeIs_int s i t,λ _ e=>nomatch e⟩
 | ref p =>
  cases r;rcases ty with ⟨rfl,xs,hq⟩ | ⟨rfl,o,hk,hc,hd⟩ | ⟨rfl,hk⟩ | ⟨rfl,S,n,hk⟩
  ·obtain ⟨its,_,pl,_⟩:=I.list hq;refine ⟨pl.isList.typeIs,λ a e=>?_⟩;cases e;obtain ⟨o,n,e,c,hd,_⟩:=pl;exact ⟨o,e,hd⟩
  ·refine ⟨⟨o,I.kIn p o hk,hc⟩,λ a e=>?_⟩;cases e;exact ⟨o,I.kIn _ o hk,hd⟩
  ·have z:∃ o,s.heap.get? p=some o/\o.ExactDict:=by
    rcases hk with ⟨kvs,hk⟩ | ⟨kvs,hk⟩
    ·obtain ⟨_,_,_,_,o,_,_,e,ex,_⟩:=I.hok p _ hk;exact ⟨o,e,ex⟩
    ·obtain ⟨_,_,_,_,o,_,_,e,ex,_⟩:=I.hok p _ hk;exact ⟨o,e,ex⟩
   obtain ⟨o,e,ex⟩:=z;refine ⟨⟨o,e,ex.1⟩,λ a e2=>?_⟩;cases e2;exact ⟨o,e,ex.2.1⟩
  ·obtain ⟨o,_,_,_,e,ex,_⟩:=I.hok p _ hk;refine ⟨⟨o,e,ex.1⟩,λ a e2=>?_⟩;cases e2;exact ⟨o,e,ex.2.1⟩
 | _=>exact False.elim ty
def zdk (K:Y01)(T:String)(r:V->List V->Hp->VK->Prop)(to:TE):TE:=λ σ H Q=>to σ H λ x H1=>tyV K T x H1/\r x [] H1 Q
def tBM (K:Y01)(T:String)(r:V->List V->Hp->VK->Prop)(to:TE)(t:TA):TE:=λ σ H Q=>to σ H λ x H1=>tyV K T x H1/\t σ H1 λ xs H2=>r x xs H2 Q
variable {o e:Expr}{es:288}{to:TE}{t:TA}{name:Str}{apos cpos:Pos}{T id:String}{r:V->List V->Hp->VK->Prop}
theorem z82 (pa:PlainAttrs T) (slot:Slot T name id) (hty:typeOf (.builtin id)=pure (.type "method_descriptor")) (hm:MtR X id r) (ho:PE X o to)
  (hbase:attributeBase o name X.env (eval o X.env)=eval o X.env:=by rfl) (hline:(apos.endLine==cpos.line)=true:=by rfl):PE X (.Call (.Attribute o name apos) [] [] cpos) (zdk X.K T r to):=by
 intro pins s σ H Q I h;refine wpAny_Call_method0_late hbase hline (thn (ho pins s σ H _ I h) λ v s1 ⟨x,H1,I1,r1,ty,q1⟩=>?_);obtain ⟨h1,h2⟩:=By I1 r1 ty;exact ⟨T,id,pa,slot,hty,h1,h2,Calls.callWith_builtin rfl (PySem.evalArgs_none (hm pins s1 σ H1 x [] v [] Q I1 r1 .nil q1))⟩
theorem z6d (pa:PlainAttrs T) (slot:Slot T name id) (hty:typeOf (.builtin id)=pure (.type "method_descriptor")) (hm:MtR X id r) (ho:PE X o to) (ha:PA X (e::es) t)
  (hbase:attributeBase o name X.env (eval o X.env)=eval o X.env:=by rfl)
  (hfew:((backTo cpos (starEach (e::es) X.env)).all (λ x=>!x.1)&&(backToKw cpos (keywordEach [] X.env)).all (λ x=>x.1.isSome)
   && decide ((e::es).length+([]:List Keyword).length+(if ([]:List Keyword).isEmpty then 0 else 1)<30))=true:=by rfl)
  (hline:(apos.endLine==cpos.line)=true:=by rfl) (hs:starEach (e::es) X.env=284::starEach es X.env:=by rfl) (hplain:(backTo cpos (starEach es X.env)).any (·.1)=false:=by rfl) :
  PE X (.Call (.Attribute o name apos) (e::es) [] cpos) (tBM X.K T r to t):=by
 intro pins s σ H Q I h;refine wpAny_Call_method_late hbase hfew hline rfl (thn (ho pins s σ H _ I h) λ v s1 ⟨x,H1,I1,r1,ty,q1⟩=>?_);obtain ⟨h1,h2⟩:=By I1 r1 ty;refine ⟨T,id,pa,slot,hty,h1,h2,?_⟩;have hA:=ha cpos pins s1 σ H1 _ I1 q1;rw [hs] at hA ⊢;refine Calls.callWith_builtin (by show (false||(backTo cpos (starEach es X.env)).any (·.1))=false;rw [hplain]<;>rfl) (Calls.evalArgs_plain ?_);exact thn hA λ us s2 ⟨vs,H2,I2,r2,q2⟩=>hm pins s2 σ H2 x vs v us Q I2 r1 r2 q2
end
def MtM (X:Cx)(id:String)(r:V->List V->Hp->VK->Prop):Prop :=
 ∀ (pins:137) (s:153) (σ:St) (H:Hp) (x:V) (xs:193) (v:Value) (us:XV) (Q:VK),Inv X pins σ H s->RelV x v->Vals xs us->r x xs H Q ->
  wpAny 132 X.A (call (.builtin id) (v::us)) 231 X.xe s
theorem Vals.one:∀ {x:V}{us:XV},Vals [x] us->∃ u,us=[u]/\RelV x u
 | _,_,.cons r .nil=>⟨_,rfl,r⟩
theorem Vals.zero:∀ {us:XV},Vals [] us->us=[]
 | _,.nil=>rfl
theorem Vals.dropLast {xs:193}{us:XV}(h:Vals xs us):Vals xs.dropLast us.dropLast:=by
 induction h with
 | nil=>exact .nil
 | cons r t ih =>
  cases t with
  | nil=>exact .nil
  | cons q t'=>exact .cons r ih
theorem Vals.rep {xs:193}{us:XV}(h:Vals xs us):∀ k:Nat,Vals (List.replicate k xs).flatten (List.replicate k us).flatten
 | 0=>.nil
 | k+1=>by
  rw [Y14,Y14,Y2b,Y2b];exact Vals.append h (Vals.rep h k)
theorem Us {α:Type}(l:List α):l.eraseIdx (l.length-1)=l.dropLast:=by
 induction l with
 | nil=>rfl
 | cons a r ih =>
  cases r with
  | nil=>rfl
  | cons b r =>
   have e:(a::b::r).length-1=((b::r).length-1)+1:=by
    have h1:(a::b::r).length=r.length+2:=rfl;have h2:(b::r).length=r.length+1:=rfl;omega
   rw [e,List.eraseIdx_cons_succ,ih]
   all_goals rfl
theorem JZ (its:XV):∀ (k:Nat) (acc:XV),
  List.foldl (λ x1 x2=>x1++x2) acc.toArray (List.replicate k its.toArray)=(acc++(List.replicate k its).flatten).toArray
 | 0,acc=>by simp
 | k+1,acc=>by
  have e:acc.toArray++its.toArray=(acc++its).toArray:=by simp
  have e2:(acc++its)++(List.replicate k its).flatten=acc++(List.replicate (k+1) its).flatten:=by
   rw [Y14,Y2b,Y0i]
  rw [<- e2,<- JZ its k (acc++its),<- e,Y14,Y1g]
section
variable {X:Cx}{pins:137}{σ:St}{H:Hp}{s:153}{l b:Addr}{xs ys zs:193}
theorem Inv.lset {its its':XV}{n:Nat}{f:Array Value->Array Value}{t':Nat}(I:131)(hH:H l=some 195)
  (e:s.heap.get? l=some { cls:=.type "list",data:=.seq its.toArray n }) (hf:f its.toArray=its'.toArray) (hv:Vals ys its') (hz:ys.length<=sizeLine) :
  Inv X pins σ (upd H l (.lst ys)) { s with heap:=s.heap.update l (Obj.mapSeq f),toks:=t' }:=by
 have q:=PySem.IsL.update e f;rw [hf] at q;refine I.write (by rw [hH];exact trivial) 243 (λ b' u hb hu=>(Y1s s.heap (Obj.mapSeq f) (Ne.symm hb)).trans hu) ⟨_,q⟩ ?_;exact ⟨hz,its',_,hv,q⟩
theorem Inv.lnew {its:XV}{t':Nat}(I:131)(hv:Vals ys its)(hz:ys.length<=sizeLine) :
  Inv X pins σ (upd H s.heap.objs.size (.lst ys)) { s with heap:=s.heap.push { cls:=.type "list",data:=.seq its.toArray },toks:=t' } :=
 I.laid (λ _ _ q=>Y03 _ q) 175 ⟨hz,its,0,hv,Y0c _ rfl⟩
theorem Inv.fresh (I:131):H s.heap.objs.size=none:=I.hok.fresh 175
theorem Inv.lstM (I:131)(hH:H l=some 195):xs.length<=sizeLine/\∃ (its:XV) (n:Nat),Vals xs its/\xs.length=its.length/\s.heap.get? l=some { cls:=.type "list",data:=.seq its.toArray n }:=by
 obtain ⟨z,its,n,r,e⟩:=I.hok l _ hH;exact ⟨z,its,n,r,r.length,e⟩
theorem Zt {n:Nat}(h:n<=sizeLine):Builtin.List.listTooLong n=false:=by
 unfold Builtin.List.listTooLong;exact decide_eq_false 128
end
section
variable {X:Cx}
def z3u:V->List V->Hp->VK->Prop:=λ x vs H Q=>∃ l xs y,x=.ref l/\vs=[y]/\H l=some 195/\xs.length<sizeLine/\Q .non (upd H l (.lst (xs++[y])))
theorem O9:MtM X "list.append" z3u:=by
 intro pins s σ H x vs v us Q I rx rv h;obtain ⟨l,xs,y,rfl,rfl,hH,hz,q⟩:=h;cases rx;obtain ⟨u,rfl,ru⟩:=rv.one;obtain ⟨z,its,n,r,hl,e⟩:=I.lstM hH;refine call_meets F.slot_list_append ⟨_,e,rfl⟩ F.entry_list_append (F.args_list_append_2 _ _) (PySem.list_append l its.toArray n u (by rw [Y0f];omega)) ⟨e,?_⟩;refine ⟨.non,_,I.lset hH e 130 (r.append (.cons ru .nil)) ?_,rfl,q⟩;rw [Y05,List.length_singleton];omega
def z3v:V->List V->Hp->VK->Prop:=λ x vs H Q=>∃ l b xs zs,x=.ref l/\vs=[.ref b]/\H l=some 195/\H b=some (.lst zs)/\xs.length+zs.length<=sizeLine/\Q .non (upd H l (.lst (xs++zs)))
theorem Oa:MtM X "list.extend" z3v:=by
 intro pins s σ H x vs v us Q I rx rv h;obtain ⟨l,b,xs,zs,rfl,rfl,hH,hB,hz,q⟩:=h;cases rx;obtain ⟨u,rfl,ru⟩:=rv.one;cases ru;obtain ⟨z,its,n,r,hl,e⟩:=I.lstM hH;obtain ⟨z2,its2,n2,r2,hl2,e2⟩:=I.lstM hB;have hsz:its.toArray.size+its2.toArray.size<=sizeLine:=by rw [Y0f,Y0f];omega
 have hlong:¬ (!its.toArray.isEmpty&&Builtin.List.listTooLong (its.toArray.size+its2.toArray.size))=true:=by
  rw [Zt hsz,Bool.and_false];exact Y0x
 refine call_meets F.slot_list_extend ⟨_,e,rfl⟩ F.entry_list_extend (F.args_list_extend_2 _ _)
  (AutoSeq1.list_extend_list_list_0 l its.toArray n b its2.toArray n2 hlong (by rw [Y0f];omega) 128) ⟨e,e2,?_⟩
 refine ⟨.non,_,I.lset hH e 130 (r.append r2) ?_,rfl,q⟩;rw [Y05];omega
def zdl:V->List V->Hp->VK->Prop:=λ x vs H Q=>∃ l xs y,x=.ref l/\vs=[]/\H l=some 195/\xs[xs.length-1]?=some y/\Q y (upd H l (.lst xs.dropLast))
theorem z83:MtM X "list.pop" zdl:=by
 intro pins s σ H x vs v us Q I rx rv h;obtain ⟨l,xs,y,rfl,rfl,hH,hy,q⟩:=h;cases rx;have hus:=rv.zero;subst hus;obtain ⟨z,its,n,r,hl,e⟩:=I.lstM hH;obtain ⟨u,hu,ru⟩:=r.get hy;have hy':its.toArray[its.toArray.size-1]?=some u:=by
  show its.toArray[its.length-1]?=some u;rw [<- Y1x,<- hl];exact hu
 refine call_meets F.slot_list_pop ⟨_,e,rfl⟩ F.entry_list_pop (F.args_list_pop_1 _) (MeetsSeq.list_pop_last l its.toArray n u hy' (by rw [Y0f];omega)) ⟨e,?_⟩;refine ⟨y,_,I.lset hH e ?_ r.dropLast ?_,ru,q⟩
 ·show its.toArray.eraseIdxIfInBounds (its.toArray.size-1)=its.dropLast.toArray;rw [Y0f,List.eraseIdxIfInBounds_toArray,Us]
 ·rw [List.length_dropLast];omega
def zdm:R2:=λ x y H Q=>∃ l b xs zs,x=.ref l/\y=.ref b/\H l=some 195/\H b=some (.lst zs)/\xs.length+zs.length<=sizeLine/\∀ p,H p=none->Q (.ref p) (upd H p (.lst (xs++zs)))
theorem z84:OpR X (binaryOp .Add) zdm:=by
 intro pins s σ H x y v u Q I rx ry h;obtain ⟨l,b,xs,zs,rfl,rfl,hH,hB,hz,q⟩:=h;cases rx;cases ry;obtain ⟨z,its,n,r,hl,e⟩:=I.lstM hH;obtain ⟨z2,its2,n2,r2,hl2,e2⟩:=I.lstM hB;refine PySem.P.add_list e e2 ?_ (by rw [Y0f,Y0f];omega);have ea:its.toArray++its2.toArray=(its++its2).toArray:=by simp
 rw [ea];exact ⟨.ref _,_,I.lnew (r.append r2) (by rw [Y05];omega),rfl,q _ I.fresh⟩
def zdn:R2:=λ x y H Q=>∃ l k xs,x=.ref l/\y=.int k/\H l=some 195/\-(2 ^ 63)<=k/\k<2 ^ 63/\xs.length*k.toNat<=sizeLine /\
 ∀ p,H p=none->Q (.ref p) (upd H p (.lst (List.replicate k.toNat xs).flatten))
theorem z3w {α:Type}(xs:List α)(k:Nat):(List.replicate k xs).flatten.length=k*xs.length:=by
 induction k with
 | zero=>simp
 | succ k ih=>rw [Y14,Y2b,Y05,ih,Y3m,Nat.add_comm]
theorem z85:OpR X (binaryOp .Mult) zdn:=by
 intro pins s σ H x y v u Q I rx ry h;obtain ⟨l,k,xs,rfl,rfl,hH,h1,h2,hz,q⟩:=h;cases rx;obtain ⟨t,rfl⟩:=ry;obtain ⟨z,its,n,r,hl,e⟩:=I.lstM hH;have hlen:its.toArray.size*k.toNat<=sizeLine:=by rw [Y0f,<- hl];exact hz
 have hcap:¬ its.toArray.size*k.toNat > (2 ^ 63-1)/8:=by
  have:(sizeLine:Nat)<=(2 ^ 63-1)/8:=by decide
  omega
 have hfit:¬ (!Builtin.List.listFitsIndex k)=true:=by
  rw [fitsIndex_both h1 h2];exact Y0x
 have hlong:¬ Builtin.List.listTooLong (its.toArray.size*k.toNat)=true:=by
  rw [Zt hlen];exact Y0x
 have hnew:List.foldl (λ x1 x2=>x1++x2) #[] (List.replicate (if its.toArray.isEmpty=true then 0 else k.toNat) its.toArray)=(List.replicate k.toNat its).flatten.toArray:=by
  have f0:=λ m=>by
   have:=JZ its m []
   rw [Y0n] at this;exact this
  rw [f0];cases its with
  | nil=>simp
  | cons a r'=>rw [if_neg 130]
 refine wpAny_binaryOp_repeat_ref 127 ⟨_,e,rfl⟩ (λ s'=>typeIs_int s' k t) noFill_list_mul F.fills_int_mul F.slot_int_rmul repeat_list F.slot_int_index.lookup
  (call_meets F.slot_int_rmul (typeIs_int s k t) F.entry_int_rmul (F.args_int_rmul_2 _ _) (int___rmul___int_list k t l its.toArray n)
   ⟨e,rfl,⟨_,e,rfl⟩,call_meets F.slot_list_mul ⟨_,e,rfl⟩ F.entry_list_mul (F.args_list_mul_2 _ _) (AutoListH.list___mul___list_int_3 l its.toArray n k t hfit hcap hlong) ⟨e,?_⟩⟩)
 rw [hnew];exact ⟨.ref _,_,I.lnew (r.rep k.toNat) (by rw [z3w,Nat.mul_comm];exact hz),rfl,q _ I.fresh⟩
end
end L2
namespace Att
open PySem PySem.W PySem.Calls PyProof.Rows
theorem Z4 {P:Params}{h:Heap}:∀ (ns:179) (vs:XV),WellAll P h vs (ns.map WData.int)->IntsAre vs ns:=by
 intro ns
 induction ns with
 | nil =>
  intro vs w;rw [Y0u] at w;cases w;exact .nil
 | cons n ns ih =>
  intro vs w;rw [Y0a] at w;cases w with
  | cons a b =>
   cases a;exact .cons _ _ (ih _ b)
theorem script_of {l:OpenLaw}{n:Nat}(hn:l.most=some n){P:Params}{h:Heap}{args:List WData}{vals:XV}
  (hpre:l.row.toRowW.claim.pre args=true) (hwl:WellAll P h vals args) :
  ∃ a vs ns,vals=[Value.ref a]/\args=[WData.list (ns.map WData.int)]/\h.get? a=some { cls:=.type "list",data:=.seq vs.toArray }/\IntsAre vs ns/\ns.length<=n:=by
 have hsh:WShape.hasAll [] args [.list .int]=true:=(pre_splitW hpre).1;have hc:l.pre.holds [] { args:=args }=true:=(pre_splitW hpre).2;obtain ⟨d,r,rfl,h1,h2⟩:=hasAllW_cons hsh;obtain rfl:=hasAllW_nil h2;obtain ⟨xs,rfl,h3⟩:=hasW_list h1;obtain ⟨ns,rfl⟩:=items_int h3;have hlen:ns.length<=n:=by
  unfold OpenLaw.pre at hc;have h4:(WTm.not (.lt (.lit (.int (n:Int))) (.len (.arg 0)))).holds [] { args:=[.list (ns.map .int)] }=true:=by
   have h4:=(holds_andW hc).1;rw [hn] at h4;exact h4
  have h5:=condW_of h4 (w_not (w_lt w_lit (w_len_list (w_arg rfl))));rw [Y07] at h5;refine Nat.le_of_not_lt λ q=>?_;have q':(n:Int)<((ns.length:Nat):Int):=by omega
  first
   | (rw [decide_eq_true q'] at h5;exact absurd h5 127)
   | (simp at h5;omega)
 cases hwl with
 | cons w1 w2 =>
  cases w2;cases w1 with
  | list ho hall=>exact ⟨_,_,ns,rfl,rfl,ho,Z4 ns _ hall,hlen⟩
theorem post_true (l:OpenLaw)(args:List WData):l.row.toRowW.claim.post args (.bool true) args=true :=
 postW_of
  (show WShape.has [] (.bool true) .bool=true by first | rfl | decide | simp [WShape.has,WShape.arms,WShape.armsAll])
  (show (WTm.eq .res (.lit (.bool true))).value [] { args:=args,res:=some (.bool true),after:=args }=some (.bool (true==true)) from w_eq_bool (w_res rfl) w_lit) rfl
section
variable {prog:204}{w:World}{A:296}{E:XU}{s:153}{K:Frag}
def zdo (h:Heap)(L d:Addr):List (Addr×Obj):=(List.range h.objs.size).filterMap λ a=>if a=L\/a=d then none else (h.get? a).map λ o=>(a,o)
end
end Att
namespace L2
open PySem PySem.Spec PyProof.Rows
theorem W0:∀ {vs:XV}{ns:179},IntsAre vs ns->Vals (ns.map V.int) vs
 | _,_,.nil=>.nil
 | _,_,.cons n t h=>.cons ⟨t,rfl⟩ (W0 h)
def z86 (H:Hp):Prop:=∀ b,H b=none\/∃ o xs,H b=some (.frz o 195)
theorem Bz {P:204}{w:World}{K:Y01}{mg mb:XJ}{CX:CXT}{k:Nat}{fa a:Addr}{fd:FuncData}{x:Str}{sp:Sp}{s₁:153}{vs:XV}{ns:179}
  (KX:K.In s₁.heap) (hns:s₁.heap.Ns mainGlobals mg) (hb:s₁.heap.Ns builtinsNs mb) (hbb:∀ x:Str,x≠"__name__"->mb x=bootBuiltins x) (hlim:s₁.heap.NoLimit) (hg:s₁.gens=#[])
  (ha:s₁.heap.get? a=some { cls:=.type "list",data:=.seq vs.toArray }) (hi:IntsAre vs ns) (hl:ns.length<=sizeLine) (hr:Room k callerA)
  (F:∀ base:Heap,K.In base->base.Ns mainGlobals mg->FnOk P w K mg base CX k fa fd [x] sp) (hbind:∀ (s:153) (u:Value),BindsTo s fd ⟨[u],[]⟩ [(x,u)])
  (hsp:∀ H:Hp,z86 H->SqL K H a (ns.map V.int)->sp [.ref a] H (λ v _=>v=.bl true) λ _ _ _=>False)
  (hCX:∀ H e s',CX [] H s₁ (λ _ _ _=>False) e s'->False) :
  codeAny (model P w) callerA (.call (.ref fa) ⟨[.ref a],[]⟩) (λ r s'=>r=.ok (.ret (.bool true))/\OldK s₁.heap s'.heap/\s'.os=s₁.os/\AllBare s'.gens) s₁:=by
 have rv:=W0 hi;have lenV:=hi.length;have core:∀ H:Hp,z86 H->SqL K H a (ns.map V.int)->HOk P w H s₁.heap->(∀ b,H b≠none->b=a)->(H a≠none->K.lookup a=none) ->
   codeAny (model P w) callerA (.call (.ref fa) ⟨[.ref a],[]⟩) (λ r s'=>r=.ok (.ret (.bool true))/\OldK s₁.heap s'.heap/\s'.os=s₁.os/\AllBare s'.gens) s₁:=by
  intro H hO hS hok hA hK;have base_of:∀ {b:Addr}{o:Obj},s₁.heap.get? b=some o->H b=none->(WE s₁.heap H).get? b=some o:=λ e n=>B7 e n;have noA:∀ {b:Addr}{o:Obj}{es:Array DictEntry}{ep:Nat},s₁.heap.get? b=some o->o.data=.dict es ep->H b=none:=λ {b o es ep} e d=>by
   cases q:H b with
   | none=>rfl
   | some u =>
    have e':b=a:=hA b (by rw [q];simp);subst e';rw [ha] at e;cases e;have d':Data.seq vs.toArray _=Data.dict es ep:=d;cases d'
  have nsK:∀ {b:Addr}{m:XJ},s₁.heap.Ns b m->(WE s₁.heap H).Ns b m:=λ {b m} ⟨o,es,ep,e,d,r⟩=>⟨o,es,ep,base_of e (noA e d),d,r⟩;have hKb:K.In (WE s₁.heap H):=λ b o e=>base_of (KX b o e) (by
   cases q:H b with
   | none=>rfl
   | some u =>
    have e':b=a:=hA b (by rw [q];simp);subst e';rw [hK (by rw [q];simp)] at e;cases e)
  have hM:Mod K mg (WE s₁.heap H):=⟨hKb,nsK hns,⟨mb,nsK hb,hbb⟩,let ⟨mc,h1,h2⟩:=hlim;⟨mc,nsK h1,h2⟩⟩;have e0:Env0 P w K mg (WE s₁.heap H) callerA [] s₁ H:=⟨rfl,hM,λ b o e=>z3c e,Y41 (O1 _ _),trivial,λ b hb=>absurd (show b∈([]:List Addr) from hb) 130,hok,.of_eq hg⟩;refine codeAny_mono ((F _ hKb (nsK hns)).run callerA [] s₁ H ⟨[.ref a],[]⟩ [.ref a] [.ref a] _ _ hr e0 (hbind s₁ 202) (.cons rfl .nil) (hsp H hO hS)) λ r s' h=>?_;cases r with
  | error e=>exact (hCX H e s' h).elim
  | ok fl =>
   cases fl with
   | next=>exact False.elim h
   | brk=>exact False.elim h
   | cont=>exact False.elim h
   | ret u =>
    obtain ⟨v,H',os,bare,un,hok',r',q⟩:=h;have q':v=.bl true:=q;subst q';obtain rfl:u=Value.bool true:=r';refine ⟨rfl,OldK.of_keep λ b o e=>?_,os,bare⟩;cases q:H b with
    | none=>exact un.keep b o e q (by intro z;exact absurd (show b∈([]:List Addr) from z) 130) 130
    | some u =>
     rcases hO b with z | ⟨ob,xs,z⟩
     ·rw [q] at z;cases z
     ·have z2:=un.frzs b ob _ z;obtain ⟨e1,_⟩:=hok b _ z;obtain ⟨e2,_⟩:=hok' b _ z2;rw [e] at e1;cases e1;exact e2
 cases hk:K.lookup a with
 | some o =>
  have e:=KX a o hk;rw [ha] at e;cases e;refine core (λ _=>none) (λ _=>.inl rfl) (.inr ⟨_,vs.toArray,_,hk,rfl,rfl,rfl,by rw [Y0f,lenV];exact hl,by simpa using rv⟩) (λ b u z=>by have z':(none:Option HO)=some u:=z;cases z') (λ b z=>absurd rfl z) λ z=>absurd rfl z
 | none =>
  refine core (λ b=>if b=a then some (.frz { cls:=.type "list",data:=.seq vs.toArray } (.lst (ns.map V.int))) else none) (λ b=>?_) (.inl (.inr ⟨{ cls:=.type "list",data:=.seq vs.toArray },if_pos rfl⟩)) (λ b u z=>?_) (λ b z=>?_) λ _=>hk
  ·by_cases hb:b=a
   ·exact .inr ⟨_,_,if_pos hb⟩
   ·exact .inl (if_neg hb)
  ·by_cases hb:b=a
   ·have z':=(if_pos hb).symm.trans z;cases z';subst hb;exact ⟨ha,by rw [Y07];exact hl,vs,_,rv,ha⟩
   ·have z':=(if_neg hb).symm.trans z;cases z'
  ·by_cases hb:b=a
   ·exact hb
   ·exact absurd (if_neg hb) z
abbrev KOf {K:Y01}{h:Heap}(_:K.In h):Y01:=K
def jk (s:Stmt):Arguments:=match s with
 | .FunctionDef _ a _ _ _ _ _ _ _ _=>a
 | _=>{ posonlyargs:=[],args:=[],vararg:=none,kwonlyargs:=[],kw_defaults:=[],kwarg:=none,defaults:=[] }
def j3 (s:Stmt):List Stmt:=match s with
 | .FunctionDef _ _ b _ _ _ _ _ _ _=>b
 | _=>[]
def zG (s:Stmt):Scope:=match s with
 | .FunctionDef _ _ _ _ _ _ sc _ _ _=>sc
 | _=>{ kind:=.function,names:=[],isGenerator:=false,isCoroutine:=false }
abbrev CX0:CXT:=λ _ _ _ _ _ _=>False
structure Fun (K:Y01)(x qual:Str)(st:Stmt)(f:Addr)(fd:FuncData):Prop where
 ex:∃ (oc:Value) (od:Option Addr) (kV doc pm:Value) (an:Option Addr) (cdv ct:Value) (osl:211),
  fd=PySem.W.fnOf x qual (jk st) (j3 st) (zG st) .none kV doc pm an cdv ct/\K.lookup f=some ⟨oc,od,.func fd,osl⟩/\PySem.W.codeIn K cdv qual=true
 kp:PySem.W.keepIn K 269=true
section
variable {P:204}{w:World}{K:Y01}{mg:XJ}{base:Heap}
theorem Fun.binds {x qual:Str}{st:Stmt}{f:Addr}{fd:FuncData}{ps:XQ}(F:Fun K x qual st f fd)
  (h:∀ (kV doc pm:Value) (an:Option Addr) (cdv ct:Value) (us:XV),us.length=ps.length->bindArgs 283 ⟨us,[]⟩=pure (ps.zip us)):Binds K fd ps []:=by
 obtain ⟨oc,od,kV,doc,pm,an,cdv,ct,osl,rfl,lk,hcd⟩:=F.ex;exact .all (h kV doc pm an cdv ct)
theorem Zu {x qual:Str}{st:Stmt}{f:Addr}{oc:Value}{od an:Option Addr}{osl:211}{kV doc pm cdv ct:Value}(l:K.lookup f=some ⟨oc,od,.func 283,osl⟩)
  (c:PySem.W.codeIn K cdv qual=true) (k:PySem.W.keepIn K 269=true):Fun K x qual st f 283:=⟨⟨oc,od,kV,doc,pm,an,cdv,ct,osl,rfl,l,c⟩,k⟩
end
theorem BA {A:296}{k:Nat}(hr:Room k A):A.units+1<cLine:=Y26 (Nat.add_le_add_left (by decide:1<=64) _) hr.units
theorem yq {n:Nat}(h:n<=1000):n<sizeLine:=Y26 h 127
section
variable {X:Cx}
theorem pv (i:Nat) {x:Str}{pos:Pos} (hN:X.N[i]?=some x:=by rfl) (hv:Vis X.env.scope x:=by first | exact Or.inl rfl | exact Or.inr (Or.inl rfl) | exact Or.inr (Or.inr rfl)) (hd:159=false:=by decide)
  (hcd:(x==("__classdict__":Str))=false:=by decide):PE X (.Name x pos) (zak i):=B8 hN hv hd hcd
end
theorem Z5 {A B:Prop}(h:B):if false=true then A else B:=by
 rw [if_neg Y0x];exact h
theorem Z6 {A B:Prop}(h:A):if true=true then A else B:=by
 rw [if_pos rfl];exact h
def zej (H H':Hp):Prop:=∀ b o,H b=some o->H' b=some o
section
variable {κ:Type}[DecidableEq κ]
def w6 (kvs:List (κ×V))(k:κ):Option V:=(kvs.find? λ kv=>decide (kv.1=k)).map (·.2)
def jM (kvs:List (κ×V))(k:κ)(v:V):List (κ×V) :=
 if (kvs.any λ kv=>decide (kv.1=k))=true then kvs.map (λ kv=>if kv.1=k then (kv.1,v) else kv) else kvs++[(k,v)]
def zeg (kvs:List (κ×V))(k:κ):List (κ×V):=kvs.filter λ kv=>decide (kv.1≠k)
theorem wV {k:κ}(e:p.1=k):w6 (p::r) k=some p.2:=by simp [w6,Y2p,e]
theorem wW {k:κ}(e:¬ p.1=k):w6 (p::r) k=w6 r k:=by simp [w6,Y2p,e]
theorem Ye (k:κ):∀ kvs:List (κ×V),(kvs.any λ kv=>decide (kv.1=k))=(w6 kvs k).isSome
 | []=>rfl
 | p::r=>by
  rw [Y0p];by_cases e:p.1=k
  ·simp only [wV e,decide_eq_true e,Bool.true_or,Option.isSome_some]
  ·rw [wW e,decide_eq_false e,Y2q];exact Ye k r
theorem wg (kvs:List (κ×V))(k:κ)(v:V):(jM kvs k v).length<=kvs.length+1:=by
 unfold jM
 split
 ·rw [Y07];omega
 ·rw [Y05,Y09,Y3o];omega
theorem RelO.isSome_eq {u:Option Value}(r:RelO o u):o.isSome=u.isSome:=by
 cases o with
 | none=>cases u with
  | none=>rfl
  | some _=>exact (show False from r).elim
 | some _=>cases u with
  | none=>exact (show False from r).elim
  | some _=>rfl
theorem KV.val (r:KV kvs vs)(k:κ):RelO (w6 kvs k) (valueAt vs k):=by
 unfold KV at r
 induction r with
 | nil=>exact True.intro
 | @cons p q ps qs h t ih =>
  obtain ⟨h1,h2⟩:=h;by_cases e:p.1=k
  ·have e':=h1.symm.trans e;have b:valueAt (q::qs) k=some q.2:=by simp [valueAt,Y2p,e']
   rw [wV e,b];exact h2
  ·have e':¬ q.1=k:=λ z=>e (h1.trans z);have b:valueAt (q::qs) k=valueAt qs k:=by simp [valueAt,Y2p,e']
   rw [wW e,b];exact ih
theorem KV.any {vs:List (κ×Value)}(r:KV kvs vs)(k:κ):(kvs.any λ kv=>decide (kv.1=k))=vs.any λ kv=>decide (kv.1=k):=by
 unfold KV at r
 induction r with
 | nil=>rfl
 | cons h t ih=>rw [Y0p,Y0p,ih,h.1]
theorem KV.repl (r:KV kvs vs)(k:κ){u:Value}(ry:RelV y u) :
  KV (kvs.map λ kv=>if kv.1=k then (kv.1,y) else kv) (vs.map λ kv=>if kv.1=k then (kv.1,u) else kv):=by
 unfold KV at r ⊢
 induction r with
 | nil=>exact .nil
 | @cons p q ps qs h t ih =>
  rw [Y0a,Y0a];refine .cons ?_ ih;obtain ⟨h1,h2⟩:=h;by_cases e:p.1=k
  ·rw [if_pos e,if_pos (h1.symm.trans e)];exact ⟨h1,ry⟩
  ·rw [if_neg e,if_neg (λ z=>e (h1.trans z))];exact ⟨h1,h2⟩
theorem KV.put (r:KV kvs vs)(k:κ){u:Value}(ry:RelV y u):KV (jM kvs k y) (stored vs k u):=by
 unfold jM stored;rw [r.any k];by_cases e:(vs.any λ kv=>decide (kv.1=k))=true
 ·rw [if_pos e,if_pos e];exact r.repl k ry
 ·rw [if_neg e,if_neg e];exact Paired.snoc r ⟨rfl,ry⟩
theorem KV.length {vs:List (κ×Value)}(r:KV kvs vs):kvs.length=vs.length:=Paired.length r
end
theorem yU {u:Value}(r:RelV (kV k) u):(zB P w).is k u=true:=by
 cases k with
 | inl i=>obtain ⟨t,e⟩:=(show ∃ t,u=Value.int i t from r);subst e;exact Y9 P w i t
 | inr x=>obtain ⟨t,e⟩:=(show ∃ t,u=Value.str x t from r);subst e;exact Ya P w x t
 | nn=>obtain rfl:u=Value.none:=r;rfl
theorem yr {w:World}:∀ {ks:List Key}{us:XV},Vals (ks.map kV) us->ItemsAre (zB P w) ks us
 | [],_,r=>by rw [Y0u] at r;cases r;exact .nil
 | k::ks,_,r=>by
  rw [Y0a] at r;cases r with
  | cons h t=>exact .cons (yU h) (yr t)
abbrev KT (H:Hp):List (List Key×V)->List (List Key×Addr×Value)->Prop:=Paired λ p q=>p.1=q.1/\H q.2.1=some (.tup (p.1.map kV))/\RelV p.2 q.2.2
theorem KT.val (r:KT H kvs xs)(k:List Key):RelO (w6 kvs k) ((atKey xs k).map (·.2)):=by
 induction r with
 | nil=>exact True.intro
 | @cons p q ps qs h t ih =>
  obtain ⟨h1,_,h2⟩:=h;by_cases e:p.1=k
  ·have e':=h1.symm.trans e;have b:atKey (q::qs) k=some q.2:=by simp [atKey,Y2p,e']
   rw [wV e,b];exact h2
  ·have e':¬ q.1=k:=λ z=>e (h1.trans z);have b:atKey (q::qs) k=atKey qs k:=by simp [atKey,Y2p,e']
   rw [wW e,b];exact ih
theorem KT.repl (r:KT H kvs xs)(k:List Key)(ry:RelV y u) :
  KT H (kvs.map λ kv=>if kv.1=k then (kv.1,y) else kv) (xs.map (putAt k u)):=by
 induction r with
 | nil=>exact .nil
 | @cons p q ps qs h t ih =>
  rw [Y0a,Y0a];refine .cons ?_ ih;obtain ⟨h1,h2,h3⟩:=h;unfold putAt;by_cases e:p.1=k
  ·rw [if_pos e,if_pos (h1.symm.trans e)];exact ⟨h1,h2,ry⟩
  ·rw [if_neg e,if_neg (λ z=>e (h1.trans z))];exact ⟨h1,h2,h3⟩
theorem KT.put (r:KT H kvs xs)(k:List Key)(hb:H b=some (.tup (k.map kV)))(ry:RelV y u) :
  KT H (jM kvs k y) (storedH xs k b u):=by
 have e:(kvs.any λ kv=>decide (kv.1=k))=(atKey xs k).isSome:=by
  rw [Ye,(r.val k).isSome_eq,Y2t]
 unfold jM storedH;rw [e];by_cases q:(atKey xs k).isSome=true
 ·rw [if_pos q,if_pos q];exact r.repl k ry
 ·rw [if_neg q,if_neg q];exact Paired.snoc r ⟨rfl,hb,ry⟩
theorem KT.keeps {xs:List (List Key×Addr×Value)}(r:KT H kvs xs)(ht:∀ b ys,H b=some (.tup ys)->H' b=some (.tup ys)):KT H' kvs xs :=
 Paired.mapP r λ _ _ z=>⟨z.1,ht _ _ z.2.1,z.2.2⟩
section
variable {P:204}{w:World}{H:Hp}{h:Heap}{a:Addr}
theorem Vy {u:HO}(ok:HOk P w H h)(e:Rd H a u):ObjOk P w H h a u:=e.ok ok
theorem Zv {kvs:173}(ok:HOk P w H h)(e:Rd H a 177):kvs.length<=sizeLine/\293=false/\∃ vs,KV kvs vs/\h.DictOf (zB P w) a vs :=
 show ObjOk P w H h a 177 from Vy ok e
theorem Yf {kvs:173}(ok:HOk P w H h)(e:H a=some 177):kvs.length<=sizeLine/\293=false/\∃ vs,KV kvs vs/\h.DictOf (zB P w) a vs:=Zv ok (.inl e)
theorem yt {ks:List Key}(ok:HOk P w H h)(e:H a=some (.tup (ks.map kV))):(tupleKind (zB P w)).is h ks a:=by
 obtain ⟨_,its,r,o,h1,h2,n,h3⟩:=(show ObjOk P w H h a (.tup (ks.map kV)) from ok a _ e);exact ⟨o,its.toArray,n,h1,h2,h3,by simpa using yr r⟩
theorem Zw {kvs:List (List Key×V)}(ok:HOk P w H h)(e:Rd H a (.dT kvs)):kvs.length<=sizeLine/\293=false /\
  ∃ xs,KT H kvs xs/\h.DictOfH (tupleKind (zB P w)) a xs:=by
 obtain ⟨z,y,xs,r,o,es,ep,h1,h2,h3,h4,h5⟩:=(show ObjOk P w H h a (.dT kvs) from Vy ok e);refine ⟨z,y,xs,r,o,es,ep,h1,h2,h3,h4,λ x hx=>?_,h5⟩;have all:∀ {l:List (List Key×V)}{m:List (List Key×Addr×Value)},KT H l m->∀ x∈m,(tupleKind (zB P w)).is h x.1 x.2.1:=by
  intro l m q
  induction q with
  | nil=>intro x hx;exact nomatch hx
  | @cons p q ps qs hq t ih =>
   intro x hx;rcases Y08.mp hx with e | hx
   ·subst e;exact yt ok (by rw [<- hq.1];exact hq.2.1)
   ·exact ih x hx
 exact all r x hx
theorem z6e {kvs:List (List Key×V)}(ok:HOk P w H h)(e:H a=some (.dT kvs)):kvs.length<=sizeLine/\293=false /\
  ∃ xs,KT H kvs xs/\h.DictOfH (tupleKind (zB P w)) a xs:=Zw ok (.inl e)
end
def DGet (H:Hp)(a:Addr)(y:V)(r:Option V):Prop :=
 (∃ kvs k,Rd H a 177/\y=kV k/\r=w6 kvs k)\/∃ kvs k b,Rd H a (.dT kvs)/\y=.ref b/\H b=some (.tup (k.map kV))/\r=w6 kvs k
def DPut (H:Hp)(a:Addr)(y v:V)(H':Hp):Prop :=
 (∃ kvs k,H a=some 177/\y=kV k/\kvs.length<sizeLine/\H'=upd H a (.dK (jM kvs k v))) \/
 ∃ kvs k b,H a=some (.dT kvs)/\y=.ref b/\H b=some (.tup (k.map kV))/\kvs.length<sizeLine/\H'=upd H a (.dT (jM kvs k v))
theorem DGet.k {k:Key}(e:H a=some 177):DGet H a (kV k) (w6 kvs k):=.inl ⟨kvs,k,.inl e,rfl,rfl⟩
theorem DPut.k {k:Key}(e:H a=some 177)(hl:kvs.length<sizeLine):DPut H a (kV k) v (upd H a (.dK (jM kvs k v))):=.inl ⟨kvs,k,e,rfl,hl,rfl⟩
section
variable {X:Cx}{pins:137}{σ:St}{H:Hp}{s:153}{a:Addr}{y v:V}{u r:Value}{o:Option V}{A:296}{E:XU}
theorem Inv.big (I:131):sysModules<s.heap.objs.size:=by
 have h:=(I.mod.glob.keeps I.bk).lt;exact Y40 127 h
theorem Ob (hu:A.units+1<cLine)(I:131)(g:DGet H a y (some v))(ry:RelV y u)(h:∀ w' s',Inv X pins σ H s'->RelV v w'->Q w' s') :
  wpAny 132 A (getItem 202 u) Q E s:=by
 rcases g with ⟨kvs,k,e,ey,l⟩ | ⟨kvs,k,b,e,ey,eb,l⟩
 ·subst ey;obtain ⟨z,hd,vs,rel,dd⟩:=Zv I.hok e;obtain ⟨w',hw,rw'⟩:=RelO.some_of (by rw [l];exact rel.val k);exact wpAny_getItem_of (yU ry) dd.mapOf hw (h w' _ (I.tok _) rw')
 ·subst ey;cases (show u=Value.ref b from ry);obtain ⟨z,hd,xs,rel,dd⟩:=Zw I.hok e;obtain ⟨w',hw,rw'⟩:=RelO.some_of (by rw [l];exact rel.val k);obtain ⟨p,hp,hp2⟩:=Y1r.mp hw;refine wpAny_getItem_heap 273 (yt I.hok eb) dd hp ?_;rw [hp2];exact h w' _ (I.tok _) rw'
theorem zb2 {Q:XU}(hu:A.units+1<cLine)(I:131)(g:DGet H a y o)(ry:RelV y u)(h:∀ s',Inv X pins σ H s'->Q (.bool o.isSome) s') :
  wpAny 132 A (compareOp .In u 202) Q E s:=by
 rcases g with ⟨kvs,k,e,ey,l⟩ | ⟨kvs,k,b,e,ey,eb,l⟩
 ·subst ey;obtain ⟨z,hd,vs,rel,dd⟩:=Zv I.hok e;refine wpAny_in_of (yU ry) hd dd.mapOf ?_;rw [<- (rel.val k).isSome_eq,<- l];exact h _ (I.tok _)
 ·subst ey;cases (show u=Value.ref b from ry);obtain ⟨z,hd,xs,rel,dd⟩:=Zw I.hok e;refine wpAny_in_heap 273 (yt I.hok eb) hd dd ?_;have q:=(rel.val k).isSome_eq;rw [Y2t] at q;rw [<- q,<- l];exact h _ (I.tok _)
theorem Vz {Q:XU}(hu:A.units+1<cLine)(I:131)(g:DGet H a y o)(ry:RelV y u)(h:∀ s',Inv X pins σ H s'->Q (.bool (!o.isSome)) s') :
  wpAny 132 A (compareOp .NotIn u 202) Q E s:=by
 rcases g with ⟨kvs,k,e,ey,l⟩ | ⟨kvs,k,b,e,ey,eb,l⟩
 ·subst ey;obtain ⟨z,hd,vs,rel,dd⟩:=Zv I.hok e;refine wpAny_notIn_of (yU ry) hd dd.mapOf ?_;rw [<- (rel.val k).isSome_eq,<- l];exact h _ (I.tok _)
 ·subst ey;cases (show u=Value.ref b from ry);obtain ⟨z,hd,xs,rel,dd⟩:=Zw I.hok e;refine wpAny_notIn_heap 273 (yt I.hok eb) hd dd ?_;have q:=(rel.val k).isSome_eq;rw [Y2t] at q;rw [<- q,<- l];exact h _ (I.tok _)
theorem WQ (I:131)(mu:Mut (H a))(hs:Heap.SameBut a s.heap h')(he:∃ q,h'.get? a=some q)(new:ObjOk X.prog X.w (upd H a ob) h' a ob) :
  Inv X pins σ (upd H a ob) { s with heap:=h',toks:=t' } :=
 I.write mu 243 (λ b q hb z=>(hs.2 b hb).trans z) he new
theorem BB (z:kvs.length<=sizeLine)(hd:293=false)(rel:KV kvs vs)(dd:h'.DictOf (zB P w) a vs) :
  ObjOk P w H' h' a 177:=⟨z,hd,vs,rel,dd⟩
theorem Oc {Q:Unit->Shared->Prop}(hu:A.units+1<cLine)(I:131)(g:DPut H a y v H')(ry:RelV y u)(rv:RelV v r)(h:∀ s',Inv X pins σ H' s'->Q () s') :
  wpAny 132 A (setItem 202 u r) Q E s:=by
 rcases g with ⟨kvs,k,e,ey,l,eH⟩ | ⟨kvs,k,b,e,ey,eb,l,eH⟩
 ·subst ey eH;obtain ⟨z,hd,vs,rel,dd⟩:=Yf I.hok e;have hz:vs.length<=sizeLine:=by rw [<- rel.length];exact z
  have hl:(jM kvs k v).length<=sizeLine:=by have:=wg kvs k v;omega
  refine wpAny_setItem_pairs (yU ry) dd λ h' dd' hs=>h _ ?_;have he:∃ q,h'.get? a=some q:=let ⟨q,_,_,hq,_⟩:=dd';⟨q,hq⟩;exact WQ I (by rw [e];exact True.intro) hs he (BB hl hd (rel.put k rv) dd')
 ·subst ey eH;cases (show u=Value.ref b from ry);obtain ⟨z,hd,xs,rel,dd⟩:=z6e I.hok e;have hz:xs.length<=sizeLine:=by rw [<- Paired.length rel];exact z
  have hl:(jM kvs k v).length<=sizeLine:=by have:=wg kvs k v;omega
  refine wpAny_setItem_heap 273 (yt I.hok eb) dd λ h' dd' hs=>h _ ?_;obtain ⟨q,es,ep,hq,h2,h3,h4,_,h5⟩:=dd';refine WQ I (by rw [e];exact True.intro) hs ⟨q,hq⟩ ⟨hl,hd,_,(rel.put k eb rv).keeps λ c ys ec=>?_,q,es,ep,hq,h2,h3,h4,h5⟩;rw [zr (zaj ec e 275)];exact ec
end
theorem BC {H:Hp}(h:Heap)(hb:sysModules<h.objs.size):ObjOk P w H (h.push { cls:=.type "dict",data:=.dict #[] }) h.objs.size (.dK []) :=
 ⟨Y19 _,beq_eq_false_iff_ne.mpr (Ne.symm (Y0k hb)),[],.nil,Heap.DictOf.new h⟩
def z87:TE:=λ _ H Q=>∀ p,H p=none->Q (.ref p) (upd H p (.dK []))
section
variable {X:Cx}{pos:Pos}
theorem BD:PE X (.Dict [] [] pos) z87:=λ pins s σ H Q I h =>
 wpAny_Dict_empty ⟨.ref s.heap.objs.size,_,I.laid (λ _ _ q=>Y03 _ q) 175 (BC s.heap I.big),rfl,h _ 276⟩
end
def Ut:List (TE×TE)->St->Hp->(List (V×V)->Hp->Prop)->Prop
 | [],_,H,Q=>Q [] H
 | (tk,tv)::r,σ,H,Q=>tk σ H λ x H1=>tv σ H1 λ y H2=>Ut r σ H2 λ ps H3=>Q ((x,y)::ps) H3
abbrev VV:List (V×V)->List (Value×Value)->Prop:=Paired λ p q=>RelV p.1 q.1/\RelV p.2 q.2
def PPs (X:Cx)(pos:Pos)(keys:List (Option Expr))(values:288)(trs:List (TE×TE)):Prop :=
 ∀ (pins:137) (s:153) (σ:St) (H:Hp) (Q:List (V×V)->Hp->Prop),Inv X pins σ H s->Ut trs σ H Q ->
  wpAny 132 X.A (evalPairs (pairTrees keys values X.env pos)) (λ vs s'=>∃ ps H',Inv X pins σ H' s'/\VV ps vs/\Q ps H') X.xe s
theorem z3x {pos:Pos}:PPs X pos [] [] []:=λ pins s σ H Q I h=>pairTrees_nil_walk ⟨[],H,I,.nil,h⟩
theorem BE (hk:PE X k tk)(hv:PE X v tv)(hr:PPs X pos ks vs trs) :
  PPs X pos (some k::ks) (v::vs) ((tk,tv)::trs):=λ pins s σ H Q I h =>
 pairTrees_cons_walk (thn (hk pins s σ H _ I h) λ u s1 ⟨x,H1,I1,rx,q1⟩=>thn (hv pins s1 σ H1 _ I1 q1) λ w2 s2 ⟨y,H2,I2,ry,q2⟩ =>
  thn (hr pins s2 σ H2 _ I2 q2) λ ws s3 ⟨ps,H3,I3,rel,q3⟩=>⟨(x,y)::ps,H3,I3,.cons ⟨rx,ry⟩ rel,q3⟩)
def yu (kvs more:173):List (Key×V):=more.foldl (λ acc kv=>jM acc kv.1 kv.2) kvs
theorem KV.merge:∀ {more:173}{rs:List (Key×Value)}{kvs:173}{vs:List (Key×Value)},KV more rs->KV kvs vs->KV (yu kvs more) (merged vs rs):=by
 intro more rs kvs vs r;unfold KV at r
 induction r generalizing kvs vs with
 | nil=>intro q;exact q
 | @cons p q ps qs h t ih =>
  intro r0;have e:KV (jM kvs p.1 p.2) (stored vs q.1 q.2):=by
   have:=r0.put p.1 h.2
   rw [<- h.1];exact this
  exact ih e
theorem qw:∀ (more kvs:173),(yu kvs more).length<=kvs.length+more.length
 | [],kvs=>by show kvs.length<=kvs.length+0;omega
 | p::r,kvs=>by
  have h1:=qw r (jM kvs p.1 p.2);have h2:=wg kvs p.1 p.2;show (yu (jM kvs p.1 p.2) r).length<=_;rw [Y09];omega
structure M1 (X:Cx)(o:Expr)(m:Str)(apos:Pos)(e:Expr)(cpos:Pos):Prop where
 base:attributeBase o m X.env (eval o X.env)=eval o X.env
 few:((backTo cpos (starEach [e] X.env)).all (λ x=>!x.1)&&(backToKw cpos (keywordEach [] X.env)).all (λ x=>x.1.isSome)
  && decide (([e]:List Expr).length+([]:List Keyword).length+(if ([]:List Keyword).isEmpty then 0 else 1)<30))=true
 line:(apos.endLine==cpos.line)=true
 trees:backTo cpos (starEach [e] X.env)=[284]
structure M2 (X:Cx)(o:Expr)(m:Str)(apos:Pos)(e f:Expr)(cpos:Pos):Prop where
 base:attributeBase o m X.env (eval o X.env)=eval o X.env
 few:((backTo cpos (starEach [e,f] X.env)).all (λ x=>!x.1)&&(backToKw cpos (keywordEach [] X.env)).all (λ x=>x.1.isSome)
  && decide (([e,f]:List Expr).length+([]:List Keyword).length+(if ([]:List Keyword).isEmpty then 0 else 1)<30))=true
 line:(apos.endLine==cpos.line)=true
 trees:backTo cpos (starEach [e,f] X.env)=[284,(false,eval f X.env)]
def IsD (H:Hp)(a:Addr):Prop:=(∃ kvs,Rd H a 177)\/∃ kvs,Rd H a (.dT kvs)
theorem BF (I:131)(d:IsD H a) :
  s.TypeIs 202 "dict"/\(∀ b,Value.ref a=.ref b->∃ ob,s.heap.get? b=some ob/\ob.dict=none)/\293=false:=by
 rcases d with ⟨kvs,e⟩ | ⟨kvs,e⟩
 ·obtain ⟨_,hd,vs,_,dd⟩:=Zv I.hok e;refine ⟨dd.typeIs,λ b q=>?_,hd⟩;cases q;obtain ⟨ob,_,_,h1,h2,_⟩:=dd;exact ⟨ob,h1,h2.2.1⟩
 ·obtain ⟨_,hd,xs,_,dd⟩:=Zw I.hok e;refine ⟨dd.typeIs,λ b q=>?_,hd⟩;cases q;obtain ⟨ob,_,_,h1,h2,_⟩:=dd;exact ⟨ob,h1,h2.2.1⟩
end L2
namespace L2
open PySem PyProof.Rows
open Sem (wp)
end L2
namespace L2
open PySem PySem.Spec PyProof.Rows
abbrev ZK:=St->Value->Hp->Prop
def XE (X:Cx)(Z:ZK)(e:Value)(s':153):Prop:=False
def Thr (X:Cx)(Z:ZK):Prop:=True
theorem Thr.thr {X:Cx}{Z:ZK}(_:Thr X Z):∀ e s',XE X Z e s'->X.xe e s':=λ _ _ h=>False.elim h
theorem Thr.toXOk {X:Cx}{Z:ZK}(_:Thr X Z):True:=trivial
def CXs (P:204)(w:World):CXT:=λ _ _ _ _ _ _=>False
theorem z3y {X:Cx}{Z:ZK}:Thr X Z:=trivial
def BG (sp:Sp)(dvs:193)(Z:ZK)(t:TA):TE:=λ σ H Q=>t σ H λ vs H1=>sp (vs++dvs) H1 Q (λ C _ H'=>Z σ C H')
section
variable {X:Cx}{k:Nat}{f C:Addr}{fd:FuncData}{ps:XQ}{sp:Sp}{dvs:193}{ds:XV}{Z:ZK}{x m:Str}{p pos apos:Pos}{e o:Expr}{es:288}{ta:TE}{t:TA}
theorem z3z (F:225)(hr:Room k X.A)(hb:Binds X.K fd ps ds)(hd:Vals dvs ds)(th:Thr X Z)
  (I:131) (r:Vals vs us) (h:sp (vs++dvs) H Q (λ C _ H'=>Z σ C H')):wpAny 132 X.A (call 269 us) 231 X.xe s :=
 z7x F hr hb hd (E:=λ C _ H'=>Z σ C H') (λ _ _ _ _ _ _ _ h=>h.elim) I r h
theorem BH (F:225)(hr:Room k X.A)(hg:Gl X x)(hm:X.mg x=some 269)(hk:PySem.W.keepIn X.K 269=true)(hb:Binds X.K fd ps ds)(hd:Vals dvs ds)(th:Thr X Z)
  (ha:PA X (e::es) t) (hdb:159=false:=by decide) (he:starEach (e::es) X.env=284::starEach es X.env:=by rfl) (hpl:(backTo pos (starEach es X.env)).any (·.1)=false:=by rfl) :
  PE X (.Call (.Name x p) (e::es) [] pos) (BG sp dvs Z t):=by
 intro pins s σ H Q I h;refine wpAny_Call_Name_kw (WF I hg hm ?_ hdb);refine PySem.W.callWith_K I.ok.mod.kin hk (thn (ha pos pins s σ H _ I h) λ us s1 ⟨vs,H1,I1,r,q⟩=>⟨I1.kIn,?_⟩) he hpl;exact z3z F hr hb hd th I1 r q
end
def Jy (env:Env):List (Str×NameKind)->List (Str×Addr)->List (Str×Addr)
 | [],cs=>cs
 | (n,k)::r,cs=>Jy env r (if k==.free then (n,(env.cells.lookup n).getD 0)::cs else cs)
def Yg (scope:Scope)(env:Env):List (Str×Addr):=Jy env scope.names []
theorem Zx (h:∀ y∈scope.names,y.2=.free->∃ c,env.cells.lookup y.1=some c):closureFor scope env=pure (Yg scope env):=by
 unfold closureFor Yg;have go:∀ (l:List (Str×NameKind)) (cs:List (Str×Addr)),(∀ y∈l,y.2=.free->∃ c,env.cells.lookup y.1=some c) ->
   (forIn l cs λ (x:Str×NameKind) (r:List (Str×Addr))=>(match x with
    | (name,kind)=>if (kind==NameKind.free)=true then (do let a <- cellOf env name;pure (ForInStep.yield ((name,a)::r))) else (pure (ForInStep.yield r)):Sem (ForInStep (List (Str×Addr)))))=(pure (Jy env l cs):Sem (List (Str×Addr))):=by
  intro l
  induction l with
  | nil=>intro cs _;rfl
  | cons y r ih =>
   intro cs hl;obtain ⟨n,k⟩:=y;rw [List.forIn_cons];by_cases hk:(k==NameKind.free)=true
   ·obtain ⟨c,hc⟩:=hl (n,k) (Y04 ..) (by simpa using hk);have e:cellOf env n=pure c:=by unfold cellOf;rw [hc]
    simp only [hk,if_true,e,pure_bind,Jy,hc,Y2x];exact ih _ λ y hy=>hl y (Y02 _ hy)
   ·simp only [hk,if_false,pure_bind,Jy,Y2r];exact ih _ λ y hy=>hl y (Y02 _ hy)
 have:=go scope.names [] h
 first
  | (rw [this];rfl)
  | (simp only [bind_pure_comp] at this ⊢;rw [this];rfl)
  | (simp only [bind_pure_comp] at this ⊢;rw [this];simp)
theorem Yh:∀ {l:List (Str×NameKind)}{cs:List (Str×Addr)}{x:Str}{c:Addr},(∀ y∈l,y.2=.free->∃ c,env.cells.lookup y.1=some c)->(x,c)∈Jy env l cs->(x,c)∈cs\/env.cells.lookup x=some c
 | [],_,_,_,_,h=>.inl h
 | (n,k)::r,cs,x,c,hl,h=>by
  rcases Yh (λ y hy=>hl y (Y02 _ hy)) h with h | h
  ·by_cases hk:(k==NameKind.free)=true
   ·rw [if_pos hk] at h;rcases Y08.mp h with e | h
    ·obtain ⟨c',hc⟩:=hl (n,k) (Y04 ..) (by simpa using hk);rw [hc] at e;cases e;exact .inr hc
    ·exact .inl h
   ·rw [if_neg hk] at h;exact .inl h
  ·exact .inr h
theorem W1:∀ {l:List (Str×NameKind)}{cs:List (Str×Addr)}{p:Str×Addr},p∈cs->p∈Jy env l cs
 | [],_,_,h=>h
 | (n,k)::r,cs,p,h=>by
  unfold Jy;refine W1 ?_
  split
  ·exact Y02 _ h
  ·exact h
theorem Zy:∀ {l:List (Str×NameKind)}{cs:List (Str×Addr)}{x:Str},(x,NameKind.free)∈l->∃ c,(x,c)∈Jy env l cs
 | (n,k)::r,cs,x,h=>by
  unfold Jy;rcases Y08.mp h with e | h
  ·cases e;exact ⟨(env.cells.lookup n).getD 0,W1 (by rw [if_pos 127];exact Y04 ..)⟩
  ·exact Zy h
theorem jo [BEq α][LawfulBEq α]:∀ {l:List (α×β)}{x:α}{c:β},(x,c)∈l->∃ c',l.lookup x=some c'
 | (n,k)::r,x,c,h=>by
  rw [Y2g];cases e:x==n with
  | true=>exact ⟨k,rfl⟩
  | false =>
   rcases Y08.mp h with q | q
   ·cases q;simp at e
   ·exact jo q
def jw (scope:Scope)(C:Addr)(env:Env):List (Str×Addr):=cellsFrom (C+1) scope.names (Yg scope env)
theorem j4:∀ (l:List (Str×NameKind)) (n:Nat) (acc:List (Str×Addr)),cellsFrom n l acc=cellsFrom n l []++acc
 | [],_,_=>rfl
 | (x,k)::r,n,acc=>by
  unfold cellsFrom;by_cases hk:(k==NameKind.cell)=true
  ·rw [if_pos hk,if_pos hk,j4 r (n+1) ((x,n)::acc),j4 r (n+1) [(x,n)],Y0i];rfl
  ·rw [if_neg hk,if_neg hk];exact j4 r n acc
theorem wq:∀ {l:List (Str×NameKind)}{n:Nat}{x:Str}{c:Addr},(x,c)∈cellsFrom n l []->(x,NameKind.cell)∈l
 | (y,k)::r,n,x,c,h=>by
  unfold cellsFrom at h;by_cases hk:(k==NameKind.cell)=true
  ·rw [if_pos hk,j4] at h;rcases Y0j.mp h with h | h
   ·exact Y02 _ (wq h)
   ·have e:x=y:=by simpa using (Y0d.mp h▸rfl:(x,c).1=(y,n).1)
    have e2:k=.cell:=by simpa using hk
    rw [e,e2];exact Y04 ..
  ·rw [if_neg hk] at h;exact Y02 _ (wq h)
theorem BI (h:(jw scope C env).lookup x=some c):(cellsFrom (C+1) scope.names []).lookup x=some c\/((cellsFrom (C+1) scope.names []).lookup x=none/\(Yg scope env).lookup x=some c):=by
 unfold jw at h;rw [j4,Y3v] at h;cases e:(cellsFrom (C+1) scope.names []).lookup x with
 | none=>rw [e] at h;exact .inr ⟨rfl,h⟩
 | some c'=>rw [e] at h;exact .inl h
theorem z88 (h:(cellsFrom (C+1) scope.names []).lookup x=some c):(jw scope C env).lookup x=some c:=by
 unfold jw;rw [j4,Y3v,h];rfl
theorem z89 (h:(Yg scope env).lookup x=some c)(h0:(cellsFrom (C+1) scope.names []).lookup x=none):(jw scope C env).lookup x=some c:=by
 unfold jw;rw [j4,Y3v,h0];exact h
theorem ZA {code:Value}
  (hQ:Q (newEnv scope s.heap.objs.size globals (cellsFrom 166 scope.names closure) qual func code (some e) builtins) { s with heap:=pushCells (s.heap.push { cls:=.type "dict",data:=.dict #[] }) scope.names }) :
  wpAny M A (newFunctionEnv scope globals closure [] qual func code (some e) builtins) Q E s:=by
 simp only [newFunctionEnv,Option.isSome_some,if_true];refine wpAny_bind (wpAny_alloc ?_);refine wpAny_bind (wpAny_layCells _ (λ name kind cells=>by cases hkc:kind==NameKind.cell<;>simp [hkc]) _ _ _ _ ?_);rw [show ({ s with heap:=s.heap.push { cls:=.type "dict",data:=.dict #[] } }:Shared).heap.objs.size=s.heap.objs.size+1 from Y1e ..];refine wpAny_bind ?_;rw [List.forIn_nil];exact wpAny_pure (wpAny_pure hQ)
abbrev zJ (X:Cx)(NC:XQ)(scope:Scope)(C:Addr)(s:153)(H:Hp)(ex:XZ)(pn:137)(xe:XU):Cx :=
  { X with N:=NC,s₀:=s,H₀:=H,env:=compEnvC scope (jw scope C X.env) C X.env,outer:=X.stack,stack:=X.stack,ex:=ex,fn:=λ x=>scope.names.lookup x==some .cell,calm:=true,pn:=pn,xe:=xe }
def jp (osc scope:Scope)(N NC:XQ)(cap:249):Bool :=
 scope.kind==.function&&scope.names.all (λ y=>y.2 != .cell||scope.names.lookup y.1==some .cell) &&
 scope.names.all (λ y=>y.2 != .local||scope.names.lookup y.1==some .local) &&
 scope.names.all (λ y=>y.2 != .free||osc.names.lookup y.1==some .cell)&&cap.length==NC.length &&
 (List.range NC.length).all λ j=>match cap[j]?,NC[j]? with
  | some (some i),some x=>N[i]?==some x&&scope.names.lookup x==some .free
  | some none,some x=>scope.names.lookup x==some .local||scope.names.lookup x==some .cell
  | _,_=>false
def wX (cap:249)(σ:St):St:=cap.map λ o=>o.bind λ i=>(σ[i]?).bind id
theorem wI {scope:Scope}{env:Env}(hk:env.scope.kind=.function):∀ {names:List (Str×NameKind)},(∀ y∈names,y.2=.free->env.kindOf y.1=some .cell) ->
  (names.map λ (n,k)=>if (k==NameKind.free&&env.scope.kind==.function&&env.kindOf n==some .cell) then (n,NameKind.cell) else (n,k)).lookup x=(names.lookup x).map λ k=>if k=.free then .cell else k
 | [],_=>rfl
 | (n,k)::r,h=>by
  have ih:=wI (scope:=scope) (x:=x) hk λ y hy=>h y (Y02 _ hy);show List.lookup x ((if (k==NameKind.free&&env.scope.kind==.function&&env.kindOf n==some .cell)=true then (n,NameKind.cell) else (n,k))::_)=_;by_cases hkf:k=.free
  ·subst hkf;rw [if_pos (by rw [hk,h (n,.free) (Y04 ..) rfl];decide)];rw [Y2g,Y2g];cases e:x==n with
   | true=>rfl
   | false=>exact ih
  ·rw [if_neg (by intro z;simp only [Y0l,beq_iff_eq] at z;exact hkf z.1.1)];rw [Y2g,Y2g];cases e:x==n with
   | true=>simp [hkf]
   | false=>exact ih
section
variable {X:Cx}{pins:137}{σ:St}{H H':Hp}{s s':153}
theorem Inv.repn (I:131)(h:∀ p∈pn++pins',p∈X.pn++pins):Inv { X with pn:=pn,xe:=xe } pins' σ H s :=
 ⟨⟨I.ok.mod,I.ok.kind,I.ok.glob,I.ok.blt,I.ok.above,I.ok.inj,I.ok.has,I.ok.cab,I.ok.hd,I.ok.frames,I.ok.stk,I.ok.exf,I.ok.bs,I.ok.bsz,I.ok.noex,I.ok.exfs,I.ok.funs,I.ok.frf⟩,
  I.os,I.bare,I.base,I.loc,I.cell,I.free,I.freeC,λ p hp=>I.pin p (h p hp),I.hok,I.len⟩
theorem Inv.track (I:131)(hD:H D=none)(h0:X.s₀.heap.get? D=none)(hL:D≠X.env.locals)(hC:∀ x c,X.env.cells.lookup x=some c->c≠D)(hp:∀ p∈X.pn++pins,p.1≠D)
  (new:ObjOk X.prog X.w (upd H D o) s.heap D o):Inv X pins σ (upd H D o) s:=by
 have up:∀ b u,H b=some u->upd H D o b=some u:=λ b u e=>by rw [zr (jF e hD)];exact e
 refine ⟨I.ok,I.os,I.bare,⟨I.base.keep,I.base.slot,λ b u e n hx=>?_,I.base.there,λ b xs e=>up _ _ (I.base.tups b xs e),λ b u xs e=>up _ _ (I.base.frzs b u xs e),λ b ps e=>?_⟩,I.loc,I.cell,?_,λ x c e=>?_,λ p hq=>?_,λ b u e=>?_,I.len⟩
 ·rw [zr (λ z=>by rw [z,h0] at e;cases e)];exact I.base.free b u e n hx
 ·obtain ⟨more,q⟩:=I.base.tbls b ps e;exact ⟨more,up _ _ q⟩
 ·rw [zr (Ne.symm hL)];exact I.free
 ·rw [zr (hC x c e)];exact I.freeC x c e
 ·obtain ⟨e,n,r⟩:=I.pin p hq;exact ⟨e,by rw [zr (hp p hq)];exact n,r⟩
 ·by_cases hb:b=D
  ·subst hb;rw [zC] at e;cases e;exact new
  ·rw [zr hb] at e;exact (I.hok b u e).stay (λ _ _ _ q=>q) (λ c q=>up _ _ q) λ c xs q=>up _ _ q
end
def PF (X:Cx)(ifs:288)(t:TT):Prop :=
 ∀ (pins:137) (s:153) (σ:St) (H:Hp) (Q:Bool->Hp->Prop),Inv X pins σ H s->t σ H Q ->
  wpAny 132 X.A (forIn ifs true λ c r=>if r=true then do let ok <- isTrue c X.env (eval c X.env);pure (ForInStep.yield ok) else pure (ForInStep.yield r)) (TP X pins σ Q) X.xe s
def z40:TT:=λ _ H Q=>Q true H
theorem z8a:PF X [] z40:=λ pins s σ H Q I h=>wpAny_tests_nil ⟨H,I,h⟩
theorem BJ (h:PT X c t):PF X [c] t:=λ pins s σ H Q I q=>wpAny_tests_one (h pins s σ H Q I q)
theorem jl (h:jp osc scope N NC cap=true) :
  scope.kind=.function/\(∀ y∈scope.names,y.2=.cell->scope.names.lookup y.1=some .cell)/\(∀ y∈scope.names,y.2=.local->scope.names.lookup y.1=some .local)/\(∀ y∈scope.names,y.2=.free->osc.names.lookup y.1=some .cell)/\cap.length=NC.length /\
  (∀ (j i:Nat),cap[j]?=some (some i)->∃ x,NC[j]?=some x/\N[i]?=some x/\scope.names.lookup x=some .free)/\∀ (j:Nat) (x:Str),cap[j]?=some none->NC[j]?=some x->scope.names.lookup x=some .local\/scope.names.lookup x=some .cell:=by
 unfold jp at h;simp only [Y0l,Y17,bne_iff_ne,ne_eq,Y1q,beq_iff_eq,Y1n] at h;obtain ⟨⟨⟨⟨⟨h1,h2⟩,h3⟩,h4⟩,h5⟩,h6⟩:=h;refine ⟨h1,λ y hy e=>(h2 y hy).resolve_left λ z=>z e,λ y hy e=>(h3 y hy).resolve_left λ z=>z e,λ y hy e=>(h4 y hy).resolve_left λ z=>z e,h5,λ j i e=>?_,λ j x e ex=>?_⟩
 ·have hj:j<NC.length:=by rw [<- h5];exact (Y00.mp e).1
  have q:=h6 j hj;rw [e] at q;cases ex:NC[j]? with
  | none=>rw [ex] at q;simp at q
  | some x =>
   rw [ex] at q;simp only [Y0l,beq_iff_eq] at q;exact ⟨x,rfl,q.1,q.2⟩
 ·have hj:=(Y00.mp ex).1;have q:=h6 j hj;rw [e,ex] at q;simpa using q
section
variable {X:Cx}{pins:137}{σ:St}{H₂:Hp}{s₂:153}{scope:Scope}{NC:XQ}{cap:249}{fp:XZ}
theorem Uu (I:Inv X pins σ H₂ s₂)(hc:216)(cok:180)(f2:∀ b∈fp,Z3 X pins H₂ b)(hfp:∀ b∈fp,∃ o,s₂.heap.get? b=some o)
  (hD:D=s₂.heap.objs.size) (hC:C=s₂.heap.objs.size+1) (old:∀ b o,s₂.heap.get? b=some o->h₁.get? b=some o) (hacc:h₁.get? D=some o) (ho:∀ v,o.data≠.cell v) (ns:h₁.Ns C m) (own:CellsOk h₁ (C+1) (cellsFrom (C+1) scope.names [])) :
  Inv (zJ X NC scope C s₂ H₂ fp [] xe) [(D,o)] (wX cap σ) H₂ { s₂ with heap:=h₁,toks:=tk }:=by
 obtain ⟨c1,c2,c3,c4,c5,c6,c7⟩:=jl cok;have hfree:∀ y∈scope.names,y.2=.free->∃ c,X.env.cells.lookup y.1=some c:=λ y hy e=>I.ok.has y.1 (.inl (c4 y hy e));have clx:∀ x c,(Yg scope X.env).lookup x=some c->X.env.cells.lookup x=some c:=λ x c e=>by
  rcases Yh hfree (Y11 e) with z | z
  ·simp at z
  ·exact z
 have ccx:∀ x c,(jw scope C X.env).lookup x=some c->(cellsFrom (C+1) scope.names []).lookup x=some c\/X.env.cells.lookup x=some c:=λ x c e=>(BI e).imp id λ z=>clx x c z.2;have hrel:∀ x,(compEnvC scope (jw scope C X.env) C X.env).kindOf x=(scope.names.lookup x).map λ k=>if k=.free then .cell else k:=λ x=>wI (scope:=scope) I.ok.kind λ y hy e=>c4 y hy e;have fresh:∀ b,s₂.heap.objs.size<=b->s₂.heap.get? b=none:=λ b hb=>Y2d hb;have sz:s₂.heap.objs.size<=C:=by rw [hC];exact Y2j _
 have szD:s₂.heap.objs.size<=D:=by rw [hD];exact Y0b _
 have ownF:∀ x c,(cellsFrom (C+1) scope.names []).lookup x=some c->s₂.heap.get? c=none/\s₂.heap.objs.size<=c:=λ x c e=>by
  have q:=(own.empty x c (Y11 e)).2;have q2:s₂.heap.objs.size<=c:=by rw [hC] at q;omega
  exact ⟨fresh c q2,q2⟩
 have cloF:∀ x c,X.env.cells.lookup x=some c->c<s₂.heap.objs.size:=λ x c e=>by
  obtain ⟨v,q⟩:=I.cell x c e;exact q.lt
 have inj:∀ x y c,(jw scope C X.env).lookup x=some c->(jw scope C X.env).lookup y=some c->x=y:=λ x y c e1 e2=>by
  rcases ccx x c e1 with z1 | z1<;>rcases ccx y c e2 with z2 | z2
  ·exact name_of_addr own.apart (Y11 z1) (Y11 z2)
  ·exact absurd (cloF y c z2) (Nat.not_lt.mpr (ownF x c z1).2)
  ·exact absurd (cloF x c z1) (Nat.not_lt.mpr (ownF y c z2).2)
  ·exact I.ok.inj x y c z1 z2
 have exC:∀ b∈fp,b≠C:=λ b hb z=>by
  obtain ⟨o,e⟩:=hfp b hb;rw [z,fresh C sz] at e;cases e
 have exD:∀ b∈fp,b≠D:=λ b hb z=>by
  obtain ⟨o,e⟩:=hfp b hb;rw [z,fresh D szD] at e;cases e
 refine ⟨⟨I.ok.mod,c1,I.ok.glob,I.ok.blt,sz,inj,λ x hx=>?_,λ x c z e=>?_,λ _=>I.ok.hd hc,I.ok.frames,.inl rfl,λ b hb=>⟨exC b hb,λ x c e=>?_⟩,
  I.bs,Y0y I.ok.bsz I.sz,λ b o e z=>?_,λ b hb z=>?_,I.stack,I.stkFree⟩,rfl,I.bare,Un.kept old,⟨m,ns,λ j x v e1 e2 e3=>?_⟩,λ x c e=>?_,I.hok.fresh sz,λ x c e=>?_,λ p hp=>?_,I.hok.kept old,?_⟩
 ·rw [hrel] at hx;have hxf:scope.names.lookup x=some .free\/scope.names.lookup x=some .cell:=by
   cases e:scope.names.lookup x with
   | none=>rw [e] at hx;simp at hx
   | some k =>
    rw [e] at hx;by_cases hk:k=.free
    ·rw [hk];exact .inl rfl
    ·simp only [Y3l,if_neg hk,Option.some.injEq] at hx;rcases hx with z | z
     ·rw [z];exact .inr rfl
     ·exact absurd z hk
  rcases hxf with hxf | hxf
  ·obtain ⟨c,hm⟩:=Zy (Y11 hxf);obtain ⟨c',hl⟩:=jo hm;exact Y2k.mp (Y24 _ _ _ (.inr (by rw [show (Yg scope X.env).lookup x=some c' from hl];rfl)))
  ·exact Y2k.mp (Y24 _ _ _ (.inl hxf))
 ·have hx:scope.names.lookup x=some .cell:=by simpa using z
  obtain ⟨c',hl⟩:=Y2k.mp (Y24 scope.names (C+1) [] (.inl hx));have e':(jw scope C X.env).lookup x=some c:=e;rw [z88 hl] at e';cases e';exact (ownF x _ hl).2
 ·rcases ccx x c e with z | z
  ·intro q;obtain ⟨o,eb⟩:=hfp b hb;rw [<- q,(ownF x c z).1] at eb;cases eb
  ·exact (f2 b hb).2.2.2.2.1 x c z
 ·obtain ⟨e1,e2⟩:=I.bs b o e
  have:=(f2 b z).2.2.2.1
  rcases this with q | q
  ·exact I.ok.noex b o e q
  ·exact absurd (Y0w (Y0g (I.ok.bs b o e).1) q) (Y1b _)
 ·rcases Y08.mp (I.stkSub b z) with q | q
  ·exact (f2 b hb).2.1 q
  ·exact (f2 b hb).2.2.1 q
 ·have ej:cap[j]?=some ((some ((cap[j]?.bind id).getD 0):Option Nat)):=by
   unfold wX at e2;rw [Y0r] at e2;cases q:cap[j]? with
   | none=>rw [q] at e2;simp at e2
   | some oo =>
    rw [q] at e2;cases oo with
    | none=>simp at e2
    | some i=>simp
  generalize ((cap[j]?.bind id).getD 0)=i at ej;obtain ⟨y,y1,y2,y3⟩:=c6 j i ej
  have:y=x:=Option.some.inj (y1.symm.trans e1)
  subst this;have ev:σ[i]?=some (some v):=by
   unfold wX at e2;rw [Y0r,ej] at e2;simp only [Y3l,Y2f,Option.some.injEq] at e2;cases q:σ[i]? with
   | none=>rw [q] at e2;simp at e2
   | some w=>rw [q] at e2;simp at e2;rw [e2]
  have kc:=c4 (y,.free) (Y11 y3) rfl;obtain ⟨m',hn',hl'⟩:=I.loc;obtain ⟨u,r,q⟩:=hl' i y v y2 ev (.inr (.inl kc));refine ⟨u,r,.inr ⟨.inl (by rw [hrel,y3];rfl),?_⟩⟩;rcases q with ⟨k,_⟩ | ⟨k,c,e,z⟩
  ·rw [show X.env.kindOf y=some .cell from kc] at k;cases k
  ·obtain ⟨c',hm⟩:=Zy (Y11 y3);obtain ⟨c'',hl⟩:=jo hm
   have:=clx y c'' hl
   rw [e] at this;cases this;obtain ⟨oc,h1,h2⟩:=z;refine ⟨c,z89 hl ?_,oc,old c oc h1,h2⟩;cases eo:(cellsFrom (C+1) scope.names []).lookup y with
   | none=>rfl
   | some c2' =>
    have q1:=c2 (y,.cell) (wq (Y11 eo)) rfl;rw [y3] at q1;cases q1
 ·rcases ccx x c e with z | z
  ·exact ⟨none,(own.empty x c (Y11 z)).1⟩
  ·obtain ⟨v,oc,h1,h2⟩:=I.cell x c z;exact ⟨v,oc,old c oc h1,h2⟩
 ·rcases ccx x c e with z | z
  ·exact I.hok.fresh (ownF x c z).2
  ·exact I.freeC x c z
 ·have e:p=(D,o):=by simpa using hp
  subst e;refine ⟨hacc,I.hok.fresh szD,λ z=>by rw [hC,hD] at z;exact absurd z (Y0k (Y1p _)),λ z=>?_,ho⟩;obtain ⟨_,ob,e,_⟩:=I.stack.mem z;rw [fresh D szD] at e;cases e
 ·unfold wX;rw [Y07];exact c5
theorem Uv (I:Inv X pins σ H₂ s₂)(f2:∀ b∈fp,Z3 X pins H₂ b)(hC:C=s₂.heap.objs.size+1)
  (J:Inv 232 pc σ' H' s') (sb:Heap.SameBut C s'.heap h'):Inv X pins σ H' { s' with heap:=h' }:=by
 have fC:s₂.heap.get? C=none:=Y2d (by rw [hC];exact Y2j _);have nC:∀ b o,s₂.heap.get? b=some o->b≠C:=λ b o e z=>by rw [z,fC] at e;cases e
 have u:Un (frs X.stack) fp H₂ H' s₂.heap h':=by
  have v:=J.base;refine ⟨λ b o e n hb hx=>(sb.2 b (nC b o e)).trans (v.keep b o e n hb hx),λ b o e n hb hx=>?_,v.free,λ b o e hx=>?_,v.tups,v.frzs,v.tbls⟩
  ·obtain ⟨sl,q⟩:=v.slot b o e n hb hx;exact ⟨sl,(sb.2 b (nC b o e)).trans q⟩
  ·obtain ⟨o',q⟩:=v.there b o e hx;exact ⟨o',(sb.2 b (nC b o e)).trans q⟩
 have hok:=λ b o e=>by
  refine (J.hok b o e).stay (λ c w hc q=>(sb.2 c λ z=>?_).trans q) (λ _ q=>q) λ _ _ q=>q;have fr:H' C=none:=J.free;subst z;rcases hc with rfl | hc
  ·rw [fr] at e;cases e
  ·rw [fr] at hc;cases hc
 exact I.call' J.os u hok J.bare λ b hb=>⟨(f2 b hb).2.2.2.1,(f2 b hb).2.1,(f2 b hb).2.2.2.2.1,(f2 b hb).2.2.2.2.2⟩
end
def zb3 (σ σ':St):Prop:=σ'.length=σ.length/\∀ (i:Nat) v,σ[i]?=some (some v)->σ'[i]?=some (some v)
section
variable {prog:204}{w:World}{A:296}{R:Result->Shared->Prop}{s:153}
theorem WR (I:Nat->Shared->Prop)
  (turn:∀ n s,I n s->wpAny 139 A (pyNext it) (λ r s₁=>match r with
   | none=>R (.ok .next) s₁
   | some v=>wpAny 139 A (letOwnedTupleGo target it v) (λ _ s₁'=>wpAny 139 A (assign target env v) (λ _ s₂ =>
     wpAny 139 A (forIn ifs true λ c r=>if r=true then do let ok <- isTrue c env (eval c env);pure (ForInStep.yield ok) else pure (ForInStep.yield r)) (λ ok s₃ =>
      if ok=true then wpAny 139 A (eval elt env) (λ x s₄ =>
       wpAny 139 A (call (.builtin "list.append") [acc,x]) (λ _ s₅=>∃ m,m<n/\I m s₅) 194 s₄) 194 s₃
      else ∃ m,m<n/\I m s₃) 194 s₂) 194 s₁') 194 s₁) 194 s)
  (n:Nat) (h:I n s):codeAny 139 A (.compLoop (.ListComp elt [⟨target,iter,ifs,0⟩] scope pos) 0 it acc env) R s:=by
 refine codeAny_loop rfl I (λ n s hI=>?_) n h;show wpAny _ A ((compTurn (.ListComp elt [⟨target,iter,ifs,0⟩] scope pos) 0 it acc env).onRaise (λ x=>do noteFrame x env;theTreesLotGoes x)) _ _ s;refine wpAny_noted ?_;rw [compTurn_list];refine wpAny_bind (wpAny_standAt (wpAny_bind (wpAny_mono (turn n s hI) (λ r s₁ h₁=>?_) λ _ _ h'=>h')));cases r with
 | none=>exact wpAny_pure h₁
 | some v =>
  refine wpAny_bind (wpAny_mono h₁ (λ _ s₁' h₁'=>?_) λ _ _ h'=>h');refine wpAny_bind (wpAny_mono h₁' (λ _ s₂ h₂=>wpAny_bind (wpAny_mono h₂ (λ ok s₃ h₃=>?_) λ _ _ h'=>h')) λ _ _ h'=>h');cases ok with
  | false=>exact wpAny_pure ⟨rfl,h₃⟩
  | true =>
   exact wpAny_bind (wpAny_bind (wpAny_mono h₃ (λ x s₄ h₄=>wpAny_bind (wpAny_mono h₄ (λ _ s₅ h₅=>wpAny_pure (wpAny_pure ⟨rfl,h₅⟩)) λ _ _ h'=>h')) λ _ _ h'=>h'))
end
section
variable {X:Cx}{σ:St}{H:Hp}{s:153}
theorem Inv.repin (I:Inv X [(D,o)] σ H s)(hpn:∀ p∈X.pn,p.1≠D)(h0:X.s₀.heap.objs.size<=D)(ho':∀ v,o'.data≠.cell v)(sb:Heap.SameBut D s.heap h')(e':h'.get? D=some o') :
  Inv X [(D,o')] σ H { s with heap:=h' }:=by
 obtain ⟨e,n,ne,nf,d⟩:=I.pin (D,o) (Y0s _ 130);have I0:Inv X [] σ H s:=I.pins_of λ p hp=>absurd hp 130;have I1:Inv X [] σ H { s with heap:=h' }:=I0.turned (λ b u hb q=>(sb.2 b hb).trans q) n ne (.inr h0) (λ x c ec z=>by
  obtain ⟨v,oc,h1,h2⟩:=I.cell x c ec;subst z;rw [e] at h1;cases h1;exact d v h2) λ p hp=>hpn p (by simpa using hp)
 refine I1.pins_of λ p hp=>?_;have q:p=(D,o'):=by simpa using hp
 subst q;exact ⟨e',n,ne,nf,ho'⟩
end
section
variable {X:Cx}{pins:137}{σ:St}{H₂:Hp}{s₂:153}{scope:Scope}{NC:XQ}{cap:249}{fp:XZ}{elt tg iter:Expr}{ifs:288}{pos:Pos}{Z:ZK}{J:It}{it:Addr}{tn:Nat->Heap->Prop}
 {g:TG}{tf:TT}{te:TE}{use:Option (Value->Sem Unit)}{Qv:XU}
theorem W2 (hc:216)(th:Thr X Z)(I:Inv X pins σ H₂ s₂)(T:Turn X.prog X.w X.K tg J fp it tn)(st2:tn 0 s₂.heap)(f2:∀ b∈fp,Z3 X pins H₂ b)(cok:180)
  (hg:∀ C pn xe,PG 232 tg g)
  (hf:∀ C pn xe,Thr 232 (λ _ C' H'=>Z σ C' H')->PF 232 ifs tf)
  (hb:∀ C pn xe,Thr 232 (λ _ C' H'=>Z σ C' H')->PE 232 elt te)
  (W:Nat->Nat->List V->Hp->Prop) (m0:Nat) (w0:W 0 m0 [] H₂) {Fn:List V->Hp->Prop}
  (turn:∀ i m ys H2,W i m ys H2->(J.stop i H2/\Fn ys H2)\/(J.go i H2/\ys.length<sizeLine/\∀ x H3,J.yld i H2 x H3->g x (wX cap σ) H3 λ σ4 H4=>zb3 (wX cap σ) σ4/\tf σ4 H4 λ b H5 =>
   if b=true then te σ4 H5 λ y H6=>∃ m',m'<m/\W (i+1) m' (ys++[y]) H6 else ∃ m',m'<m/\W (i+1) m' ys H5))
  (fin:∀ (C D:Addr) (s':153) (H':Hp) (ys:193) (us:XV) (n:Nat),Fn ys H'->Vals ys us->s'.heap.get? D=some { cls:=.type "list",data:=.seq us.toArray n }->H' D=none->H' C=none->D=s₂.heap.objs.size->C=s₂.heap.objs.size+1 ->
   (∃ m,s'.heap.Ns C m)->(∀ h',Heap.SameBut C s'.heap h'->Inv X pins σ H' { s' with heap:=h' })->compPost 132 X.A X.xe use Qv (.ref D) C (.ok .next) s') :
  wpAny 132 X.A (newList []) (λ acc s₃=>wpAny 132 X.A (newFunctionEnv scope X.env.globals (Yg scope X.env) [] X.env.qual none .none (some X.env)) (λ cenv s₄ =>
   codeAny 132 X.A (.compStart 186 0 (.ref it) acc { cenv with scope:=relabel scope X.env }) (compPost 132 X.A X.xe use Qv acc cenv.locals) s₄) X.xe s₃) X.xe s₂:=by
 obtain ⟨c1,c2,c3,c4,c5,c6,c7⟩:=jl cok;refine wpAny_newObj_type (ZA ?_);dsimp only;generalize hH2:s₂.heap.push { cls:=.type "list",dict:=none,data:=.seq ([]:List Value).toArray }=H2;generalize hh1:pushCells (H2.push { cls:=.type "dict",data:=.dict #[] }) scope.names=h₁;have hns₁:=hh1▸(Heap.Ns.new H2 (.type "dict")).keeps (pushCells_keeps _ _);have own₁:CellsOk h₁ (H2.objs.size+1) (cellsFrom (H2.objs.size+1) scope.names []):=by
  have ok:=cellsFrom_ok scope.names (H2.push { cls:=.type "dict",data:=.dict #[] }) (H2.objs.size+1) [] ⟨λ _ _ hm=>(nomatch hm),List.Pairwise.nil⟩ (by rw [Y1e];exact Y0b _);rw [Y1e,hh1] at ok;exact ok
 have hC:H2.objs.size=s₂.heap.objs.size+1:=by rw [<- hH2,Y1e]
 have hDC:s₂.heap.objs.size≠H2.objs.size:=by rw [hC];exact Y0k (Y1p _)
 have below:∀ b,b<s₂.heap.objs.size->b≠H2.objs.size:=λ b hb=>by rw [hC];exact Y0k (Y2u hb)
 have old:∀ b o,s₂.heap.get? b=some o->h₁.get? b=some o:=λ b o e=>hh1▸pushCells_keeps _ _ _ _ (Y03 _ (hH2▸Y03 _ e));have hacc:=hh1▸pushCells_keeps _ _ _ _ (Y03 _ (hH2▸Y0c _ rfl));have hfp:∀ b∈fp,∃ o,s₂.heap.get? b=some o:=λ b hb=>let ⟨o,e,_⟩:=T.obj _ _ st2 b hb;⟨o,e⟩;have nodata:∀ (us:XV) (n:Nat) v,({ cls:=.type "list",data:=.seq us.toArray n }:Obj).data≠.cell v:=λ us n v z=>by cases z
 have fpD:∀ b∈fp,b≠s₂.heap.objs.size:=λ b hb z=>by
  obtain ⟨o,e⟩:=hfp b hb;exact absurd (Y0g e) (by rw [z];exact Y1b _)
 generalize hEn:(notedBy 132 X.A (compEnvC scope (jw scope H2.objs.size X.env) H2.objs.size X.env) λ e s'=>compPost 132 X.A X.xe use Qv (.ref s₂.heap.objs.size) H2.objs.size (.error e) s')=En;have loop:∀ s₃:Shared,s₃={ s₂ with heap:=h₁,toks:=s₂.toks } ->
   codeAny 132 X.A (.compLoop 186 0 (.ref it) (.ref s₂.heap.objs.size) (compEnvC scope (jw scope H2.objs.size X.env) H2.objs.size X.env))
    (compPost 132 X.A X.xe use Qv (.ref s₂.heap.objs.size) H2.objs.size) s₃:=by
  rintro s₃ rfl
  refine WR (λ k s'=>∃ i ys us n H',Vals ys us/\W i k ys H'/\tn i s'.heap/\(∀ b∈fp,H' b=none) /\
   Inv 222 292 (wX cap σ) H' s') ?_ m0
   ⟨0,[],[],0,H₂,.nil,w0,T.keep _ _ _ st2 λ b _ o e=>old b o e,λ b hb=>(f2 b hb).1,Uu I hc cok f2 hfp rfl hC old hacc (nodata _ _) hns₁ own₁⟩
  rw [hEn]
  rintro k s' ⟨i,ys,us,n,H',rv,w,st,fr,Ic⟩
  have Fp:∀ {H':Hp}{us:XV}{n:Nat},(∀ b∈fp,H' b=none)->∀ b∈fp,Z3 222 [(s₂.heap.objs.size,({ cls:=.type "list",data:=.seq us.toArray n }:Obj))] H' b:=λ {H' us n} hn b hb=>by
   have q:=Ic.ok.exf b hb;refine ⟨hn b hb,q.1,λ z=>Ic.ok.exfs b hb z,.inl hb,q.2,λ p hp=>?_⟩;have e:p=(s₂.heap.objs.size,({ cls:=.type "list",data:=.seq us.toArray n }:Obj)):=by simpa using hp
   subst e;exact (fpD b hb).symm
  rcases turn i k ys H' w with ⟨stop,q⟩ | ⟨go,hlen,step⟩
  ·refine wpAny_mono (T.done 222 rfl rfl rfl rfl i _ s' _ H' En Ic (Fp fr) st stop) (λ r s4 h4=>?_) λ _ _ x=>x;obtain ⟨hr,I4⟩:=h4;subst hr;obtain ⟨m,ns,_⟩:=id I4.loc;obtain ⟨p1,p2,_⟩:=I4.pin _ (Y0s _ (Y0d.mpr rfl));exact fin _ _ s4 H' ys us n q rv p1 p2 I4.free rfl hC ⟨m,ns⟩ λ h' sb=>Uv I f2 hC I4 sb
  ·refine wpAny_mono (T.item 222 rfl rfl rfl rfl i _ s' _ H' En Ic (Fp fr) st go) (λ r s4 h4=>?_) λ _ _ x=>x;obtain ⟨u,hr,h4⟩:=h4;subst hr;refine wpAny_mono h4 (λ _ s5 h5=>?_) λ _ _ x=>x;obtain ⟨x,H5,I5,r5,y5,st5,fr5⟩:=h5;have I5':Inv (zJ X NC scope H2.objs.size s₂ H₂ fp (qD fp s5.heap) En) 292 (wX cap σ) H5 s5 :=
    (I5.pinned (Fp fr5) (T.obj _ _ st5)).repn λ p hp=>by
     rcases Y0j.mp hp with z | z
     ·exact Y0s _ (Y0s _ z)
     ·exact Y0s _ (Y1h _ z)
   have thx:Thr (zJ X NC scope H2.objs.size s₂ H₂ fp (qD fp s5.heap) En) (λ _ C' H'=>Z σ C' H'):=trivial;refine wpAny_mono (hg _ _ En _ s5 _ H5 x u _ I5' r5 (step x H5 y5)) (λ _ s6 h6=>?_) λ _ _ x=>x;obtain ⟨σ6,H6,I6,wk,q6⟩:=h6;refine wpAny_mono (hf _ _ En thx _ s6 σ6 H6 _ I6 q6) (λ b s7 h7=>?_) λ _ _ x=>x;obtain ⟨H7,I7,q7⟩:=h7;have back:∀ {s8:153}{H8:Hp}{ys':193}{us':XV}{n' m':Nat},Inv (zJ X NC scope H2.objs.size s₂ H₂ fp (qD fp s5.heap) En) [(s₂.heap.objs.size,{ cls:=.type "list",data:=.seq us'.toArray n' })] σ6 H8 s8->Vals ys' us'->m'<k->W (i+1) m' ys' H8 ->
     ∃ m,m<k/\∃ i ys us n H',Vals ys us/\W i m ys H'/\tn i s8.heap/\(∀ b∈fp,H' b=none)/\Inv 222 292 (wX cap σ) H' s8:=by
    intro s8 H8 ys' us' n' m' I8 rv8 hm w8;refine ⟨m',hm,i+1,ys',us',n',H8,rv8,w8,T.keep _ _ _ st5 λ b hb o e=>(I8.pin (b,o) (Y1h _ (wG hb e))).1,λ b hb=>?_,?_⟩
    ·obtain ⟨o,e,d⟩:=T.obj _ _ st5 b hb;exact (I8.pin (b,o) (Y1h _ (wG hb e))).2.1
    ·have I9:=I8.weak (σ':=wX cap σ) wk.1.symm wk.2;exact I9.repn λ p hp=>Y0s _ (by simpa using hp)
   cases b with
   | false =>
    obtain ⟨m',hm,w8⟩:=q7;exact back I7 rv hm w8
   | true =>
    refine wpAny_mono (hb _ _ En thx _ s7 σ6 H7 _ I7 q7) (λ y s8 h8=>?_) λ _ _ x=>x;obtain ⟨v,H8,I8,rv8,m',hm,w8⟩:=h8;obtain ⟨p1,p2,_⟩:=I8.pin _ (Y0s _ (Y0d.mpr rfl));have hlu:=rv.length.symm;refine append_at p1 λ h9 sb9 e9=>?_;rw [List.push_toArray] at e9;have I9:=I8.repin (λ p hp=>by
     have q:=(JT hp).1;exact fpD _ q) 175 (nodata _ _) sb9 e9
    exact back I9 (rv.append (.cons rv8 .nil)) hm w8
 exact codeAny_compStart_list (loop _ rfl) (T.self _ 0 _ _ _ (T.keep _ _ _ st2 λ b _ o e=>old b o e) (loop _ rfl))
end
def zb4 (J:It)(H1:Hp)(cap:249)(σ:St)(g:TG)(tf:TT)(te:TE)(Q:VK):Prop:=∃ W:Nat->Nat->List V->Hp->Prop,(∃ m,W 0 m [] H1)/\∀ i m ys H2,W i m ys H2 ->
 (J.stop i H2/\ys.length<=sizeLine/\∀ p,H2 p=none->Q (.ref p) (upd H2 p (.lst ys))) \/
 (J.go i H2/\ys.length<sizeLine/\∀ x H3,J.yld i H2 x H3->g x (wX cap σ) H3 λ σ4 H4=>zb3 (wX cap σ) σ4/\tf σ4 H4 λ b H5 =>
  if b=true then te σ4 H5 λ y H6=>∃ m',m'<m/\W (i+1) m' (ys++[y]) H6 else ∃ m',m'<m/\W (i+1) m' ys H5)
def BK (Z:ZK)(cap:249)(wi:TI)(g:TG)(tf:ZK->TT)(te:ZK->TE):TE:=λ σ H Q=>wi σ H λ J H1=>zb4 J H1 cap σ g (tf (λ _ C H'=>Z σ C H')) (te (λ _ C H'=>Z σ C H')) Q
section
variable {X:Cx}{scope:Scope}{NC:XQ}{cap:249}{elt tg iter:Expr}{ifs:288}{pos:Pos}{Z:ZK}{wi:TI}{g:TG}{tf:ZK->TT}{te:ZK->TE}
theorem z41 (hc:216)(th:Thr X Z)(hi:PI X tg iter wi)(cok:180)
  (hg:∀ C s H fp pn xe,PG 148 tg g)
  (hf:∀ C s H fp pn xe Zc,Thr 148 Zc->PF 148 ifs (tf Zc))
  (hb:∀ C s H fp pn xe Zc,Thr 148 Zc->PE 148 elt (te Zc))
  (hs:∀ x,foldedSetIterable iter X.env x=pure x:=by intro _;rfl):PE X 186 (BK Z cap wi g tf te):=by
 intro pins s σ H Q I h;obtain ⟨c1,c2,c3,c4,c5,c6,c7⟩:=jl cok;rw [eval_ListComp];refine wpAny_comprehension_free rfl hs (Zx λ y hy e=>I.ok.has y.1 (.inl (c4 y hy e))) c1 c3 (thn (hi pins s σ H _ I h) λ xv s₁ h₁=>thn h₁ λ itv s₂ h₂=>?_);obtain ⟨it,fp,tn,J,H2,rfl,I2,T,st2,f2,W,⟨m0,w0⟩,turn⟩:=h₂;refine W2 hc th I2 T st2 f2 cok (λ C pn xe=>hg C s₂ H2 fp pn xe) (λ C pn xe t=>hf C s₂ H2 fp pn xe _ t) (λ C pn xe t=>hb C s₂ H2 fp pn xe _ t) W m0 w0 turn ?_
 rintro C D s' H' ys us n ⟨hlen,q⟩ rv e hn _ rfl rfl ⟨m,ns⟩ lv
 refine ⟨m,ns,λ h' sb=>?_⟩;have I':=lv h' sb;have eD:=(sb.2 _ (Y0k (Y1p _))).trans e;refine ⟨.ref s₂.heap.objs.size,_,I'.track (o:=.lst ys) hn (Y2d I2.sz) (Y20 I2.lt) (λ x c ec z=>?_) (λ p hp z=>?_) ⟨hlen,us,n,rv,eD⟩,rfl,q _ hn⟩
 ·obtain ⟨v,q⟩:=I2.cell x c ec;exact absurd q.lt (by rw [z];exact Y1b _)
 ·exact absurd (Y0g (I2.pin p hp).1) (by rw [z];exact Y1b _)
end
def z6f (K:Y01)(c D:Addr):Prop:=(∃ bmB newId,PySem.W.excIn K c bmB newId=true)/\∃ oc dd cd sl,K.lookup c=some ⟨oc,dd,.cls cd,sl⟩/\cd.mro.contains (.ref D)=true
section
variable {X:Cx}{tg:Expr}
theorem ZB:∀ {bs:List Bool}{us:XV},Vals (bs.map V.bl) us->PyProof.Rows.LSm.BoolsAre us bs
 | [],_,r=>by cases r;exact .nil
 | b::bs,_,r=>by
  cases r with
  | cons r1 r2=>cases (show _=Value.bool b from r1);exact .cons b (ZB r2)
theorem BL (hc:216):jh X (.builtin "all") (λ xs H Q=>∃ (p:Addr) (bs:List Bool),xs=[.ref p]/\SqL X.K H p (bs.map V.bl)/\Q (.bl (bs.all id)) H):=by
 intro pins s σ H xs us Q I r h;obtain ⟨p,bs,rfl,hq,q⟩:=h;obtain ⟨u,rfl,ru⟩:=qS r;cases ru;obtain ⟨its,rv,pl,hz⟩:=I.list hq;have hb:=ZB rv;have hl:=pl.isList;have hlt:p<s.heap.objs.size:=by obtain ⟨_,e,_⟩:=hl;exact Y0g e
 refine call_all_walk (wpAny_pyIter_list hl ?_);refine ⟨s.heap.objs.size,[s.heap.objs.size,p],[s.heap.objs.size],its.toArray.size,_,_,λ i=>(bs[i]?).getD true,rfl,Walks.list (A:=X.A.in1) (I.ok.hd hc) _ p (Y0k hlt) its.toArray,
  ⟨203,hl.push _⟩,λ i v s' Q' E' hP hQ=>?_,λ h' tk hk=>?_⟩
 ·obtain ⟨b,e,rfl⟩:=hb.get i v (by simpa using hP);simp only [e,Y2x] at hQ;exact wpAny_truthy_bool hQ
 ·have e:((List.range its.toArray.size).all λ i=>(bs[i]?).getD true)=bs.all id:=by
   rw [Y0f,hb.length];exact PyProof.Rows.LSm.range_all bs
  rw [e];exact ⟨.bl (bs.all id),H,I.kept (PyProof.Rows.LSm.kept_iter hk),rfl,q⟩
end
def zek (X:Cx)(st:List Stmt)(t:TS):Prop :=
 ∀ (pins:137) (s:153) (σ:St) (H:Hp) (D:Ends),Inv X pins σ H s->0<s.toks->t D σ H->wpAny 132 X.A (execs st X.env) (SP X pins D) X.xe s
structure Walk (J:It)(xs:193)(Pv:Hp->Prop):Prop where
 stop:∀ H,Pv H->J.stop xs.length H
 go:∀ i H,i<xs.length->Pv H->J.go i H
 yld:∀ i H x H',i<xs.length->Pv H->J.yld i H x H'->H'=H/\xs[i]?=some x
abbrev TJ:=St->Hp->Str->(Str->Hp->Prop)->Prop
section
variable {X:Cx}{e v₁ v₂:Expr}{es:288}{te:TE}{t:TJ}{c:Str}{k:Nat}{pos p:Pos}
def z42 (K:Y01)(neg:Bool):R2:=λ x y H Q=>∃ p q xs,x=.ref p/\y=.ref q/\SqL K H p xs/\SqL K H q []/\Q (.bl (if neg then !xs.isEmpty else xs.isEmpty)) H
theorem BM (hu:X.A.units<cLine):OpR X (compareOp .Eq) (z42 X.K false):=by
 intro pins s σ H x y v u Q I rx ry h;obtain ⟨p,q,xs,rfl,rfl,h1,h2,hq⟩:=h;cases rx;cases ry;obtain ⟨its,r,pl,hz⟩:=I.list h1;obtain ⟨its2,r2,pl2,_⟩:=I.list h2;cases r2;cases xs with
 | nil =>
  cases r;exact SeqAt.eq_listAt (e:=λ _=>true) pl.isList pl2.isList rfl hu (λ j h1 _=>absurd h1 130) ⟨.bl true,H,I,rfl,hq⟩
 | cons a t =>
  cases r with
  | cons r1 r2=>exact SeqAt.eq_list_lengthsAt pl.isList pl2.isList 130 hu ⟨.bl false,H,I,rfl,hq⟩
theorem BN (hu:X.A.units<cLine):OpR X (compareOp .NotEq) (z42 X.K true):=by
 intro pins s σ H x y v u Q I rx ry h;obtain ⟨p,q,xs,rfl,rfl,h1,h2,hq⟩:=h;cases rx;cases ry;obtain ⟨its,r,pl,hz⟩:=I.list h1;obtain ⟨its2,r2,pl2,_⟩:=I.list h2;cases r2;cases xs with
 | nil =>
  cases r;exact SeqAt.RcNeAt.lists (e:=λ _=>true) pl.isList pl2.isList rfl hu (λ j h1 _=>absurd h1 130) _ _ _ _ ⟨.bl false,H,I,rfl,hq⟩
 | cons a t =>
  cases r with
  | cons r1 r2=>exact SeqAt.RcNeAt.lists_lengths pl.isList pl2.isList 130 hu _ _ _ _ ⟨.bl true,H,I,rfl,hq⟩
end
def SIt (h:Heap)(i a:Addr)(k:Nat)(xs:Array Value):Prop:=(h.IsListIter i a k/\h.IsList a xs)\/(h.IsTupleIter i a k/\h.IsTuple a xs)
def ItR (h:Heap)(i a:Addr)(k:Nat)(b:Bool):Prop:=if b=true then h.IsListIter i a k else h.IsTupleIter i a k
section
variable {X:Cx}{pins:137}{σ:St}{H:Hp}{s:153}{h':Heap}
theorem Inv.turnedL {t':Nat}{l:XZ}(I:131)(k:∀ b o,b∉l->s.heap.get? b=some o->h'.get? b=some o)(hf:∀ b∈l,Z3 X pins H b):Inv X pins σ H { s with heap:=h',toks:=t' }:=by
 have nit:∀ b u,H b=some u->b∉l:=λ b u e z=>by rw [(hf b z).1] at e;cases e
 have hL:X.env.locals∉l:=λ z=>(hf _ z).2.1 rfl;refine I.step (g':=s.gens) (d':=s.drawn) (ch:=l) (λ b hb=>?_) (λ b o _ _ hc e _=>k b o hc e) (λ b o _ _ hc e _=>⟨o.slots,k b o hc e⟩) (λ _ _ _ _ n=>n)
  (λ b o hc e=>⟨o,k b o hc e⟩) (λ _ _ e=>e) (λ _ _ _ e=>e) (λ b ps e=>⟨#[],by rw [e];simp⟩) (λ m hm=>?_) (λ b u e=>?_) I.bare
 ·obtain ⟨_,f1,_,f3,f4,f5⟩:=hf b hb;exact ⟨f3,f1,f4,f5⟩
 ·obtain ⟨o,es,ep,ho,r⟩:=hm;exact ⟨o,es,ep,k _ o hL ho,r⟩
 ·refine (I.hok b u e).stay (λ c v hc q=>k c v ?_ q) (λ _ q=>q) λ _ _ q=>q;rcases hc with z | z
  ·rw [z];exact nit b u e
  ·exact nit c _ z
end
end L2
set_option maxHeartbeats 4000000
namespace L2
open PySem PySem.Spec PyProof.Rows
section
variable {X:Cx}{Z:ZK}{tg iter:Expr}{body:List Stmt}{wi:TI}{g:TG}{tb:TS}{pos:Pos}
theorem W3 {X:Cx}{Z:ZK}(_:True):PassesOwn 132 X.A X.env (XE X Z):=λ _ _ h=>False.elim h
theorem Thr.wished {X:Cx}{Z:ZK}(_:Thr X Z):Thr (X.wish (XE X Z)) Z:=trivial
theorem z43 (th:Thr X Z)(hc:216)(hi:PI (X.wish (XE X Z)) tg iter wi)(hg:PG (X.wish (XE X Z)) tg g)(hb:PSs (X.wish (XE X Z)) body tb)
  (hs:∀ x,foldedSetIterable iter X.env x=pure x:=by intro _;rfl):PS X (.For tg iter body [] pos) (z7j wi g tb):=by
 intro pins s σ H D I h;refine wpAny_mono (z7k (X:=X.wish (XE X Z)) (W3 (X:=X) (Z:=Z) th.toXOk) hc hi hg hb hs pins s σ H D (I.wish _) h) (λ f s' q=>q.unwish) λ e s' x=>th.thr e s' x
end
section
variable {X:Cx}{scope:Scope}{NC:XQ}{cap:249}{elt tg iter:Expr}{ifs:288}{pos pos' spos:Pos}{Z:ZK}{wi:TI}{g:TG}{tf:ZK->TT}{te:ZK->TE}{i:Nat}{x:Str}
theorem z44 (hc:216)(th:Thr X Z)(hi:PI X tg iter wi)(cok:180)
  (hg:∀ C s H fp pn xe,PG 148 tg g)
  (hf:∀ C s H fp pn xe Zc,Thr 148 Zc->PF 148 ifs (tf Zc))
  (hb:∀ C s H fp pn xe Zc,Thr 148 Zc->PE 148 elt (te Zc))
  (hs:∀ x,foldedSetIterable iter X.env x=pure x) (hN:X.N.Nodup) (hx:X.N[i]?=some x) (hlo:X.env.scope.names.lookup x=some .local)
  (hsw:swapsWith 186 (some (.Name x pos')) spos.line X.env=pure true) :
  PS X (.Assign [.Name x pos'] 186 spos) (z7h (BK Z cap wi g tf te) (Vo i)):=by
 intro pins s σ H D I h;obtain ⟨c1,c2,c3,c4,c5,c6,c7⟩:=jl cok;rw [exec_Assign_Name_used _ _ _ _ hsw];refine wpAny_bind (wpAny_standAt (wpAny_bind ?_));show wpAny _ X.A (do let _ <- comprehension 186 scope X.env _ (newList []) false (eval iter X.env) (some (assign (.Name x pos') X.env))) _ _ s;refine wpAny_bind (wpAny_mono (wpAny_comprehension_free rfl hs (Zx λ y hy e=>I.ok.has y.1 (.inl (c4 y hy e))) c1 c3
  (thn (hi pins s σ H _ I h) λ xv s₁ h₁=>thn h₁ λ itv s₂ h₂=>?_)) (λ _ s' hq=>wpAny_pure (wpAny_pure hq)) λ _ _ e=>e)
 obtain ⟨it,fp,tn,J,H2,rfl,I2,T,st2,f2,W,⟨m0,w0⟩,turn⟩:=h₂;refine W2 hc th I2 T st2 f2 cok (λ C pn xe=>hg C s₂ H2 fp pn xe) (λ C pn xe t=>hf C s₂ H2 fp pn xe _ t) (λ C pn xe t=>hb C s₂ H2 fp pn xe _ t) W m0 w0 turn ?_
 rintro C D' s' H' ys us n ⟨hlen,q⟩ rv e hn hnC rfl rfl ⟨m,ns⟩ lv
 have I':=lv s'.heap (Heap.SameBut.refl _ _);have I3:Inv X pins σ (upd H' s₂.heap.objs.size (.lst ys)) s':=I'.track hn (Y2d I2.sz) (Y20 I2.lt) (λ y c ec z=>by
  obtain ⟨v,q⟩:=I2.cell y c ec;exact absurd q.lt (by rw [z];exact Y1b _)) (λ p hp z=>absurd (Y0g (I2.pin p hp).1) (by rw [z];exact Y1b _)) ⟨hlen,us,n,rv,e⟩
 have fC:Z3 X pins (upd H' s₂.heap.objs.size (.lst ys)) (s₂.heap.objs.size+1):=I2.fpOk (Y2j _) (by rw [zr (Nat.succ_ne_self _)];exact hnC);show wpAny _ X.A (assign (.Name x pos') X.env (.ref s₂.heap.objs.size)) _ _ _;refine wpAny_assign_Name (JR I3 hN hx (.inl hlo) (v:=.ref s₂.heap.objs.size) rfl (λ s'' I4 ⟨a,sb,ha⟩=>?_) (.inr hlo));have nC:s₂.heap.objs.size+1≠a:=by
  rcases ha with rfl | ha
  ·exact fC.2.1
  ·exact λ z=>fC.2.2.2.2.1 x a ha z.symm
 refine ⟨m,ns.sameBut sb nC,λ h' sb'=>⟨_,_,I4.turned (λ b o hb e=>(sb'.2 b hb).trans e) fC.1 fC.2.1 fC.2.2.2.1 fC.2.2.2.2.1 fC.2.2.2.2.2,q _ hn⟩⟩
end
def zeh (h:Heap)(a l:Addr)(i:Int):Prop:=∃ o,h.get? a=some o/\o.cls=.type "reversed"/\o.data=.fields #[.ref l,rawInt i]
open HT in
theorem z45 {lo hi:281}(ht:IsTup s.heap t items)(hs:s.heap.IsSliceOf sl vl vu .none)(pl:IsPart vl lo)(pu:IsPart vu hi)
  (h1:sIx items.size 0 lo=0) (h2:sIx items.size items.size hi=items.size) (h:Q (.ref t) s):wpAny 139 A (getItem (.ref t) (.ref sl)) Q E s:=by
 obtain ⟨os,hos,hcs,hds⟩:=id hs;have hTs:s.TypeIs (.ref sl) "slice":=⟨os,hos,hcs⟩;unfold getItem
 try with_reducible refine wpAny_holding ?_
 first | refine wpAny_bind (wpAny_pure ?_) | skip
 refine wpAny_bind (wpAny_sequenceKey ht.typeIs 127 ?_);refine wpAny_bind (wpAny_callSpecial?_slot ht.typeIs Y1y (wpAny_call_entry Y1y ht.typeIs entry_tuple_getitem ?_ (args_tuple_getitem _ _)));show wpAny _ _ (Builtin.Tuple.tupleItemsOf (.ref t) >>= _) _ _ s;refine wpAny_bind (tupleItemsOf_ ht ?_);refine wpAny_bind (wpAny_typeOf hTs ?_);rw [if_pos 127];refine wpAny_bind (wA hs pl pu ?_);have hy:152=true:=by rw [h1,h2];simp
 show wpAny _ _ (if 152=true then _ else _) _ _ s;rw [if_pos hy];refine wpAny_bind ?_;unfold Builtin.Tuple.tupleIsExact;refine wpAny_bind (wpAny_typeOf ht.typeIs (wpAny_pure ?_));rw [if_pos 127];refine wpAny_bind (wpAny_rule ?_);exact wpAny_pure ⟨_,rfl,wpAny_pure h⟩
def zdp (K:Y01):V->Option Int->Option Int->Hp->VK->Prop:=λ x lo hi H Q=>∃ a xs,x=.ref a/\SqT K H a xs/\HT.sIx xs.length 0 lo=0/\HT.sIx xs.length xs.length hi=xs.length/\Q 202 H
theorem z46:SlR X (zdp X.K):=by
 intro pins s σ H x v vl vu lo hi sl Q I rx hs pl pu h;obtain ⟨a,xs,rfl,hx,w1,w2,q⟩:=h;cases rx;obtain ⟨its,r,ht,hz⟩:=I.tuple hx;have hlen:its.toArray.size=xs.length:=by rw [Y0f];exact r.length.symm
 exact ⟨"tuple",_,PyProof.Rows.slot_tuple_getitem.lookup,ht.typeIs,z45 ht hs pl pu (by rw [hlen];exact w1) (by rw [hlen];exact w2) ⟨.ref a,H,I,rfl,q⟩⟩
theorem jx:entryFor table "dict.update.loop"=some Builtin.«dict.update.loop»:=entryFor_of_tree (by kernel_rfl)
theorem j0:plainId "dict.update.loop"=true:=by decide +kernel
theorem Yi:typeLookup (.type "list") "keys"=pure none:=by rw [typeLookup_type,builtinLookup_eq_fast];kernel_rfl
section
variable {prog:204}{w:World}{A:296}{E:XU}{s:153}
theorem Jz {a:Addr}{xs:Array Value}{k:Nat}{sl:211}{Q:Option Value->Shared->Prop} (hx:s.heap.get? a=some { cls:=.type "list",dict:=none,data:=.seq xs k,slots:=sl }) (hA:212)
  (h:∀ h' tk,(∀ b ob,s.heap.get? b=some ob->h'.get? b=some ob)->Q none { s with heap:=h',toks:=tk }) :
  wpAny 139 A (getAttr? 202 "keys") Q E s:=by
 obtain ⟨hp,g,d,tk,os⟩:=s;have hT:∀ tk',(⟨hp,g,d,tk',os⟩:Shared).TypeIs 202 "list":=λ _=>⟨_,hx,rfl⟩;have f1:=sub_AttributeError;have f3:=F.slot_list_getattribute.lookup;have f4:=F.slot_list_getattribute.bind 202;have f5:=am_list_getattr_none;have hname:(["__module__","__name__","__qualname__","__doc__","__annotations__"]:List Str).contains "keys"=false:=by decide +kernel
 have hsz:(Str.ofString "keys").length+100<=sizeLine:=by decide +kernel
 unfold getAttr? getAttrBy? getAttrBy
 repeat (any_goals (first | assumption | exact hT _ | ((with_reducible show wpAny _ _ (call (Value.builtin "list.__getattribute__") _ _) _ _ _);refine call_meets F.slot_list_getattribute (hT _) am_entry_list_getattribute (F.args_list_getattribute_2 _ _) (meets_getattribute_miss_list a xs k sl "keys" _ Yi hname hsz) ⟨hx,hA,λ h' tk' e hx'=>?_⟩) | wp_step))
 obtain ⟨t',u',he⟩:=hx'.there;show wpAny _ _ (getattributeRaised _ _ _ _ _ _ _) _ _ _;unfold getattributeRaised
 repeat (any_goals (first | assumption | wp_step))
 exact h _ _ hx'.keeps
end
section
variable {prog:204}{w:World}{A:296}{R:Result->Shared->Prop}{I:Addr}{fp wr:XZ}{G:Array GenState->Array GenState->Prop}{n:Nat}{P:Nat->Value->Prop}{St:Nat->Shared->Prop}{K:Type}[DecidableEq K]{knd:KeyKind prog w K}
def Two (h:Heap)(a:Addr)(x y:Value):Prop:=∃ o n,h.get? a=some o/\o.cls=.type "tuple"/\o.data=.seq #[x,y] n
theorem Uw (kvs:List (K×Value)):∀ (more:List (K×Value)),(merged kvs more).length<=kvs.length+more.length:=by
 intro more
 induction more generalizing kvs with
 | nil=>exact Y0b _
 | cons p r ih =>
  have h1:=ih (stored kvs p.1 p.2);have h2:(stored kvs p.1 p.2).length<=kvs.length+1:=by
   unfold stored
   split
   ·rw [Y07];exact Y2j _
   ·rw [Y05];exact Y0b _
  show (merged (stored kvs p.1 p.2) r).length<=_;rw [Y09];omega
theorem Od (W:WalksS prog w A.in1 I fp wr G n P St)(D:Addr)(hDf:D∉fp)(more:List (K×Value))(hn:n<=1000000)(hml:more.length=n)(s₀:153)
  (hval:∀ (i:Nat) (v:Value),P i v->∃ a kv vv k,v=.ref a/\a∉D::wr/\Two s₀.heap a kv vv/\more[i]?=some (k,vv)/\knd.is k kv=true) :
  ∀ (k i:Nat) (s:153) (ti:Tok),n-i=k->i<=n->St i s->Moved (D::wr) G s₀ s->s.heap.DictOf knd D (merged [] (more.take i)) ->
   (∀ s',Moved (D::wr) G s₀ s'->s'.heap.DictOf knd D (merged [] more)->R (.ok (.ret .none)) s') ->
   codeAny 139 A (.builtin "dict.update.loop" ⟨[.ref D,.ref I,.int (i:Nat) ti,.none],[]⟩) R s:=by
 have hDw:D∉wr:=λ h=>hDf (W.sub _ h);have hsub:∀ b∈wr,b∈D::wr:=λ b hb=>Y02 _ hb;intro k
 induction k with
 | zero =>
  intro i s ti hk hi hst mv hS hR;have hin:i=n:=by omega
  subst hin;refine codeAny_builtin jx ?_;rw [Around.under_plainId j0 _];show wpAny _ A.in1 (pyNext (.ref I) >>= _) _ _ s;refine wpAny_bind (W.done s _ _ hst λ s' hm=>?_);show wpAny _ A.in1 (Builtin.Dict.addKeywords D [] >>= λ _=>ret Value.none) _ _ s';refine wpAny_bind (wpAny_pure (wpAny_pure (hR s' (mv.trans W.gtrans (hm.mono hsub)) ?_)));rw [<- hml,List.take_length] at hS;obtain ⟨o,es,ep,ho,r⟩:=hS;exact ⟨o,es,ep,hm.heap D _ hDw ho,r⟩
 | succ k ih =>
  intro i s ti hk hi hst mv hS hR;have hlt:i<n:=by omega
  refine codeAny_builtin jx ?_;rw [Around.under_plainId j0 _];show wpAny _ A.in1 (pyNext (.ref I) >>= _) _ _ s;refine wpAny_bind (W.item i s _ _ hlt hst λ v s' hP hst' hm=>?_);obtain ⟨a,kv,vv,kk,rfl,ha,⟨o,n',ho,hoc,hod⟩,hmi,hkk⟩:=hval i v hP;have mv':=mv.trans W.gtrans (hm.mono hsub);have ho':=mv'.heap a o ha ho;have hS':s'.heap.DictOf knd D (merged [] (more.take i)):=by
   obtain ⟨o,es,ep,ho,r⟩:=hS;exact ⟨o,es,ep,hm.heap D _ hDw ho,r⟩
  have hT:s'.TypeIs 202 "tuple":=⟨_,ho',hoc⟩;refine wpAny_bind (wpAny_holding ?_);have pr:∀ {Q:List Value->Shared->Prop}{E:XU},Q [kv,vv] s'->wpAny 139 A.in1 (Builtin.Dict.pairItems 202) Q E s':=λ {Q E} q=>by
   unfold Builtin.Dict.pairItems;refine wpAny_bind (wpAny_typeOf hT ?_);rw [if_pos 127];exact wpAny_bind (wpAny_seqItems ho' hod (wpAny_pure q))
  refine wpAny_bind (wpAny_tryCatch (pr ?_));show wpAny _ A.in1 (holding [kv,vv] (dictSet D kv vv)) _ _ s';refine wpAny_holding (wpAny_dictSet_pairs hkk hS' (λ h' hd' hsb=>?_) ?_)
  ·refine wpAny_pure ⟨plainId_quiet j0 _,?_⟩;have e:((i:Int)+1)=((i+1:Nat):Int):=rfl;show codeAny _ A (.builtin "dict.update.loop" ⟨[.ref D,.ref I,.int ((i:Int)+1) 0,.none],[]⟩) R _;rw [e];refine ih (i+1) _ 0 128 hlt (W.frame _ s' _ _ hst' (Y2j _) λ b hb o e=>?_) (mv'.then_heap (Y2j _) λ b o hb e=>?_) ?_ hR
   ·exact (hsb.2 b (λ h:b=D=>hDf (h▸hb))).trans e
   ·exact (hsb.2 b (λ h:b=D=>hb (h▸Y04))).trans e
   ·rw [merged_take_succ _ _ _ _ hmi];exact hd'
  ·have h1:=Uw ([]:List (K×Value)) (more.take i);rw [Y3o,Y1t] at h1;rw [sizeLine_eq];omega
end
section
variable {prog:204}{w:World}{A:296}{E:XU}{s:153}{K:Type}[DecidableEq K]{knd:KeyKind prog w K}
theorem Z7 {l:Addr}{items:Array Value}{c:Nat}{sl:211}{more:List (K×Value)}{Q:XU} (hh:212) (hl:s.heap.get? l=some { cls:=.type "list",dict:=none,data:=.seq items c,slots:=sl }) (hn:items.size<=1000000) (hml:more.length=items.size)
  (hval:∀ (i:Nat) (v:Value),items[i]?=some v->∃ a kv vv k,v=.ref a/\Two s.heap a kv vv/\more[i]?=some (k,vv)/\knd.is k kv=true)
  (h:∀ h' tk,h'.DictOf knd s.heap.objs.size (merged [] more)->(∀ b o,s.heap.get? b=some o->h'.get? b=some o)->Q 178 { s with heap:=h',toks:=tk }) :
  wpAny 139 A (call (.type "dict") [.ref l]) Q E s:=by
 refine callType_codes (Q₁:=λ obj s₁=>obj=.ref s.heap.objs.size/\s₁={ s with heap:=s.heap.push { cls:=.type "dict",data:=.dict #[] } }) F.kt_called_dict (F.kt_typeCall_dict_1 _) F.entry_dict_init (kt_code_dict_new _ 210) ?_
 rintro obj s₁ ⟨rfl,rfl⟩
 have hnew:(s.heap.push { cls:=.type "dict",data:=.dict #[] }).DictOf knd s.heap.objs.size []:=Heap.DictOf.new s.heap;have hl1:(s.heap.push { cls:=.type "dict",data:=.dict #[] }).get? l=some { cls:=.type "list",dict:=none,data:=.seq items c,slots:=sl }:=Y03 _ hl;have hT:Shared.TypeIs { s with heap:=s.heap.push { cls:=.type "dict",data:=.dict #[] } } (.ref l) "list":=⟨_,hl1,rfl⟩;refine ⟨hnew.typeIs,F.args_dict_init_2 _ _,?_⟩;unfold Builtin.«dict.__init__»;refine wpAny_bind ?_;unfold Builtin.Dict.selfAndRest;refine wpAny_bind (wpAny_notOrdered_dict hnew.typeIs ?_);show wpAny _ _ (pure (s.heap.objs.size,[Value.ref l])) _ _ _;refine wpAny_pure ?_;show wpAny _ _ (Builtin.Dict.updateFrom "dict.__init__" s.heap.objs.size (.ref l) [] .none) _ _ _;unfold Builtin.Dict.updateFrom;refine wpAny_bind (wpAny_typeOf hT ?_);rw [if_pos 127];refine wpAny_bind (Jz hl1 hh λ h1 t1 k1=>?_);rw [if_pos 127];refine wpAny_bind (wpAny_rule ?_);have hl2:h1.IsList l items:=⟨_,k1 _ _ hl1,rfl,c,rfl⟩;refine wpAny_bind (wpAny_pyIter_list hl2 ?_);have hlt:l<s.heap.objs.size:=Y0g hl;have sz1:s.heap.objs.size<h1.objs.size:=by
  obtain ⟨o,_,_,e,_⟩:=hnew;exact Y0g (k1 _ _ e)
 have hne:l≠h1.objs.size:=Y0k (Y40 hlt sz1);have old:∀ b o,s.heap.get? b=some o->h1.get? b=some o:=λ b o e=>k1 b o (Y03 _ e);refine wpAny_pure ⟨plainId_quiet j0 _,?_⟩;have hDf:s.heap.objs.size∉[h1.objs.size,l]:=by
  simp only [Y08,Y0d,Y0t,or_false,not_or];exact ⟨Y0k sz1,Y20 hlt⟩
 refine Od (knd:=knd) ((Walks.list (prog:=prog) (w:=w) (A:=A.in1.in1) hh h1.objs.size l hne items).toS) s.heap.objs.size hDf more hn hml _ (λ i v hv=>?_) items.size 0 _ 0 128 (Y19 _) ⟨203,hl2.push _⟩ (Moved.refl λ _=>rfl) ?_ λ s' mv hd=>?_
 ·obtain ⟨a,kv,vv,k,e,⟨o,n',e1,e2,e3⟩,e4,e5⟩:=hval i v hv;have hla:=Y0g e1;refine ⟨a,kv,vv,k,e,?_,⟨o,n',Y03 _ (old a o e1),e2,e3⟩,e4,e5⟩;simp only [Y08,Y0d,Y0t,or_false,not_or];exact ⟨Y0k hla,Y0k (Y40 hla sz1)⟩
 ·obtain ⟨o,es,ep,ho,r⟩:=hnew;exact ⟨o,es,ep,Y03 _ (k1 _ _ ho),r⟩
 ·obtain ⟨h',g',d',tk',os'⟩:=s';have eg:g'=s.gens:=mv.gens;have ed:d'=s.drawn:=mv.drawn;have eo:os'=s.os:=mv.os;subst eg;subst ed;subst eo;refine ⟨rfl,h h' tk' hd λ b o e=>mv.heap b o ?_ (Y03 _ (old b o e))⟩;have hb:=Y0g e;simp only [Y08,Y0d,Y0t,or_false,not_or];exact ⟨Y0k hb,Y0k (Y40 hb sz1)⟩
end
section
variable {X:Cx}
theorem Yj {pins:137}{σ:St}{H:Hp}{s:153}(I:131):∀ {ys:193}{kvs:173}{its:XV},Paired (λ (x:V) (kv:Key×V)=>∃ a,x=.ref a/\SqT X.K H a [kV kv.1,kv.2]) ys kvs->Vals ys its ->
  ∃ more:List (Key×Value),KV kvs more/\more.length=its.length/\∀ (i:Nat) (v:Value),its[i]?=some v->∃ a kv vv k,v=.ref a/\Two s.heap a kv vv/\more[i]?=some (k,vv)/\(zB X.prog X.w).is k kv=true
 | _,_,_,.nil,.nil=>⟨[],.nil,rfl,λ i v h=>by simp at h⟩
 | _,_,_,@Paired.cons _ _ _ x kv ys kvs h t,.cons (b:=u) (l₂:=us) r rr=>by
  obtain ⟨more,m1,m2,m3⟩:=Yj I t rr;obtain ⟨a,rfl,q⟩:=h;have ru:u=.ref a:=r;subst ru;obtain ⟨its2,r2,⟨o,e1,e2,n,e3⟩,_⟩:=I.tuple q;cases r2 with
  | @cons _ kvv _ _ ra rt =>
   cases rt with
   | @cons _ vv _ _ rb rn =>
    cases rn;refine ⟨(kv.1,vv)::more,.cons ⟨rfl,rb⟩ m1,by rw [Y09,Y09,m2],λ i v hv=>?_⟩;cases i with
    | zero =>
     have:v=.ref a:=by simpa using hv.symm
     subst this;exact ⟨a,kvv,vv,kv.1,rfl,⟨o,n,e1,e2,e3⟩,rfl,yU ra⟩
    | succ i=>exact m3 i v (by simpa using hv)
def rDP (K:Y01):List V->Hp->VK->Prop:=λ xs H Q=>∃ p ys kvs,xs=[.ref p]/\SqL K H p ys/\ys.length<=1000000/\Paired (λ (x:V) (kv:Key×V)=>∃ a,x=.ref a/\SqT K H a [kV kv.1,kv.2]) ys kvs/\∀ l,H l=none->Q (.ref l) (upd H l (.dK (yu [] kvs)))
theorem Ux (hc:216):jh X (.type "dict") (rDP X.K):=by
 rintro pins s σ H xs us Q I r ⟨p,ys,kvs,rfl,hl,hn,hp,q⟩
 cases r with
 | cons r rr =>
  cases rr;cases r;obtain ⟨its,rv,⟨o,n,e1,e2,e3,e4⟩,hz⟩:=I.list hl;obtain ⟨c,dct,dat,sl⟩:=o;simp only at e2 e3 e4;subst e2 e3 e4;obtain ⟨more,m1,m2,m3⟩:=Yj I hp rv;have hle:=rv.length;have hkl:kvs.length=ys.length:=hp.length.symm;refine Z7 (knd:=zB X.prog X.w) (more:=more) (I.ok.hd hc) e1 (by simp only [Y0f];omega) (by simp only [Y0f];exact m2) (λ i v hv=>m3 i v (by simpa using hv)) λ h' tk dd old=>?_;have hz:(yu [] kvs).length<=sizeLine:=by
   have h1:=qw kvs [];rw [Y3o] at h1;rw [sizeLine_eq];omega
  exact ⟨.ref _,_,I.laid (t':=tk) old 175 (BB hz (beq_eq_false_iff_ne.mpr (Ne.symm (Y0k I.big))) (m1.merge .nil) dd),rfl,q _ 276⟩
end
section
variable {prog:204}{w:World}{A:296}{E:XU}{s:153}
theorem W4 {it t:Addr}{items:Array Value}(hne:t≠it):∀ (n i:Nat) (s:153) (Q:List Value->Shared->Prop),s.heap.IsListIter it t i->s.heap.IsList t items->i+n<=items.size ->
  (∀ h',h'.IsListIter it t (i+n)->Heap.SameBut it s.heap h'->Q ((items.toList.drop i).take n) { s with heap:=h' })->wpAny 139 A (draw (.ref it) n) Q E s
 | 0,i,s,Q,hit,_,_,hQ=>by
  show wpAny _ _ (pure []) Q E s;exact wpAny_pure (by simpa using hQ s.heap hit (Heap.SameBut.refl ..))
 | n+1,i,s,Q,hit,ht,hle,hQ=>by
  have hlt:i<items.size:=by omega
  show wpAny _ _ (pyNext (.ref it) >>= _) Q E s;refine wpAny_bind (wpAny_pyNext_list_item hit ht (x:=items[i]) (by simp [hlt]) λ h₁ hit₁ hs₁=>?_);refine wpAny_bind (wpAny_holding (W4 hne n (i+1) _ _ hit₁ (ht.extBut hs₁.extBut hne) 128 λ h₂ hit₂ hs₂=>wpAny_pure ?_));have hd:items.toList.drop i=items[i]::items.toList.drop (i+1):=by simp [Y38,hlt]
  have:=hQ h₂ (by rw [show i+(n+1)=i+1+n by omega];exact hit₂) (hs₁.trans hs₂)
  rw [hd,List.take_succ_cons] at this;exact this
theorem yv {t:Addr}{items:Array Value}{Q:List Value->Shared->Prop}(hh:212)(ht:s.heap.IsList t items)
  (hQ:∀ h',Heap.ExtBut s.heap.objs.size s.heap h'->Q items.toList { s with heap:=h' }):wpAny 139 A (unpackItems (.ref t) items.size none) Q E s:=by
 have hlt:t≠s.heap.objs.size:=by obtain ⟨o,ho,_⟩:=ht;exact Y0k (Y0g ho)
 unfold unpackItems;refine wpAny_bind ?_;unfold notIterableAtAll;refine wpAny_bind (wpAny_specialOf ht.typeIs slot_list_iter.lookup ?_);refine wpAny_pure ?_;simp only [Y2r,if_false];refine wpAny_bind (wpAny_holding (wpAny_pyIter_list ht ?_));refine wpAny_bind (wpAny_holding (W4 hlt items.size 0 _ _ 203 (ht.push _) 128 λ h₁ hit₁ hs₁=>?_));have hall:List.take items.size (List.drop 0 items.toList)=items.toList:=by
  rw [List.drop_zero];exact Y2s 130
 rw [hall];rw [if_neg 130];have ht₁:h₁.IsList t items:=(ht.push _).extBut hs₁.extBut hlt;refine wpAny_bind (wpAny_holding (wpAny_pyNext_list_end hh hit₁ ht₁ 130 λ h₂ he₂=>?_));simp only [Option.isSome_none,Y2r,if_false];exact wpAny_pure (hQ h₂ λ b o hb e=>he₂ b o hb (hs₁.extBut b o hb (Y03 _ e)))
theorem qU {env:Env}{elts:288}{x1}{pos:Pos}{t:Addr}{items:Array Value}{Q:Unit->Shared->Prop}(hh:212)(ht:s.heap.IsList t items)
  (hn:(assignEach elts env).length=items.size) (hstar:(assignEach elts env).findIdx? (·.1)=none)
  (h:∀ h',Heap.ExtBut s.heap.objs.size s.heap h'->wpAny 139 A (assignInOrder ((assignEach elts env).map (·.2)) items.toList) Q E { s with heap:=h' }) :
  wpAny 139 A (assign (.Tuple elts x1 pos) env (.ref t)) Q E s:=by
 rw [arm_assign_Tuple];refine wpAny_bind (wpAny_standAt ?_);unfold unpack;rw [hn,hstar];exact wpAny_bind (wpAny_holding (yv hh ht h))
end
section
variable {X:Cx}{pos:Pos}
def gTL (K:Y01)(n:Nat)(t:TGs):TG:=λ v σ H Q=>∃ a xs,v=.ref a/\(SqT K H a xs\/SqL K H a xs)/\xs.length=n/\t xs σ H Q
theorem z47 {es:288}{k:Nat}{t:TGs}{n:Nat}(hc:216)(h:PGs X es t)
  (hn:(assignEach es X.env).length=n:=by rfl) (hst:(assignEach es X.env).findIdx? (·.1)=none:=by rfl):PG X (.Tuple es k pos) (gTL X.K n t):=by
 intro pins s σ H v u Q I r hw;obtain ⟨a,xs,e1,hq,hl,hw⟩:=hw;subst e1;rcases hq with hq | hq
 ·exact Bk hc h hn hst pins s σ H _ u Q I r ⟨a,xs,rfl,hq,hl,hw⟩
 cases r;obtain ⟨its,rv,⟨o,c,e1,e2,e3,e4⟩,hz⟩:=I.list hq;refine qU (I.ok.hd hc) (items:=its.toArray) ⟨o,e1,e2,c,e4⟩ (by simp [hn,<- hl,rv.length]) hst λ h' hx=>?_;have I1:Inv X pins σ H { s with heap:=h' }:=I.kept (t':=s.toks) λ b o e=>hx b o (Y0k (Y0g e)) e
 exact h pins _ σ H xs _ Q I1 (by simpa using rv) hw
end
def ZC:V->Bool
 | .non=>true
 | _=>false
def z8b (K:Y01):R2:=λ x y H Q=>∃ p xs,x=.non/\y=.ref p/\(SqL K H p xs\/SqT K H p xs)/\(∀ v∈xs,jN v=true\/∃ a ts,v=.ref a/\SqT K H a ts)/\Q (.bl (xs.any ZC)) H
section
variable {X:Cx}
theorem z8c {K:Y01}(r:RelV v u)(f:jN v=true\/∃ a ts,v=.ref a/\SqT K H a ts):eqU .non u=ZC v:=by
 rcases f with f | ⟨a,ts,rfl,_⟩
 ·rw [WN r f];cases v<;>first | rfl | exact absurd (show false=true from f) Y0x
 ·cases r;rfl
theorem WS {K:Y01}:∀ {xs:193}{us:XV},Vals xs us->(∀ v∈xs,jN v=true\/∃ a ts,v=.ref a/\SqT K H a ts)->us.any (eqU .non)=xs.any ZC
 | _,_,.nil,_=>rfl
 | y::xs,u::us,.cons r t,f=>by
  rw [Y0p,Y0p,z8c r (f y (Y04 ..)),WS t λ v hv=>f v (Y02 _ hv)]
theorem WT (I:131)(hu:A.units<cLine):∀ {xs:193}{us:XV},Vals xs us->(∀ v∈xs,jN v=true\/∃ a ts,v=.ref a/\SqT X.K H a ts)->∀ u∈us,SeqAt.EqAt A s u .none (eqU .non u)
 | _,_,.nil,_=>λ u hu=>by cases hu
 | y::xs,u::us,.cons r t,f=>λ u' hu'=>by
  rcases Y08.mp hu' with rfl | hu'
  ·rcases f y (Y04 ..) with fy | ⟨a,ts,rfl,sq⟩
   ·rw [WN r fy];exact Bx r (show RelV .non .none from rfl) fy rfl
   ·cases r;obtain ⟨its,_,pl,_⟩:=I.tuple sq;exact SeqAt.EqAt.tuple_none pl hu
  ·exact WT I hu t (λ v hv=>f v (Y02 _ hv)) u' hu'
theorem Uy (hu:X.A.in1.units<cLine):OpR X (compareOp .In) (z8b X.K):=by
 intro pins s σ H x y v u Q I rx ry h;obtain ⟨p,xs,rfl,rfl,hq,fs,q⟩:=h;cases rx;cases ry;rcases hq with hq | hq
 ·obtain ⟨its,r,pl,hz⟩:=I.list hq;refine SeqAt.in_listAt (eqU .non) pl.isList (λ w hw=>WT I hu r fs w (by simpa using hw)) ⟨.bl _,H,I,rfl,?_⟩;rw [show its.toArray.any (eqU .non)=its.any (eqU .non) by simp,WS r fs];exact q
 ·obtain ⟨its,r,pl,hz⟩:=I.tuple hq;refine SeqAt.in_tupleAt (eqU .non) pl (λ w hw=>WT I hu r fs w (by simpa using hw)) ⟨.bl _,H,I,rfl,?_⟩;rw [show its.toArray.any (eqU .non)=its.any (eqU .non) by simp,WS r fs];exact q
end
end L2
namespace L2
open PySem PySem.W PySem.Spec PyProof.Rows PySem.Calls PySem.Builtin PySem.Builtin.ObjectAttr PySem.Builtin.Getset_descriptor
structure ExC (K:Y01)(C:Addr):Prop where
 ga:findIn K (.ref C) "__getattribute__"=some (some (.builtin "BaseException.__getattribute__"))
 ng:findIn K (.ref C) "__getattr__"=some none
 cl:findIn K (.ref C) "__class__"=some (some 246)
 bx:mroIn K C (.type "BaseException")=some true
 ob:mroIn K C (.type "object")=some true
 is:(clsIn K C).isSome=true
end L2
namespace L2
open PySem PySem.Spec PyProof.Rows
def BO (C:Addr)(sp:Sp)(Z:ZK)(t:TA):TE:=λ σ H Q=>t σ H λ vs H1=>∀ x dx,H1 x=none->H1 dx=none->dx≠x ->
 sp (.ref x::vs) (upd (upd H1 dx (.own x)) x (.ins C dx [])) (λ v H2=>v=.non/\Q (.ref x) H2) (λ C _ H'=>Z σ C H')
section
variable {X:Cx}{k:Nat}{f C:Addr}{fd:FuncData}{ps:XQ}{sp:Sp}{Z:ZK}{x:Str}{p pos:Pos}{e:Expr}{es:288}{t:TA}
theorem Oe (M:Mk X.K C f)(F:225)(hr:Room (k+1) X.A)(hb:Binds X.K fd ps [])
  (th:Thr X Z) (I:131) (r:Vals vs us)
  (h:∀ x dx,H x=none->H dx=none->dx≠x->sp (.ref x::vs) (upd (upd H dx (.own x)) x (.ins C dx [])) (λ v H2=>v=.non/\Q (.ref x) H2) (λ C _ H'=>Z σ C H')) :
  wpAny 132 X.A (call (.ref C) us) 231 X.xe s:=by
 have hq:=h 166 s.heap.objs.size (I.hok.fresh (Y2j _)) 276 (Y0k (Y1p _));have I2:=Inv.made (C:=C) I;have r2:Vals (V.ref 166::vs) (Value.ref 166::us):=.cons rfl r;have hl:((Value.ref 166::us)++[]).length=ps.length:=by
  have e:=r2.length;rw [F.len _ _ _ _ hq] at e;rw [Y0v];exact e.symm
 have hb2:=hb _ (Value.ref 166::us) I2.kIn hl;rw [Y0v] at hb2;refine wpAny_call (Bs I.kIn M.makes M.init (beq_iff_eq.mp M.fn) (codeAny_mono (F.run _ X.stack _ _ ⟨Value.ref 166::us,[]⟩ (Value.ref 166::us) _ _ _ (hr.make C us [])
  (I2.env0.make C us []) hb2 r2 hq) λ r s' hq'=>?_))
 cases r with
 | error e=>exact False.elim hq'
 | ok fl =>
  cases fl with
  | ret u =>
   obtain ⟨v,H',I3,rv,ev,q3⟩:=I2.after hq';subst ev;exact ⟨rv,⟨V.ref 166,H',I3,rfl,q3⟩⟩
  | next=>exact False.elim hq'
  | brk=>exact False.elim hq'
  | cont=>exact False.elim hq'
theorem BP (M:Mk X.K C f)(F:225)(hr:Room (k+1) X.A)(hg:Gl X x)(hm:X.mg x=some (.ref C))(hb:Binds X.K fd ps [])(th:Thr X Z)
  (ha:PA X (e::es) t) (hdb:159=false:=by decide) (he:starEach (e::es) X.env=284::starEach es X.env:=by rfl) (hpl:(backTo pos (starEach es X.env)).any (·.1)=false:=by rfl) :
  PE X (.Call (.Name x p) (e::es) [] pos) (BO C sp Z t):=by
 intro pins s σ H Q I h;refine wpAny_Call_Name_kw (WF I hg hm ?_ hdb);refine PySem.W.callWith_K I.ok.mod.kin M.kp (thn (ha pos pins s σ H _ I h) λ us s1 ⟨vs,H1,I1,r,q⟩=>⟨I1.kIn,?_⟩) he hpl;exact Oe M F hr hb th I1 r q
end
abbrev zdq (h:Heap)(z TI TO:Addr)(f0:Value)(f1:Bool):Prop :=
 h.get? z=some { cls:=.type "zip",dict:=none,data:=.fields #[f0,.bool f1,.bool false,.ref TI,.ref TO],slots:=#[] }
def okF (f0:Value):Prop:=f0=.none\/∃ a t,f0=.int a t
structure ZL (h:Heap)(z TI TO i1 i2 l1 l2 S B:Addr)(xs ys:Array Value)(c i:Nat)(Ts:XZ):Prop where
 zs:∃ f0 f1,zdq h z TI TO f0 f1/\okF f0
 ti:IsPair h TI (.ref i1) (.ref i2)
 to:∃ a b,IsPair h TO a b
 s1:SIt h i1 l1 i xs
 s2:SIt h i2 l2 i ys
 ls:h.get? S=some { cls:=.type "list",dict:=none,data:=.seq (Ts.map Value.ref).toArray c,slots:=#[] }
 sz:Ts.length=i
 it:∀ (j:Nat) (T:Addr),Ts[j]?=some T->B<=T/\∃ x y,xs[j]?=some x/\ys[j]?=some y/\IsPair h T x y
 nd:Ts.Nodup
variable {X:Cx}
theorem VA:∀ {is:179}{us:XV},Vals (is.map V.int) us->us.length=is.length/\∀ (i:Nat) (v:Value),us[i]?=some v->∃ t,v=Value.int ((is[i]?).getD 0) t
 | [],_,.nil=>⟨rfl,λ i v h=>by simp at h⟩
 | j::r,_,.cons h q=>by
  obtain ⟨l,g⟩:=VA q;refine ⟨by simp [l],λ i v e=>?_⟩;cases i with
  | zero=>obtain ⟨t,rfl⟩:=h;simp at e;subst e;exact ⟨t,rfl⟩
  | succ i=>simpa using g i v 291
theorem VB:∀ (is:179) (n:Nat),preSum (λ i=>(is[i]?).getD 0) n=(is.take n).sum
 | is,0=>rfl
 | is,n+1=>by
  show preSum _ n+_=_;rw [VB is n,List.take_add_one,List.sum_append];cases e:is[n]? with
  | none=>simp [e]
  | some x=>simp [e]
theorem Og (hc:216):jh X (.builtin "sum") (λ xs H Q=>∃ (p:Addr) (is:179),xs=[.ref p]/\SqL X.K H p (is.map V.int)/\Q (.int is.sum) H):=by
 intro pins s σ H xs us Q I r h;obtain ⟨p,is,rfl,hq,q⟩:=h;obtain ⟨u,rfl,ru⟩:=qS r;cases ru;obtain ⟨its,rv,pl,hz⟩:=I.list hq;obtain ⟨ll,hb⟩:=VA rv;have hl:=pl.isList;have hlt:p<s.heap.objs.size:=by obtain ⟨_,e,_⟩:=hl;exact Y0g e
 refine call_sum_walkAnyS (wpAny_pyIter_list hl ?_);refine ⟨s.heap.objs.size,[s.heap.objs.size,p],[s.heap.objs.size],_,its.toArray.size,_,_,λ i=>(is[i]?).getD 0,rfl,(Walks.list (A:=X.A.in1) (I.ok.hd hc) _ p (Y0k hlt) its.toArray).toS,
  ⟨203,hl.push _⟩,λ b hb=>?_,λ i v hP=>hb i v (by simpa using hP),λ s' t' hm=>?_⟩
 ·rcases Y08.mp hb with rfl | hb
  ·exact Y0g (Y0c _ rfl)
  ·obtain rfl:=Y0d.mp hb;obtain ⟨o,e,_⟩:=hl;exact Y0g (Y03 _ e)
 ·obtain ⟨h',g',d',tk',os'⟩:=s';have e1:=hm.gens;have e2:=hm.drawn;have e3:=hm.os;subst e1 e2 e3;rw [VB,Y0f,ll,List.take_length];exact ⟨.int is.sum,H,I.kept (λ b o e=>hm.heap b o (λ hb=>absurd (Y0g e) ((Y0d.mp hb)▸Y1b _)) (Y03 _ e)),146,q⟩
end L2
namespace L2
open PySem PySem.Spec PyProof.Rows
section
variable {X:Cx}
def zb5 (i j:Int):Prop:=0<j/\j<1267650600228229401496703205376
theorem BQ:OpR X (binaryOp .FloorDiv) (rI zb5 λ i j=>.int (i/j)):=opI λ i j _ _ _ _ _ hc q=>by
 have h1:=hc.1;have h2:=hc.2;refine floordiv_int 128 (by rw [Int.fdiv_eq_ediv_of_nonneg i 128];exact q) (.inl (PyProof.noPylong_of_log2 ?_));have hz:j.natAbs≠0:=by omega
 have:j.natAbs.log2<100:=by
  rw [Nat.log2_lt hz];have e:(2:Nat) ^ 100=1267650600228229401496703205376:=by decide +kernel
  rw [e];omega
 omega
end
section
variable {X:Cx}{pins:137}{σ:St}{H:Hp}{s:153}{a b:Addr}{v:V}{r:Value}{o:Option V}{A:296}{E:XU}{kvs:List (List Key×V)}{k:List Key}
def DT (H:Hp)(a:Addr)(kvs:List (List Key×V)):Prop:=H a=some (.dT kvs)\/(H a=some (.dK [])/\kvs=[])
theorem Uz (I:131)(e:SqT X.K H b (k.map kV)):(tupleKind (zB X.prog X.w)).is s.heap k b:=by
 obtain ⟨its,r,⟨o,h1,h2,n,h3⟩,_⟩:=I.tuple e;exact ⟨o,its.toArray,n,h1,h2,h3,by simpa using yr r⟩
theorem WU (ok:HOk P w H h)(e:DT H a kvs):kvs.length<=sizeLine/\293=false /\
  ∃ xs,KT H kvs xs/\h.DictOfH (tupleKind (zB P w)) a xs:=by
 rcases e with e | ⟨e,rfl⟩
 ·exact z6e ok e
 ·obtain ⟨z,hd,vs,rel,o,es,ep,h1,h2,h3,_,h4,_⟩:=Yf ok e;cases rel;have h5:es.toList=[]:=by
   cases q:es.toList with
   | nil=>rfl
   | cons x r=>rw [q] at h4;cases h4
  exact ⟨Y19 _,hd,[],.nil,o,es,ep,h1,h2,h3,h5,λ x hx=>(nomatch hx),.nil⟩
theorem Oh (hu:A.units+1<cLine)(I:131)(g:DT H a kvs)(eb:SqT X.K H b (k.map kV))(l:w6 kvs k=some v)(h:∀ w' s',Inv X pins σ H s'->RelV v w'->Q w' s') :
  wpAny 132 A (getItem 202 (.ref b)) Q E s:=by
 obtain ⟨z,hd,xs,rel,dd⟩:=WU I.hok g;obtain ⟨w',hw,rw'⟩:=RelO.some_of (by rw [<- l];exact rel.val k);obtain ⟨p,hp,hp2⟩:=Y1r.mp hw;refine wpAny_getItem_heap 273 (Uz I eb) dd hp ?_;rw [hp2];exact h w' _ (I.tok _) rw'
theorem BR (hu:A.units+1<cLine)(I:131)(g:DT H a kvs)(eb:SqT X.K H b (k.map kV))(h:∀ s',Inv X pins σ H s'->Q (.bool (w6 kvs k).isSome) s') :
  wpAny 132 A (compareOp .In (.ref b) 202) Q E s:=by
 obtain ⟨z,hd,xs,rel,dd⟩:=WU I.hok g;refine wpAny_in_heap 273 (Uz I eb) hd dd ?_;have q:=(rel.val k).isSome_eq;rw [Y2t] at q;rw [<- q];exact h _ (I.tok _)
theorem VC (hu:A.units+1<cLine)(I:131)(g:DT H a kvs)(eb:SqT X.K H b (k.map kV))(h:∀ s',Inv X pins σ H s'->Q (.bool (!(w6 kvs k).isSome)) s') :
  wpAny 132 A (compareOp .NotIn (.ref b) 202) Q E s:=by
 obtain ⟨z,hd,xs,rel,dd⟩:=WU I.hok g;refine wpAny_notIn_heap 273 (Uz I eb) hd dd ?_;have q:=(rel.val k).isSome_eq;rw [Y2t] at q;rw [<- q];exact h _ (I.tok _)
theorem zb6 (g:DT H a kvs)(ec:H c=some (.tup ys)):c≠a:=λ z=>by
 subst z;rcases g with g | ⟨g,_⟩<;>(rw [g] at ec;cases ec)
theorem Oi (hu:A.units+1<cLine)(I:131)(g:DT H a kvs)(eb:H b=some (.tup (k.map kV)))(hz:kvs.length<sizeLine)(rv:RelV v r)(h:∀ s',Inv X pins σ (upd H a (.dT (jM kvs k v))) s'->Q () s') :
  wpAny 132 A (setItem 202 (.ref b) r) Q E s:=by
 obtain ⟨z,hd,xs,rel,dd⟩:=WU I.hok g;have hz':xs.length<=sizeLine:=by rw [<- Paired.length rel];exact z
 have hl:(jM kvs k v).length<=sizeLine:=by have:=wg kvs k v;omega
 refine wpAny_setItem_heap 273 (yt I.hok eb) dd λ h' dd' hs=>h _ ?_;obtain ⟨q,es,ep,hq,h2,h3,h4,_,h5⟩:=dd';refine WQ I (by rcases g with g | ⟨g,_⟩<;>(rw [g];exact True.intro)) hs ⟨q,hq⟩ ⟨hl,hd,_,(rel.put k eb rv).keeps λ c ys ec=>?_,q,es,ep,hq,h2,h3,h4,h5⟩;rw [zr (zb6 g ec)];exact ec
end
def cutS {α:Type}(xs:List α)(lo hi:281)(st:Int):List α:=(sliceRange (sliceBounds lo hi (some st) xs.length).1 (sliceBounds lo hi (some st) xs.length).2.1 (sliceBounds lo hi (some st) xs.length).2.2).filterMap λ i=>xs[i]?
theorem W5 (r:Vals xs its):∀ is:List Nat,Vals (is.filterMap λ i=>xs[i]?) (is.filterMap λ i=>its[i]?)
 | []=>.nil
 | i::is=>by
  have ih:=W5 r is;cases e:xs[i]? with
  | none =>
   have e2:its[i]?=none:=by
    rw [Y37] at e ⊢;rw [<- r.length];exact e
   rw [Y2m e,Y2m e2];exact ih
  | some x =>
   obtain ⟨u,e2,ru⟩:=r.get e;rw [Y2l e,Y2l e2];exact .cons ru ih
section
variable {X:Cx}{e st:Expr}{lo hi:Option Expr}{te ts:TE}{tl th:TO}{p2 pos:Pos}
def zb7 (K:Y01)(te:TE)(tl th:TO)(ts:TE):TE:=λ σ H Q=>te σ H λ x H1=>tl σ H1 λ l H2=>th σ H2 λ u H3=>ts σ H3 λ y H4=>∃ k a xs,y=.int k/\0<k/\x=.ref a/\SqL K H4 a xs/\∀ p,H4 p=none->Q (.ref p) (upd H4 p (.lst (cutS xs l u k)))
theorem z48 (he:PE X e te)(hl:PO X lo tl)(hu:PO X hi th)(hs:PE X st ts):PE X (.Subscript e (.Slice lo hi (some st) p2) pos) (zb7 X.K te tl th ts):=by
 intro pins s σ H Q I h;refine Subscript_ (thn (he pins s σ H _ I h) λ v s1 ⟨x,H1,I1,r1,q1⟩=>?_);refine wpAny_Slice (thn (hl pins s1 σ H1 _ I1 q1) λ vl s2 ⟨l,H2,I2,pl,q2⟩=>thn (hu pins s2 σ H2 _ I2 q2) λ vu s3 ⟨u,H3,I3,pu,q3⟩=>?_);show wpAny _ _ (eval st X.env) _ _ _;refine thn (hs pins s3 σ H3 _ I3 q3) λ w s4 ⟨y,H4,I4,r4,q4⟩=>?_;obtain ⟨k,a,xs,rfl,hk,rfl,hx,q⟩:=q4;obtain ⟨tk,rfl⟩:=r4;cases r1;have I5:Inv X pins σ H4 { s4 with heap:=s4.heap.push { cls:=.type "slice",data:=.fields #[vl,vu,.int k tk] } }:=I4.kept λ b ob q=>Y03 _ q;obtain ⟨its,r,ht,hz⟩:=I5.list hx;have hlen:its.toArray.size=xs.length:=by rw [Y0f];exact r.length.symm
 show wpAny 132 X.A (subscriptTail e (.Slice lo hi (some st) p2) 202 (.ref s4.heap.objs.size)) 231 X.xe { s4 with heap:=s4.heap.push { cls:=.type "slice",data:=.fields #[vl,vu,.int k tk] } };refine tail_any ht.isList.typeIs slot_list_getitem.lookup (wpAny_getItem_list_slice ht.isList (Heap.IsSliceOf.new ..) pl pu (.int _ _) (by intro z;cases z;omega) ?_ (by rw [hlen];exact hz)) (by with_unfolding_all rfl);have e1:slicePick its.toArray l u (some k)=(((sliceRange (sliceBounds l u (some k) xs.length).1 (sliceBounds l u (some k) xs.length).2.1 (sliceBounds l u (some k) xs.length).2.2).filterMap λ i=>its[i]?)).toArray:=by
  unfold slicePick;rw [hlen];simp
 have sz:=slicePick_size_le its.toArray l u (some k);rw [hlen] at sz;have vv:=W5 r (sliceRange (sliceBounds l u (some k) xs.length).1 (sliceBounds l u (some k) xs.length).2.1 (sliceBounds l u (some k) xs.length).2.2);refine ⟨.ref _,_,I5.laid (λ b ob q=>Y03 _ q) 175 ?_,rfl,q _ (I5.hok.fresh 175)⟩;refine ⟨?_,_,0,vv,by rw [e1];exact Y0c _ rfl⟩
 have:=vv.length
 unfold cutS;rw [this];rw [e1,Y0f] at sz;omega
end
theorem BS (r:(zB P w).is k u=true):RelV (kV k) u:=by
 rcases zW (show yQ k u=true from r) with ⟨i,t,rfl,rfl⟩ | ⟨x,t,rfl,rfl⟩ | ⟨rfl,rfl⟩
 ·exact ⟨t,rfl⟩
 ·exact ⟨t,rfl⟩
 ·rfl
theorem DGet.fk {k:Key}(e:Rd H a 177):DGet H a (kV k) (w6 kvs k):=.inl ⟨kvs,k,e,rfl,rfl⟩
theorem ObjOk.reH (ha:∀ xs,H a≠some 241)(ho:∀ x,H a≠some (.own x)):∀ {u:HO},ObjOk P w H h b u->ObjOk P w (upd H a v) h b u:=by
 intro u
 induction u with
 | dT kvs =>
  rintro ⟨x1,x2,xs,x3,x4⟩
  exact ⟨x1,x2,xs,L2.Paired.imp' (λ p q hq=>⟨hq.1,by rw [zr (λ z=>ha _ (z▸hq.2.1))];exact hq.2.1,hq.2.2⟩) x3,x4⟩
 | ins C dx fs =>
  rintro ⟨x1,x2⟩
  exact ⟨by rw [zr (λ z=>ho _ (z▸x1))];exact x1,x2⟩
 | frz o u ih =>
  rintro ⟨x1,x2⟩
  exact ⟨x1,ih x2⟩
 | _=>exact λ x=>x
theorem Inv.freeze (I:131)(e:H a=some 177)(ho:s.heap.get? a=some o):Inv X pins σ (upd H a (.frz o 177)) s:=by
 have ne:∀ b,H b=none->b≠a:=λ b hb z=>by rw [z,e] at hb;cases hb
 refine ⟨I.ok,I.os,I.bare,⟨I.base.keep,I.base.slot,λ b ob q n hx=>?_,I.base.there,λ b xs q=>?_,λ b ob u q=>?_,λ b ps q=>?_⟩,I.loc,I.cell,?_,λ x c hc=>?_,λ p hp=>?_,λ b u hb=>?_,I.len⟩
 ·have:=I.base.free b ob q n hx
  rw [zr (ne b this)];exact this
 ·have:=I.base.tups b xs q
  rw [zr (λ z=>by rw [z,e] at this;cases this)];exact this
 ·have:=I.base.frzs b ob u q
  rw [zr (λ z=>by rw [z,e] at this;cases this)];exact this
 ·obtain ⟨m,hm⟩:=I.base.tbls b ps q;exact ⟨m,by rw [zr (λ z=>by rw [z,e] at hm;cases hm)];exact hm⟩
 ·rw [zr (ne _ I.free)];exact I.free
 ·rw [zr (ne _ (I.freeC x c hc))];exact I.freeC x c hc
 ·obtain ⟨p1,p2,p3⟩:=I.pin p hp;exact ⟨p1,by rw [zr (ne _ p2)];exact p2,p3⟩
 ·have n1:∀ xs,H a≠some 241:=λ xs z=>by rw [e] at z;cases z
  have n2:∀ x,H a≠some (.own x):=λ x z=>by rw [e] at z;cases z
  by_cases z:b=a
  ·subst z;rw [zC] at hb;cases hb;exact ⟨ho,ObjOk.reH n1 n2 (I.hok _ _ e)⟩
  ·rw [zr z] at hb;exact ObjOk.reH n1 n2 (I.hok b u hb)
def Itk (d:Addr)(o:Obj)(kvs:173):It :=
 ⟨λ i H=>i<kvs.length/\H d=some (.frz o 177),λ i H x H'=>H'=H/\∃ k v,kvs[i]?=some (k,v)/\x=kV k,λ i H=>i=kvs.length/\H d=some (.frz o 177)⟩
theorem j2:∀ {xs:List α}{ys:List β},Paired R xs ys->xs.length=ys.length:=λ p=>by
 induction p with
 | nil=>rfl
 | cons _ _ ih=>rw [Y09,Y09,ih]
theorem ZD {xs:List α}(p:Paired R xs ys):∀ {i:Nat}{x:α},xs[i]?=some x->∃ y,ys[i]?=some y/\R x y:=by
 induction p with
 | nil=>intro i x e;simp at e
 | cons r _ ih =>
  intro i x e;cases i with
  | zero=>simp at e;subst e;exact ⟨_,rfl,r⟩
  | succ i=>exact ih 291
theorem IsKeyIter.at' {h h':Heap}(st:h.IsKeyIter it d i n ep)(k:∀ o,h.get? it=some o->h'.get? it=some o):h'.IsKeyIter it d i n ep:=by
 obtain ⟨o,e,c,q⟩:=st;exact ⟨o,k o e,c,q⟩
theorem Oj {K:Y01}(d it:Addr)(o:Obj)(es:Array DictEntry)(ep:Nat)(kvs:173)(hd:o.data=.dict es ep):Turn P w K tg (Itk d o kvs) [it] it (λ i h=>h.IsKeyIter it d i kvs.length ep) where
 mem:=by simp
 obj:=λ i h st b hb=>by
  have e:b=it:=by simpa using hb
  subst e;obtain ⟨o,e,c,d⟩:=st;exact ⟨o,e,λ v z=>by rw [d] at z;cases z⟩
 keep:=λ i h h' st k=>IsKeyIter.at' st λ o e=>k it 130 o e
 item:=by
  intro X hP hw hK hc i pins s σ H E I hf st hg;subst hP hw hK;obtain ⟨hi,hq⟩:=hg;obtain ⟨hg1,_,_,vs,rel,o',es',ep',ho',hx',hd',hk',hp',hn'⟩:=I.hok d _ hq;rw [hg1] at ho';cases ho';rw [hd] at hd';cases hd';obtain ⟨k,v,hkv⟩:∃ k v,kvs[i]?=some (k,v):=⟨_,_,Y06 hi⟩;obtain ⟨⟨k',u⟩,hu,hk,ru⟩:=ZD rel hkv;have hk:=hk;subst hk;have len:=j2 rel;obtain ⟨f0,f1,f2,f3,f4,f5⟩:=hf it 130;have dat:Heap.DictAt (zB X.prog X.w) s.heap d vs ep:=⟨o,es,hg1,hx',hd,hk',hp',hn'⟩;refine wpAny_pyNext_dict_item (len▸st) dat hu λ key h' hkey st' sb=>?_;have I1:=I.turned (t':=s.toks) (λ b o hb e=>(sb.2 b hb).trans e) f0 f1 f3 f4 f5;obtain ⟨o2,e2,c2,d2⟩:=id st';exact ⟨key,rfl,Vq (s:={ s with heap:=h' }) e2 c2 d2 127 ⟨kV k,H,I1,BS hkey,⟨rfl,k,v,hkv,rfl⟩,len▸st',λ b hb=>(hf b hb).1⟩⟩
 done:=by
  intro X hP hw hK hc i pins s σ H E I hf st hg;subst hP hw hK;obtain ⟨hi,hq⟩:=hg;obtain ⟨hg1,_,_,vs,rel,o',es',ep',ho',hx',hd',hk',hp',hn'⟩:=I.hok d _ hq;rw [hg1] at ho';cases ho';rw [hd] at hd';cases hd';have len:=j2 rel;obtain ⟨f0,f1,f2,f3,f4,f5⟩:=hf it 130;have dat:Heap.DictAt (zB X.prog X.w) s.heap d vs ep:=⟨o,es,hg1,hx',hd,hk',hp',hn'⟩;exact wpAny_pyNext_dict_end (I.ok.hd hc) (len▸st) dat (Y1o 128) λ h' eb=>226
 self:=λ _ _ _ _ _ st h=>wpAny_pyIter_keyiter st h
section
variable {X:Cx}{tg:Expr}
def zb8 (te:TE):TI:=λ σ H R=>te σ H λ x H1=>∃ a kvs,x=.ref a/\((H1 a=some 177/\∀ o,R (Itk a o kvs) (upd H1 a (.frz o 177)))\/∃ o,H1 a=some (.frz o 177)/\R (Itk a o kvs) H1)
theorem VD (I:131)(e:H a=some (.frz o 177))(q:R (Itk a o kvs) H):wpAny 132 X.A (pyIter 202) (PIE X pins σ tg R) X.xe s:=by
 obtain ⟨hg1,_,hS,vs,rel,o',es',ep',ho',hx',hd',hk',hp',hn'⟩:=I.hok a _ e;rw [hg1] at ho';cases ho';have len:=j2 rel;have dat:Heap.DictAt (zB X.prog X.w) s.heap a vs ep':=⟨o,es',hg1,hx',hd',hk',hp',hn'⟩;refine wpAny_pyIter_dict hS dat ?_;refine ⟨s.heap.objs.size,[s.heap.objs.size],_,_,H,rfl,I.kept λ b o e=>Y03 _ e,Oj a _ o es' ep' kvs hd',⟨_,Y0c _ rfl,rfl,by rw [len];rfl⟩,λ b hb=>?_,q⟩;have e:b=s.heap.objs.size:=by simpa using hb
 subst e;exact I.fpOk 175 276
theorem z49 (hl:PE X l tl):PI X tg l (zb8 tl):=by
 intro pins s σ H R I h;refine thn (hl pins s σ H _ I h) λ v s1 ⟨x,H1,I1,r1,q1⟩=>?_;obtain ⟨a,kvs,e,q⟩:=q1;subst e;cases r1;rcases q with ⟨ea,q⟩ | ⟨o,ea,q⟩
 ·obtain ⟨_,_,vs,rel,o,es,ep,ho,_⟩:=I1.hok a _ ea;exact VD (I1.freeze ea ho) zC (q o)
 ·exact VD I1 ea q
end
def Itm (d:Addr)(o:Obj)(kvs:173):It :=
 ⟨λ i H=>i<kvs.length/\H d=some (.frz o 177),λ i H x H'=>∃ T k v,x=.ref T/\H T=none/\kvs[i]?=some (k,v)/\H'=upd H T (.tup [kV k,v]),λ i H=>i=kvs.length/\H d=some (.frz o 177)⟩
theorem UA {K:Y01}{x1}(d it:Addr)(o:Obj)(es:Array DictEntry)(ep:Nat)(kvs:173)(hd:o.data=.dict es ep):Turn P w K (.Tuple elts x1 pos) (Itm d o kvs) [it] it (λ i h=>∃ ok ov,IsItemIter h it d i kvs.length ep ok ov) where
 mem:=by simp
 obj:=λ i h st b hb=>by
  have e:b=it:=by simpa using hb
  subst e;obtain ⟨ok,ov,st⟩:=st;exact ⟨_,st,λ v z=>by cases z⟩
 keep:=λ i h h' st k=>by
  obtain ⟨ok,ov,st⟩:=st;exact ⟨ok,ov,k it 130 _ st⟩
 item:=by
  intro X hP hw hK hc i pins s σ H E I hf st hg;subst hP hw hK;obtain ⟨ok,ov,st⟩:=st;obtain ⟨hi,hq⟩:=hg;obtain ⟨hg1,_,_,vs,rel,o',es',ep',ho',hx',hd',hk',hp',hn'⟩:=I.hok d _ hq;rw [hg1] at ho';cases ho';rw [hd] at hd';cases hd';obtain ⟨k,v,hkv⟩:∃ k v,kvs[i]?=some (k,v):=⟨_,_,Y06 hi⟩;obtain ⟨⟨k',u⟩,hu,hk,ru⟩:=ZD rel hkv;have hk:=hk;subst hk;have len:=j2 rel;have dat:Heap.DictAt (zB X.prog X.w) s.heap d vs ep:=⟨o,es,hg1,hx',hd,hk',hp',hn'⟩;refine wpAny_pyNext_items_item (len▸st) dat hu λ key h' hkey a1 a3 hz a5=>?_;refine ⟨_,rfl,wpAny_letOwnedTupleGo_items a1 λ h'' q1 q2=>?_⟩;have up:∀ b o,b∉[it]->s.heap.get? b=some o->h''.get? b=some o:=λ b o hb e=>by
   have hb:b≠it:=by simpa using hb
   exact (q2.2 b hb).trans (a5 b o hb e)
  have I1:Inv X pins σ H { s with heap:=h'' }:=I.turnedL up hf;have F:=I.fpOk 175 276;have h0:X.s₀.heap.get? s.heap.objs.size=none:=by
   cases q:X.s₀.heap.get? s.heap.objs.size with
   | none=>rfl
   | some o=>exact absurd (Y0w (Y0g q) I.sz) (Y1b _)
  have zs:=Y20 (Y0g st);have T':=(q2.2 _ zs).trans a3;have I2:Inv X pins σ (upd H s.heap.objs.size (.tup [kV k,v])) { s with heap:=h'' }:=I1.track F.1 h0 F.2.1 F.2.2.2.2.1 F.2.2.2.2.2 ⟨by show 2<=sizeLine;rw [sizeLine_eq];decide,[key,u],.cons (BS hkey) (.cons ru .nil),⟨_,T',rfl,0,rfl⟩⟩;refine ⟨.ref s.heap.objs.size,_,I2,rfl,⟨_,k,v,rfl,F.1,hkv,rfl⟩,⟨key,u,len▸q1⟩,λ b hb=>?_⟩;have hb':=hf b hb;have ne:b≠s.heap.objs.size:=by
   have e:b=it:=by simpa using hb
   subst e;exact Ne.symm zs
  rw [zr ne];exact hb'.1
 done:=by
  intro X hP hw hK hc i pins s σ H E I hf st hg;subst hP hw hK;obtain ⟨ok,ov,st⟩:=st;obtain ⟨hi,hq⟩:=hg;obtain ⟨hg1,_,_,vs,rel,o',es',ep',ho',hx',hd',hk',hp',hn'⟩:=I.hok d _ hq;rw [hg1] at ho';cases ho';rw [hd] at hd';cases hd';have len:=j2 rel;have dat:Heap.DictAt (zB X.prog X.w) s.heap d vs ep:=⟨o,es,hg1,hx',hd,hk',hp',hn'⟩;exact wpAny_pyNext_items_end (I.ok.hd hc) (len▸st) dat (Y1o 128) λ h' eb=>⟨rfl,I.turnedL (λ b o hb e=>eb b o (by simpa using hb) e) hf⟩
 self:=λ _ _ _ _ _ st h=>by
  obtain ⟨ok,ov,st⟩:=st;exact PySem.W.kcp_self st h
section
variable {X:Cx}
def z8d (te:TE):TI:=λ σ H R=>te σ H λ x H1=>∃ a kvs,x=.ref a/\((H1 a=some 177/\∀ o,R (Itm a o kvs) (upd H1 a (.frz o 177)))\/∃ o,H1 a=some (.frz o 177)/\R (Itm a o kvs) H1)
theorem Yk {x1}(I:131)(hv:s.heap.IsItemsView v a)(e:H a=some (.frz o 177))(q:R (Itm a o kvs) H):wpAny 132 X.A (pyIter (.ref v)) (PIE X pins σ (.Tuple elts x1 pos') R) X.xe s:=by
 obtain ⟨hg1,_,hS,vs,rel,o',es',ep',ho',hx',hd',hk',hp',hn'⟩:=I.hok a _ e;rw [hg1] at ho';cases ho';have len:=j2 rel;have dat:Heap.DictAt (zB X.prog X.w) s.heap a vs ep':=⟨o,es',hg1,hx',hd',hk',hp',hn'⟩;refine wpAny_pyIter_items hv dat ?_;refine ⟨s.heap.objs.size,[s.heap.objs.size],_,_,H,rfl,I.kept λ b o e=>Y03 _ e,UA a _ o es' ep' kvs hd',⟨.none,.none,by rw [len];exact Y0c _ rfl⟩,λ b hb=>?_,q⟩;have e:b=s.heap.objs.size:=by simpa using hb
 subst e;exact I.fpOk 175 276
theorem BT {x1} (hl:PE X l tl) (hbase:attributeBase l "items" X.env (eval l X.env)=eval l X.env) (hline:(apos.endLine==cpos.line)=true):PI X (.Tuple elts x1 pos') (.Call (.Attribute l "items" apos) [] [] cpos) (z8d tl):=by
 intro pins s σ H R I h;refine wpAny_Call_method0_late hbase hline (thn (hl pins s σ H _ I h) λ v s1 ⟨x,H1,I1,r1,q1⟩=>?_);obtain ⟨a,kvs,e,q⟩:=q1;subst e;cases r1;have rdk:Rd H1 a 177:=by
  rcases q with ⟨ea,_⟩ | ⟨o,ea,_⟩
  ·exact .inl ea
  ·exact .inr ⟨o,ea⟩
 obtain ⟨t1,t2,t3⟩:=BF I1 (.inl ⟨kvs,rdk⟩);obtain ⟨_,_,vs0,_,dd⟩:=Zv I1.hok rdk;refine ⟨"dict","dict.items",PySem.F.plainAttrs_dict,PySem.F.slot_dict_items,PySem.F.type_dict_items,t1,t2,Calls.callWith_builtin rfl (PySem.evalArgs_none ?_)⟩;refine call_meetsIn PySem.F.slot_dict_items t1 PySem.F.entry_dict_items (PySem.F.args_dict_items_1 _) (meets_dict_items (zB X.prog X.w) a t3) ⟨⟨_,dd⟩,?_⟩;have kp:∀ b ob,s1.heap.get? b=some ob->(s1.heap.push { cls:=.type "dict_items",data:=.fields #[.ref a] }).get? b=some ob:=λ b ob e=>Y03 _ e;have I2:Inv X pins σ H1 { s1 with heap:=s1.heap.push { cls:=.type "dict_items",data:=.fields #[.ref a] } }:=I1.kept kp;have hv:Heap.IsItemsView (s1.heap.push { cls:=.type "dict_items",data:=.fields #[.ref a] }) s1.heap.objs.size a:=203;rcases q with ⟨ea,q⟩ | ⟨o,ea,q⟩
 ·obtain ⟨_,_,vs,rel,o,es,ep,ho,_⟩:=I2.hok a _ ea;exact Yk (I2.freeze ea ho) hv zC (q o)
 ·exact Yk I2 hv ea q
end
section
variable {prog:204}{w:World}{K:Type}[DecidableEq K]{knd:HeapKind prog w K}{A:296}{E:XU}{s:153}
theorem z8e {xs:List (K×Addr×Value)}(hn:(xs.map (·.1)).Nodup){k:K}{p:Addr×Value}{j:Nat}{q:Addr×Value}(e:atKey xs k=some p)(hj:xs[j]?=some (k,q)):q=p:=by
 rw [atKey_of_get hn hj] at e;injection e
theorem z4a {nm:String}{a b:Addr}{ka kb:List (K×Addr×Value)}{Q:Bool->Shared->Prop}(hu:knd.room A)(ha:293=false)(hb:(b==sysModules)=false)(da:s.heap.DictOfH knd a ka)(db:s.heap.DictOfH knd b kb)(len:ka.length=kb.length)
  (hits:∀ (i:Nat) (k:K) (p:Addr) (v:Value),ka[i]?=some (k,p,v)->∃ q y,atKey kb k=some (q,y)/\SeqAt.EqAt A s v y true) (h:Q true s):wpAny 139 A (Builtin.Dict.samePairs nm a b) Q E s:=by
 obtain ⟨oa,es,ep,hoa,_,hda,hea,hia,hna⟩:=da;obtain ⟨ob,fs,ep',hob,_,hdb,heb,hib,hnb⟩:=db;have la:es.size=ka.length:=size_of_entries hea;have lb:fs.size=kb.length:=size_of_entries heb;unfold Builtin.Dict.samePairs Builtin.Dict.showsAll;rw [if_neg (by rw [ha];decide),if_neg (by rw [hb];decide)];refine wpAny_bind (wpAny_pure (wpAny_bind (wpAny_pure (wpAny_bind (wpAny_dictEntries hoa hda ?_)))));dsimp only;refine wpAny_bind (wpAny_dictEntries hob hdb ?_);rw [if_neg (by rw [la,lb,len];simp)];refine wpAny_bind (wpAny_dictEpoch hoa hda (wpAny_bind ?_));rw [Std.Legacy.Range.forIn_eq_forIn_range'];simp only [Std.Legacy.Range.size,Nat.sub_zero,Nat.add_sub_cancel,Nat.div_one];refine wpAny_forIn_list _ (λ rest q s'=>s'=s/\q=(none,())/\∃ i,rest=List.range' i (es.size-i)) _ ?_ ?_ _ _ ⟨rfl,rfl,0,by simp⟩
 ·rintro x rest q s' ⟨rfl,rfl,i,hr⟩
  have hlt:i<es.size:=by
   rcases Nat.lt_or_ge i es.size with z | z
   ·exact z
   ·rw [Nat.sub_eq_zero_of_le z] at hr;cases hr
  obtain ⟨rfl,hrest⟩:x=i/\rest=List.range' (i+1) (es.size-(i+1)):=by
   rw [show es.size-i=(es.size-(i+1))+1 by omega,Y2z] at hr;injection hr with z1 z2;exact ⟨z1,z2⟩
  obtain ⟨⟨k,p,v⟩,hk⟩:∃ y,ka[x]?=some y:=⟨_,Y06 128⟩;have ex:es[x]?=some (entryOfKey knd (k,p,v)):=by rw [entry_at hea,hk];rfl
  obtain ⟨r,y,hy,he⟩:=hits x k p v hk;refine wpAny_bind (wpAny_dictEntries hoa hda ?_);rw [ex];show wpAny _ _ (holding [Value.ref p,v] _ >>= _) _ _ _;refine wpAny_bind (wpAny_holding (wpAny_bind (wpAny_dictFind_heap hu (hia _ (Y0z hk)) hob hdb heb hib hnb (λ z=>?_) λ j t hj=>?_)))
  ·rw [atKey_none_of_get z] at hy;cases hy
  ·have ej:fs[j]?=some (entryOfKey knd (k,t)):=by rw [entry_at heb,hj];rfl
   have et:=z8e hnb hy hj;subst et;refine wpAny_bind (wpAny_dictEntries hob hdb ?_);rw [ej];refine wpAny_holding (he prog w _ _ ?_);show wpAny _ _ (if (!true)=true then _ else _) _ _ _;rw [if_neg 127];refine wpAny_bind (wpAny_dictEpoch hoa hda ?_);rw [if_neg 130];exact wpAny_pure ⟨rfl,rfl,x+1,hrest⟩
 ·rintro q s' ⟨rfl,rfl,i,hr⟩
  exact wpAny_pure h
theorem zb9 {a b:Addr}{ka kb:List (K×Addr×Value)}{Q:XU}(hr:knd.room A.in1)(ha:293=false)(hb:(b==sysModules)=false)(da:s.heap.DictOfH knd a ka)(db:s.heap.DictOfH knd b kb)(len:ka.length=kb.length)(hu:A.units<cLine)
  (hits:∀ (i:Nat) (k:K) (p:Addr) (v:Value),ka[i]?=some (k,p,v)->∃ q y,atKey kb k=some (q,y)/\SeqAt.EqAt A.in1 s v y true) (h:Q (.bool true) s):wpAny 139 A (compareOp .Eq 202 (.ref b)) Q E s:=by
 refine wpAny_richCompare_same_room (op:=.Eq) da.typeIs db.typeIs PySem.F.slot_dict_eq (wpAny_call_entry PySem.F.slot_dict_eq da.typeIs PySem.F.entry_dict_eq ?_ (PySem.F.args_dict_eq_2 _ _)) hu;show wpAny _ _ (Builtin.Dict.dictSlotArgs "__eq__" ⟨[.ref a,.ref b],[]⟩ >>= _) _ _ s;refine wpAny_bind ?_;unfold Builtin.Dict.dictSlotArgs;refine wpAny_bind (wpAny_notOrdered_dict da.typeIs (wpAny_pure ?_));refine wpAny_bind (wpAny_isInstance (T:="dict") db.typeIs PySem.F.sub_dict_dict ?_);simp only [Bool.not_true,Y2r,if_false];refine wpAny_bind (wpAny_pure (wpAny_bind (wpAny_pure (wpAny_bind (z4a hr ha hb da db len hits (wpAny_pure ⟨_,rfl,⟨(λ z=>by cases z),?_⟩⟩))))));simpa using h
end
end L2
namespace ST
set_option autoImplicit false
set_option linter.unusedVariables false
open PySem PyProof.Rows
theorem VE (t:SetTable)(n:Nat):(t.orStandIn n).led=t.led/\(t.plain=false->(t.orStandIn n).plain=false):=by
 unfold SetTable.orStandIn
 split
 ·exact ⟨rfl,id⟩
 ·exact ⟨rfl,λ _=>rfl⟩
theorem UB (t:SetTable)(es:190)(h:Int)(x:Value):(layNew t es h x).2.1.led=t.led:=by
 unfold layNew
 split
 ·rename_i sl wd _;exact (VE (t.put sl).1 _).1
 ·rfl
theorem WV (t:SetTable)(es:190)(h:Int)(x:Value)(hp:t.plain=false):(layNew t es h x).2.1.plain=false:=by
 unfold layNew
 split
 ·rename_i sl wd _;exact (VE (t.put sl).1 _).2 hp
 ·rfl
theorem ZE {t:SetTable}{hs:Array Int}{n:Nat}{r:SetTable×Array Nat}(h:t.relaid hs n=some r):r.1.led=t.led/\r.1.plain=t.plain:=by
 unfold SetTable.relaid SetTable.laid at h;cases e:SetTable.layClean (SetTable.sizeAbove n-1) hs with
 | none=>rw [e] at h;cases h
 | some o=>rw [e] at h;cases h;exact 210
theorem WW (t:SetTable)(es:190)(n:Nat):(relayAll t es n).2.1.led=t.led:=by
 unfold relayAll
 split
 ·rename_i t' o e;dsimp only
  split
  ·exact (ZE e).1
  ·rfl
 ·rfl
theorem ZF (t:SetTable)(es:190)(n:Nat)(hp:t.plain=false):(relayAll t es n).2.1.plain=false:=by
 unfold relayAll
 split
 ·rename_i t' o e;dsimp only
  split
  ·exact (ZE e).2.trans hp
  ·rfl
 ·rfl
def Ent (w:World)(es:190):Prop:=∀ e∈es.toList,∃ x t,e=(hashStr w x,.str x t)
def keys (es:190):List Str:=es.toList.map λ e=>strOf e.2
structure TSo (w:World)(o:Obj)(es:190)(ep:Nat)(t:SetTable)(ss:XQ)(led:Bool):Prop where
 obj:o={ cls:=.type "set",dict:=none,data:=.set es ep t,slots:=#[] }
 ent:Ent w es
 perm:(keys es).Perm ss
 nodup:ss.Nodup
 fits:t.fits es.size=true
 led:t.led=led
 plain:t.plain=true->es.size=0
 small:es.size<scanBound
def TS (w:World)(o:Obj)(ss:XQ)(led:Bool):Prop:=∃ es ep t,TSo w o es ep t ss led
theorem Ent.elems {prog:204}{w:World}{es:190}(h:Ent w es):ElemsOf (strKind prog w) es.toList:=λ e he=>by
 obtain ⟨x,t,rfl⟩:=h e he;exact ⟨⟨x,by show (x==x)=true;exact beq_self_eq_true x,rfl⟩,rfl⟩
theorem Ent.mem {w:World}{es:190}(h:Ent w es)(x:Str):x∈keys es ↔ ∃ e∈es.toList,Value.isStrOf x e.2=true:=by
 unfold keys;rw [Y0e];constructor
 ·rintro ⟨e,he,rfl⟩
  obtain ⟨y,t,rfl⟩:=h e he;exact ⟨_,he,by show (y==y)=true;exact beq_self_eq_true y⟩
 ·rintro ⟨e,he,hx⟩
  obtain ⟨y,t,rfl⟩:=h e he
  have:y=x:=by simpa [Value.isStrOf] using hx
  exact ⟨_,he,this⟩
section
variable {prog:204}{w:World}{A:296}{E:XU}{s:153}
theorem TSo.store {o:Obj}{es es':190}{ep:Nat}{t t':SetTable}{ss ss':XQ}{led:Bool}{a:Addr}{h:Heap}(hT:TSo w o es ep t ss led)(ho:h.get? a=some o)
  (e1:Ent w es') (e2:(keys es').Perm ss') (e3:ss'.Nodup) (e4:t'.fits es'.size=true) (e5:t'.led=led) (e6:t'.plain=true->es'.size=0) (e7:es'.size<scanBound) :
  ∃ o',(h.update a (Obj.putSet es' t')).get? a=some o'/\TSo w o' es' (ep+1) t' ss' led:=by
 have hd:o.data=.set es ep t:=by rw [hT.obj]
 have hg:=Y1w (Obj.putSet es' t') ho (by rw [putSet_of es' t' hd];rfl);rw [putSet_of es' t' hd] at hg;refine ⟨_,hg,?_,e1,e2,e3,e4,e5,e6,e7⟩;rw [hT.obj]
theorem zba {a:Addr}{o:Obj}{ss:XQ}{led:Bool}{x:Str}{tk:Tok}{Q:Bool->Shared->Prop}(ho:s.heap.get? a=some o)(hT:TS w o ss led)(hroom:ss.length+1<scanBound)
  (h:∀ h' o' b,Heap.SameBut a s.heap h'->h'.get? a=some o'->TS w o' (if x∈ss then ss else ss++[x]) led->Q b { s with heap:=h' }) :
  wpAny 139 A (setAddHashed a (.str x tk) (hashStr w x)) Q E s:=by
 obtain ⟨es,ep,t,hT⟩:=hT;have hd:o.data=.set es ep t:=by rw [hT.obj]
 have hel:ElemsOf (strKind prog w) es.toList:=hT.ent.elems;have hn:es.size=ss.length:=by rw [<- hT.perm.length_eq];simp [keys]
 have hkey:(strKind prog w).is x (.str x tk)=true:=by show (x==x)=true;exact beq_self_eq_true x
 have hmem:x∈ss ↔ ∃ e∈es.toList,(strKind prog w).is x e.2=true:=by rw [<- hT.perm.mem_iff];exact hT.ent.mem x
 unfold setAddHashed setAddHashedIn;refine wpAny_holding (wpAny_bind (wpAny_setState_of ho hd hT.fits ?_));dsimp only;rw [byScan_of rfl hT.small hel,if_pos rfl];unfold setAddByScan;refine wpAny_bind (wpAny_bind (wpAny_rule ?_));refine wpAny_bind (wpAny_setScan_of hkey ho hd hT.fits hel ?_);cases hr:List.findIdx? (λ e=>(strKind prog w).is x e.2) es.toList with
 | some j =>
  dsimp only;obtain ⟨hj,hpj,_⟩:=List.findIdx?_eq_some_iff_getElem.mp hr;have hx:=hmem.mpr ⟨_,Y22 hj,hpj⟩
  have:=h s.heap o false (Heap.SameBut.refl a s.heap) ho (by rw [if_pos hx];exact ⟨es,ep,t,hT⟩)
  exact wpAny_pure (wpAny_pure this)
 | none =>
  dsimp only;have hx:x∉ss:=λ hx=>by
   obtain ⟨e,he,hp⟩:=hmem.mp hx
   have:=List.findIdx?_eq_none_iff.mp hr e he
   rw [hp] at this;exact Bool.noConfusion this
  rw [if_neg hx] at h;have hgw:∀ (b:Bool) {s₁:153}{Q':Unit->Shared->Prop},Q' () s₁->wpAny 139 A (match b with | true=>rule "set.scan.the-table-gave-way" | false=>pure ()) Q' E s₁ :=
   λ b s₁ Q' hq=>by cases b<;>first | exact wpAny_pure hq | exact wpAny_rule hq
  have l1:=layNew_perm t es (hashStr w x) (.str x tk);have l2:=layNew_fits t es (hashStr w x) (.str x tk);have l3:=UB t es (hashStr w x) (.str x tk);have l4:=WV t es (hashStr w x) (.str x tk);have e0:(strKind prog w).hash x=hashStr w x:=rfl;generalize hL:layNew t es (hashStr w x) (.str x tk)=L at l1 l2 l3 l4 ⊢;obtain ⟨es1,t1,wd,gv⟩:=L;dsimp only at l1 l2 l3 l4 ⊢;rw [Array.toList_push] at l1;have f1:Ent w es1:=λ e he=>by
   rcases Y0j.mp (l1.mem_iff.mp he) with he | he
   ·exact hT.ent e he
   ·exact ⟨x,tk,Y0d.mp he⟩
  have f2:(keys es1).Perm (ss++[x]):=by
   have:=l1.map λ e=>strOf e.2
   rw [Y0o] at this;exact this.trans (hT.perm.append_right _)
  have f3:(ss++[x]).Nodup:=by
   refine Y2a.mpr ⟨hT.nodup,by simp,λ a ha b hb e=>hx ?_⟩;rw [Y0d.mp hb] at e;rw [<- e];exact ha
  have f4:es1.size=ss.length+1:=by rw [<- Y1m,l1.length_eq];simp [hn]
  refine wpAny_bind (hgw _ ?_);have tail:∀ t2:SetTable,t2.fits es1.size=true->t2.led=led->t2.plain=false->wpAny 139 A (do
    storeSet a es1 t2
    if (!wd&&t2.tooFull)=true then do
      (match (relayAll t2 es1 247).2.2 with | true=>rule "set.scan.the-table-gave-way" | false=>pure ())
      storeSet a (relayAll t2 es1 247).1 (relayAll t2 es1 247).2.1
      pure (some true)
     else pure (some true)) (λ r s'=>∃ h' o',s'={ s with heap:=h' }/\r=some true/\Heap.SameBut a s.heap h'/\h'.get? a=some o'/\TS w o' (ss++[x]) led) E s:=by
   intro t2 g1 g2 g3;refine wpAny_bind (wpAny_storeSet_of ho hd ?_ (fits_of_scanBound 128));obtain ⟨o1,ho1,hT1⟩:=hT.store ho f1 f2 f3 g1 g2 (λ hp=>by rw [g3] at hp;cases hp) 128;have sb1:=Heap.SameBut.update s.heap a (Obj.putSet es1 t2);by_cases c:(!wd&&t2.tooFull)=true
   ·rw [if_pos c];have r1:=relayAll_perm t2 es1 247;have r2:=relayAll_fits t2 es1 247;have r3:=WW t2 es1 247;have r4:=ZF t2 es1 247 g3;generalize relayAll t2 es1 247=R at r1 r2 r3 r4 ⊢;obtain ⟨es2,t3,gv2⟩:=R;dsimp only at r1 r2 r3 r4 ⊢;have hz:es2.size=es1.size:=by rw [<- Y1m,r1.length_eq,Y1m]
    refine wpAny_bind (hgw _ ?_);refine wpAny_bind (wpAny_storeSet_of ho1 (by rw [hT1.obj]) ?_ (fits_of_scanBound 128));obtain ⟨o2,ho2,hT2⟩:=hT1.store ho1 (λ e he=>f1 e (r1.mem_iff.mp he)) ((r1.map λ e:Int×Value=>strOf e.2).trans f2) f3 r2 (r3.trans g2) (λ hp=>by rw [r4] at hp;cases hp) 128;exact wpAny_pure ⟨_,o2,rfl,rfl,sb1.trans (Heap.SameBut.update _ a _),ho2,_,_,_,hT2⟩
   ·rw [if_neg c];exact wpAny_pure ⟨_,o1,rfl,rfl,sb1,ho1,_,_,_,hT1⟩
  cases hp:t1.plain
  ·refine wpAny_bind (wpAny_pure ?_);refine wpAny_mono (tail t1 l2 (l3.trans hT.led) hp) ?_ λ _ _ e=>e
   rintro _ _ ⟨h',o',rfl,rfl,q1,q2,q3⟩
   exact wpAny_pure (h h' o' true q1 q2 q3)
  ·refine wpAny_bind ?_;rw [hashByValue_scannable 8 rfl];refine wpAny_pure ?_;refine wpAny_mono (tail { t1 with plain:=false } (SetTable.fits_plain_off l2) (l3.trans hT.led) rfl) ?_ λ _ _ e=>e
   rintro _ _ ⟨h',o',rfl,rfl,q1,q2,q3⟩
   exact wpAny_pure (h h' o' true q1 q2 q3)
end
end ST
namespace ST
set_option autoImplicit false
set_option linter.unusedVariables false
open PySem PyProof.Rows
def dd (l:XQ):List Str:=l.foldl (λ σ x=>if x∈σ then σ else σ++[x]) []
theorem z4b (l:XQ)(x:Str):dd (l++[x])=if x∈dd l then dd l else dd l++[x]:=by
 unfold dd;rw [List.foldl_append];rfl
theorem z4c {l:XQ}{i:Nat}{x:Str}(h:l[i]?=some x):dd (l.take (i+1))=if x∈dd (l.take i) then dd (l.take i) else dd (l.take i)++[x]:=by
 rw [<- z4b,List.take_add_one,h];rfl
theorem BU (l:XQ):∀ (σ:XQ),(l.foldl (λ σ x=>if x∈σ then σ else σ++[x]) σ).length<=σ.length+l.length:=by
 induction l with
 | nil=>intro σ;exact Y0b _
 | cons x l ih =>
  intro σ;rw [Y1g];refine Y0y (ih _) ?_
  split<;>simp<;>omega
theorem dd_len (l:XQ):(dd l).length<=l.length:=by have:=BU l [];simpa [dd] using this
abbrev byT (w:World):Bool:=w.params.followText "set-order"
section
variable {prog:204}{w:World}{A:296}{R:Result->Shared->Prop}{I:Addr}{fp wr:XZ}{G:Array GenState->Array GenState->Prop}{n:Nat}{P:Nat->Value->Prop}{St:Nat->Shared->Prop}
theorem z8f (W:WalksS prog w A.in1 I fp wr G n P St)(S:Addr)(hSf:S∉fp)(l:XQ)(hl:l.length=n)(hval:∀ i v,P i v->∃ x t,l[i]?=some x/\v=.str x t)(hb:n+1<scanBound)(led:Bool) :
  ∀ (k i:Nat) (s:153),n-i=k->i<=n->St i s->(∃ o,s.heap.get? S=some o/\TS w o (dd (l.take i)) led) ->
   (∀ s' o,Moved (S::wr) G s s'->s'.heap.get? S=some o->TS w o (dd l) led->R (.ok (.ret .none)) s') ->
   codeAny 139 A (.builtin "set.update.loop" ⟨[.ref S,.ref I],[]⟩) R s:=by
 have hSw:S∉wr:=λ h=>hSf (W.sub _ h);have hsub:∀ b∈wr,b∈S::wr:=λ b hb=>Y02 _ hb;intro k
 induction k with
 | zero =>
  rintro i s hk hi hst ⟨o,ho,hS⟩ hR
  obtain rfl:i=n:=by omega
  rw [Y2s 128] at hS;refine codeAny_builtin Y3s ?_;rw [Around.under_plainId Y2e _];show wpAny _ A.in1 (pyNext (.ref I) >>= _) _ _ s;exact wpAny_bind (W.done s _ _ hst λ s' hm=>wpAny_pure (hR s' o (hm.mono hsub) (hm.heap S _ hSw ho) hS))
 | succ k ih =>
  rintro i s hk hi hst ⟨o,ho,hS⟩ hR
  refine codeAny_builtin Y3s ?_;rw [Around.under_plainId Y2e _];show wpAny _ A.in1 (pyNext (.ref I) >>= _) _ _ s;refine wpAny_bind (W.item i s _ _ 128 hst λ v s' hP hst' hm=>?_);obtain ⟨x,t,hx,rfl⟩:=hval i v hP;show wpAny _ A.in1 (holding [Value.str x t] (setAdd S (.str x t)) >>= _) _ _ s';refine wpAny_bind (wpAny_holding ?_);unfold setAdd;refine wpAny_holding (wpAny_bind ((strKind prog w).pyHash (k:=x) (by show (x==x)=true;exact beq_self_eq_true x) ?_));have hlen:=dd_len (l.take i);rw [Y1t] at hlen;refine zba (s:={ s' with toks:=s'.toks+1 }) (hm.heap S _ hSw ho) hS 128 λ h' o' b sb ho' hS'=>?_;rw [<- z4c hx] at hS';refine wpAny_pure ⟨plainId_quiet Y2e _,ih (i+1) _ 128 128 (W.frame _ s' _ _ hst' (Y2j _) λ b hb o e=>?_) ⟨o',ho',hS'⟩ λ s'' o'' hm'' q1 q2=>?_⟩
  ·rw [sb.2 b (λ h:b=S=>hSf (by rw [<- h];exact hb))];exact e
  ·refine hR s'' o'' (Moved.trans W.gtrans ((hm.mono hsub).then_heap (Y2j _) λ b o hb e=>?_) hm'') q1 q2;rw [sb.2 b (λ h:b=S=>hb (by rw [h];exact Y04))];exact e
end
def jy (w:World):Obj:={ cls:=.type "set",dict:=none,data:=.set #[] 0 (.fresh 0 0 (!byT w)) }
theorem Ol (w:World):TS w (jy w) [] (!byT w):=⟨#[],0,_,rfl,λ e he=>by simp at he,List.Perm.refl _,List.nodup_nil,rfl,rfl,λ _=>rfl,by decide⟩
section
variable {prog:204}{w:World}{A:296}{E:XU}{s:153}
theorem BV (a:Value){Q₁:XU}(h:Q₁ 178 { s with heap:=s.heap.push (jy w) }) :
  codeAny 139 A (.call (.builtin "set.__new__") ⟨[.type "set",a],[]⟩) (wants Q₁ E) s:=by
 refine codeAny_of_tree ?_;show wpAny _ A.in1 (do checkBuiltinCall "set.__new__" ⟨[.type "set",a],[]⟩;again (.builtin "set.__new__" ⟨[.type "set",a],[]⟩)) _ _ s;refine wpAny_bind (wpAny_of_eq (F.newCall_set_1 a) (wpAny_pure ⟨plainId_quiet F.plain_set_new _,codeAny_builtin F.entry_set_new ?_⟩));rw [Around.under_plainId F.plain_set_new _];unfold Builtin.«set.__new__» Builtin.Frozenset.newClass;have hsub:=sub_set_self;obtain ⟨hp,g,d,tk,os⟩:=s;dsimp only
 wp_walk
 refine wpAny_askSetting (wpAny_pure ?_);dsimp only;simp only [newObj];exact wpAny_bind (wpAny_alloc (wpAny_pure (wpAny_pure h)))
set_option maxHeartbeats 3200000 in
theorem w_set {l:Addr}{items:Array Value}{ss:XQ}{Q:XU}(hh:212)(hl:s.heap.IsList l items)(hi:StrsAre items.toList ss)(hb:items.size+1<scanBound)
  (h:∀ (h':Heap) (tk:Nat) (o:Obj),h'.get? s.heap.objs.size=some o->TS w o (dd ss) (!byT w)->(∀ b o,s.heap.get? b=some o->h'.get? b=some o)->Q 178 { s with heap:=h',toks:=tk }) :
  wpAny 139 A (call (.type "set") [.ref l]) Q E s:=by
 obtain ⟨c,tl,hmro⟩:=F.called_set.mro;have hmade:=F.called_set.made;have hsub:=F.called_set.sub;refine wpAny_call (codeAny_of_tree ?_);show wpAny _ _ (callAny (.type "set") _) _ _ _;refine wpAny_pure ⟨Code.quiet_builtin _ 207,codeAny_builtin F.entry_type_call ?_⟩;rw [Around.under_plain (weight_type_call_type "set" [.ref l] []) rfl];have h1:=F.called_set.notType;have h2:=F.called_set.canCreate;have hct:=F.typeCall_set_1 (.ref l)
 repeat (any_goals (first | assumption | wp_step))
 refine codeAny_mono (BV (.ref l) (E:=E) (Q₁:=λ obj s₁=>obj=.ref s.heap.objs.size/\s₁={ s with heap:=s.heap.push (jy w) }) 210) λ r s₁ hr=>?_;cases r with
 | error e=>exact hr
 | ok fl =>
  cases fl with
  | ret obj =>
   obtain ⟨rfl,rfl⟩:=hr;have hS:(s.heap.push (jy w)).get? s.heap.objs.size=some (jy w):=Y0c _ rfl;have hT:Shared.TypeIs { s with heap:=s.heap.push (jy w) } 178 "set":=⟨_,hS,rfl⟩;have hli:=F.called_set.init.lookup;have hbi:=F.called_set.init.bind 178
   repeat (any_goals (first | assumption | wp_step))
   refine codeAny_mono (codeAny_call_builtin (R:=wants (λ r s₂=>r=.none/\∃ h' tk o,s₂={ s with heap:=h',toks:=tk }/\h'.get? s.heap.objs.size=some o/\TS w o (dd ss) (!byT w) /\
     (∀ b o,s.heap.get? b=some o->h'.get? b=some o)) E) F.called_set.init.plain F.entry_set_init (check_set_init_1 hT ?_)) λ r₂ s₂ hr₂=>?_
   ·obtain ⟨ol,hol,hcl,nl,hdl⟩:=hl;obtain ⟨ocls,odict,odata,oslots⟩:=ol;simp only at hcl hdl;subst hcl;subst hdl;have hol':(s.heap.push (jy w)).get? l=some { cls:=.type "list",dict:=odict,data:=.seq items nl,slots:=oslots }:=Y03 _ hol;have hsls:=F.sub_list_set;have hslf:=F.sub_list_frozenset;have hne:(Value.type "list"==Value.type "dict")=false:=by decide
    have hl1:(s.heap.push (jy w)).IsList l items:=⟨_,hol',rfl,nl,rfl⟩;unfold jy at hS hT hl1 hol' ⊢;unfold Builtin.«set.__init__» noKeywords Builtin.Frozenset.updateFrom;generalize hPI:pyIter=PI
    wp_walk
    subst hPI;refine wpAny_pyIter_list hl1 (wpAny_bind (wpAny_runValue ?_));have hlS:l<s.heap.objs.size:=Y0g hol;have hh3:A.in1.in1.in1.handled=none:=by simp [hh]
    have z1:(s.heap.push (jy w)).objs.size=s.heap.objs.size+1:=Y1e ..
    unfold jy at z1;have hneI:l≠(s.heap.push (jy w)).objs.size:=by rw [Y1e];exact Y0k (Y2u hlS)
    have hSf:s.heap.objs.size∉[(s.heap.push (jy w)).objs.size,l]:=by
     rw [Y1e];simp only [Y08,Y0d,Y0t,or_false,not_or];exact ⟨Y0k (Y1p _),Y20 hlS⟩
    have hlen:ss.length=items.size:=by have:=congrArg List.length hi.strs;rw [Y07] at this;rw [<- this];simp
    have hval:∀ (i:Nat) (v:Value),items[i]?=some v->∃ x t,ss[i]?=some x/\v=.str x t:=λ i v hv=>by
     have hm:v∈items.toList:=by rw [<- Y1x] at hv;exact Y0z hv
     obtain ⟨x,t,rfl⟩:=hi.all v hm;refine ⟨x,t,?_,rfl⟩;rw [<- hi.strs,Y0r,Y1x,hv];rfl
    refine z8f ((Walks.list hh3 _ l hneI items).toS) s.heap.objs.size hSf ss hlen hval hb (!byT w) (items.size-0) 0 _ 128 (Y19 _)
     ⟨203,(hl1.push _)⟩ ⟨_,Y03 _ hS,Ol w⟩ λ s' o hm ho hS'=>?_
    obtain ⟨h',g',d',tk',os'⟩:=s';obtain rfl:g'=s.gens:=hm.gens;obtain rfl:d'=s.drawn:=hm.drawn;obtain rfl:os'=s.os:=hm.os;show wpAny _ _ _ _ _ _;refine wpAny_pure ?_;show wpAny _ _ (ret Value.none) _ _ _;refine wpAny_pure ⟨rfl,h',tk',o,rfl,ho,hS',λ b o e=>?_⟩;have hb:=Y0g e;have hb1:b≠s.heap.objs.size:=Y0k hb;have hb2:b≠(s.heap.push (jy w)).objs.size:=by rw [Y1e];exact Y0k (Y2u hb)
    exact hm.heap b o (by simp only [Y08,Y0d,Y0t,or_false,not_or];exact ⟨hb1,hb2⟩) (Y03 _ (Y03 _ e))
   ·cases r₂ with
    | error e=>exact hr₂
    | ok fl₂ =>
     cases fl₂ with
     | ret r =>
      obtain ⟨rfl,h',tk,o,rfl,ho,hS',hk'⟩:=hr₂
      repeat (any_goals (first | assumption | wp_step))
      exact h _ _ o ho hS' hk'
     | _=>exact hr₂.elim
  | _=>exact hr.elim
end
end ST
namespace ST
set_option autoImplicit false
set_option linter.unusedVariables false
open PySem PyProof.Rows
theorem slot_si_next:Slot "set_iterator" "__next__" "set_iterator.__next__" :=
 .of (owner:="set_iterator") (n:="__next__") (by rw [typeLookup_type,builtinLookup_eq_fast];kernel_rfl) 207 207 207 (by first | exact .inl 207 | exact .inr 207) (by rw [isSubtype_type];kernel_rfl)
theorem JA:entryFor table "set_iterator.__next__"=some Builtin.«set_iterator.__next__»:=entryFor_of_tree (by kernel_rfl)
theorem WX (a:Value):argsOk "set_iterator.__next__" ⟨[a],[]⟩:=by unfold argsOk;kernel_rfl
theorem WY:entryFor table "set.__iter__"=some Builtin.«frozenset.__iter__»:=entryFor_alias (id':="frozenset.__iter__") (by rw [fastTable_eq_tree];kernel_rfl) (by kernel_rfl) 207 (by rw [fastTable_eq_tree];kernel_rfl)
theorem qE {α:Type}:∀ {l:List α}{i:Nat} (h:i<l.length),(l[i]::l.eraseIdx i).Perm l
 | x::l,0,h=>List.Perm.refl _
 | x::l,i+1,h=>by
  have:=qE (by simpa using h)
  exact (List.Perm.swap x _ _).trans (this.cons x)
theorem W6 {α:Type}(next:Nat->Nat):∀ (f k:Nat) (l:List α) (out:Array α),f=l.length->(pickOrder.go next f k l out).toList.Perm (out.toList++l)
 | 0,k,l,out,h=>by
  have:l=[]:=Y2n.mp h.symm
  subst this;show out.toList.Perm _;rw [Y0v]
 | f+1,k,l,out,h=>by
  have hlt:next k%l.length<l.length:=Nat.mod_lt _ 128;unfold pickOrder.go;rw [Y06 hlt];dsimp only;refine (W6 next f (k+1) _ _ (by rw [List.length_eraseIdx,if_pos hlt];omega)).trans ?_;rw [Array.toList_push,Y0i];exact List.Perm.append_left _ (qE hlt)
theorem ZG {α:Type}(next:Nat->Nat)(xs:Array α):(pickOrder next xs).toList.Perm xs.toList:=by
 have:=W6 next xs.size 0 xs.toList #[] 130
 exact (by simpa using this:(pickOrder.go next xs.size 0 xs.toList #[]).toList.Perm xs.toList)
section
variable {prog:204}{w:World}{A:296}{E:XU}{s:153}
theorem BW {src:Source}{n:Nat}{Q:Nat->Shared->Prop}(hn:n≠0)(h:∀ i,i<n->Q i { s with drawn:=s.drawn.bump src }):wpAny 139 A (choose src n) Q E s :=
 λ _ _ _=>⟨hn,h _ (Nat.mod_lt _ (Nat.pos_of_ne_zero hn))⟩
theorem BX {α:Type}:∀ (n:Nat) (xs:List α) {s:153}{Q:List α->Shared->Prop},n=xs.length->(∀ ys d,ys.Perm xs->Q ys { s with drawn:=d })->wpAny 139 A (drawOrder n xs) Q E s
 | 0,xs,s,Q,h,hQ=>by
  have:xs=[]:=Y2n.mp h.symm
  subst this;unfold drawOrder;exact wpAny_pure (hQ [] s.drawn (List.Perm.refl _))
 | n+1,[],s,Q,h,hQ=>by simp at h
 | n+1,x::xs,s,Q,h,hQ=>by
  unfold drawOrder;refine wpAny_bind (BW 130 λ i hi=>?_);rw [Y06 hi];dsimp only;refine wpAny_bind (BX n _ (by rw [List.length_eraseIdx,if_pos hi,<- h];rfl) λ ys d hp=>wpAny_pure ?_);exact hQ _ d ((hp.cons _).trans (qE hi))
def itO (f:Value)(i:Nat)(S:Addr)(n ep:Nat):Obj:={ cls:=.type "set_iterator",dict:=none,data:=.fields #[f,.int i 0,.ref S,.int n 0,.int ep 0],slots:=#[] }
theorem BY {I:Addr}{f:Value}{i:Nat}{S:Addr}{n ep:Nat}{Q:Option Value->Shared->Prop}(ho:s.heap.get? I=some (itO f i S n ep))
  (h:wpAny 139 A.in1 (Builtin.«set_iterator.__next__» ⟨[.ref I],[]⟩) (λ r s'=>∃ v,r=.done (.ret v)/\Q (some v) s') (λ e s'=>wpAny 139 A (do if <- isInstance e (.type "StopIteration") then pure none else throw e) Q E s') s) :
  wpAny 139 A (pyNext (.ref I)) Q E s:=by
 have hT:s.TypeIs (.ref I) "set_iterator":=⟨_,ho,rfl⟩;unfold pyNext;refine wpAny_bind (wpAny_attempt (wpAny_callSpecial?_slot hT slot_si_next (wpAny_call_entry slot_si_next hT JA ?_ (WX _))));refine wpAny_mono h ?_ λ _ _ e=>e
 rintro _ _ ⟨v,rfl,q⟩
 exact ⟨v,rfl,wpAny_pure q⟩
end
end ST
namespace ST
set_option autoImplicit false
set_option linter.unusedVariables false
open PySem PyProof.Rows
section
variable {prog:204}{w:World}{A:296}{E:XU}{s:153}
variable {I S:Addr}{o:Obj}{es:190}{ep:Nat}{t:SetTable}{ss:XQ}
theorem UC {f:Value}{i n:Nat}{Q:Option Value->Shared->Prop}{h1:Heap}(hh:212)(hQ:∀ h',(∀ b o,h1.get? b=some o->h'.get? b=some o)->Q none { s with heap:=h' }) :
  wpAny 139 A.in1 (do raiseNew (<- newExc (.type "StopIteration") [])) (λ (r:Fin) s'=>∃ v,r=.done (.ret v)/\Q (some v) s') (λ e s'=>wpAny 139 A (do if <- isInstance e (.type "StopIteration") then pure none else throw e) Q E s') { s with heap:=h1 }:=by
 refine wpAny_bind ?_;simp only [newExc,newTuple];refine wpAny_bind (wpAny_newObj_type ?_ (by size_fits));refine wpAny_bind (m:=firstArgMember _ _) (wpAny_of_eq (a:=Value.none) (by first | rfl | (simp only [firstArgMember];rfl)) ?_);refine wpAny_newObj_type ?_ (by size_fits);simp only [raiseNew];refine wpAny_bind (wpAny_handled ?_);rw [show A.in1.handled=none from hh];refine wpAny_bind (wpAny_pure (wpAny_throw ?_));refine wpAny_bind (wpAny_isInstance (T:="StopIteration") (b:=true) ⟨_,Y0c _ rfl,rfl⟩ isSubtype_stop ?_);exact wpAny_pure (hQ _ λ b o e=>Y03 _ (Y03 _ e))
theorem zbb {Q:Setting->Shared->Prop}(h:Q ⟨prog,w.params⟩ s):wpAny 139 A ask Q E s:=wpAny_askSetting h
theorem VF {Q:Bool->Shared->Prop}(h:Q (byT w) s):wpAny 139 A setsByText Q E s:=by
 unfold setsByText;exact wpAny_bind (wpAny_askSetting (wpAny_pure h))
theorem zbc {i:Nat}(hb:byT w=true)(hI:s.heap.get? I=some (itO (.int 0 0) i S es.size ep))(hS:s.heap.get? S=some o)(hd:o.data=.set es ep t)(hf:t.fits es.size=true)(hh:212){Q:Option Value->Shared->Prop}
  (h1:∀ e,(pickOrder (w.params.setOrder S ep) es)[i]?=some e->∀ h',h'.get? I=some (itO (.int 0 0) (i+1) S es.size ep)->Heap.SameBut I s.heap h'->Q (some e.2) { s with heap:=h' })
  (h2:(pickOrder (w.params.setOrder S ep) es)[i]?=none->∀ h',(∀ b o,b≠I->s.heap.get? b=some o->h'.get? b=some o)->Q none { s with heap:=h' }):wpAny 139 A (pyNext (.ref I)) Q E s:=by
 refine BY hI ?_;show wpAny _ _ (fieldsOf (.ref I) >>= _) _ _ s;refine wpAny_bind (wpAny_fieldsOf hI rfl ?_);show wpAny _ _ (setEntries S >>= _) _ _ s;refine wpAny_bind (wpAny_setEntries_of hS hd hf ?_);rw [if_neg 130];dsimp only;unfold setNext;refine wpAny_bind (wpAny_bind (wpAny_setState_of hS hd hf ?_));refine wpAny_bind (VF ?_);rw [if_pos hb,if_neg 130];unfold setWalk;refine wpAny_bind (wpAny_bind (wpAny_setState_of hS hd hf ?_));refine wpAny_bind (VF ?_);rw [if_pos hb];refine wpAny_bind (zbb (wpAny_pure (wpAny_pure ?_)));dsimp only;simp only [Y2w];generalize e:(pickOrder (w.params.setOrder S ep) es)[i]?=z at h1 h2 ⊢;cases z with
 | none =>
  show wpAny _ _ (setField (.ref I) 2 .none >>= _) _ _ _;refine wpAny_bind (wpAny_setField_rec hI 130 λ h' q1 q2=>?_);exact UC (f:=.none) (i:=0) (n:=0) hh λ h'' k=>h2 rfl h'' λ b o hb e=>k b o (by rw [q2.2 b hb];exact e)
 | some z =>
  show wpAny _ _ (setField (.ref I) 0 _ >>= _) _ _ _;refine wpAny_bind (wpAny_setField_rec hI 130 λ h' q1 q2=>?_);refine wpAny_bind (wpAny_setField_rec q1 130 λ h'' q3 q4=>?_);exact wpAny_pure ⟨_,rfl,h1 z rfl h'' q3 (q2.trans q4)⟩
end
end ST
namespace ST
set_option autoImplicit false
set_option linter.unusedVariables false
open PySem PyProof.Rows
section
variable {prog:204}{w:World}{A:296}{E:XU}{s:153}
variable {I S:Addr}{o:Obj}{es:190}{ep:Nat}{t:SetTable}{ss:XQ}
theorem zbd {T:Addr}{i:Nat}{pl:List Nat} (hT:s.heap.get? T=some 239) (hI:s.heap.get? I=some (itO (.ref T) i S es.size ep)) (hS:s.heap.get? S=some o) (hd:o.data=.set es ep t) (hf:t.fits es.size=true) (hh:212) {Q:Option Value->Shared->Prop}
  (h1:∀ p e,pl[i]?=some p->es[p]?=some e->∀ h',h'.get? I=some (itO (.ref T) (i+1) S es.size ep)->Heap.SameBut I s.heap h'->Q (some e.2) { s with heap:=h' }) (hp:∀ p∈pl,p<es.size)
  (h2:pl[i]?=none->∀ h',(∀ b o,b≠I->s.heap.get? b=some o->h'.get? b=some o)->Q none { s with heap:=h' }):wpAny 139 A (pyNext (.ref I)) Q E s:=by
 refine BY hI ?_;show wpAny _ _ (fieldsOf (.ref I) >>= _) _ _ s;refine wpAny_bind (wpAny_fieldsOf hI rfl ?_);show wpAny _ _ (setEntries S >>= _) _ _ s;refine wpAny_bind (wpAny_setEntries_of hS hd hf ?_);rw [if_neg 130];dsimp only;refine wpAny_bind (wpAny_seqItems hT rfl ?_);dsimp only;rw [show ((pl.map λ (p:Nat)=>rawInt p).toArray)[(i:Int).toNat]?=pl[i]?.map λ (p:Nat)=>rawInt p by simp];cases e:pl[i]? with
 | none =>
  show wpAny _ _ (setField (.ref I) 0 _ >>= _) _ _ _;refine wpAny_bind (wpAny_setField_rec hI 130 λ h' q1 q2=>?_);refine wpAny_bind (wpAny_setField_rec q1 130 λ h'' q3 q4=>?_);exact UC (f:=.none) (i:=0) (n:=0) hh λ h'' k=>h2 e h'' λ b o hb e=>k b o (by rw [(q2.trans q4).2 b hb];exact e)
 | some p =>
  have hlt:=hp p (Y0z e);have ee:=getElem?_pos es p hlt;show wpAny _ _ (setNextDrawn S (p:Int).toNat (ep:Int).toNat >>= _) _ _ _;unfold setNextDrawn;refine wpAny_bind (wpAny_bind (wpAny_setState_of hS hd hf ?_));dsimp only;rw [if_neg 130];simp only [Y2w,ee];refine wpAny_pure ?_;refine wpAny_bind (wpAny_setField_rec hI 130 λ h' q1 q2=>?_);exact wpAny_pure ⟨_,rfl,h1 p _ e ee h' q1 q2⟩
def ft (t:SetTable):Nat->Nat
 | 0=>0
 | _+1=>t.place.getD 0 0+1
theorem z4d {a:Array Nat}(h:a.size=0)(k:Nat):SetTable.below a k=0:=by
 unfold SetTable.below;rw [h];rfl
theorem z4e {a:Array Nat}(h:a.size=1):SetTable.below a 0=0:=by
 unfold SetTable.below;rw [h];unfold SetTable.below.go;rw [if_pos 128];dsimp only;rw [if_neg 128];rfl
theorem z4f {a:Array Nat}(h:a.size=1):SetTable.below a (a.getD 0 0+1)=1:=by
 unfold SetTable.below;rw [h];unfold SetTable.below.go;rw [if_pos 128];dsimp only;have e:a.getD ((0+1)/2) (a.getD 0 0+1)=a.getD 0 0:=by
  show a.getD 0 _=_;unfold Array.getD;rw [dif_pos 128,dif_pos 128]
 rw [e,if_pos 128];rfl
theorem zbe {i:Nat}(hb:byT w=false)(hi:i<=es.size)(h1':es.size<=1)(hled:t.led=true)(hI:s.heap.get? I=some (itO (.int (ft t i:Nat) 0) i S es.size ep))(hS:s.heap.get? S=some o)(hd:o.data=.set es ep t)(hf:t.fits es.size=true)(hh:212){Q:Option Value->Shared->Prop}
  (h1:∀ e,es[i]?=some e->∀ h',h'.get? I=some (itO (.int (ft t (i+1):Nat) 0) (i+1) S es.size ep)->Heap.SameBut I s.heap h'->Q (some e.2) { s with heap:=h' })
  (h2:es[i]?=none->∀ h',(∀ b o,b≠I->s.heap.get? b=some o->h'.get? b=some o)->Q none { s with heap:=h' }):wpAny 139 A (pyNext (.ref I)) Q E s:=by
 have hz:t.place.size=es.size:=by
  simp only [SetTable.fits,Y0l,beq_iff_eq] at hf;exact hf.1
 refine BY hI ?_;show wpAny _ _ (fieldsOf (.ref I) >>= _) _ _ s;refine wpAny_bind (wpAny_fieldsOf hI rfl ?_);show wpAny _ _ (setEntries S >>= _) _ _ s;refine wpAny_bind (wpAny_setEntries_of hS hd hf ?_);rw [if_neg 130];dsimp only;unfold setNext;refine wpAny_bind (wpAny_bind (wpAny_setState_of hS hd hf ?_));refine wpAny_bind (VF ?_);rw [hb,if_neg 130];dsimp only;rw [if_neg (by show ¬ ((!t.plain&&decide (es.size > 1))=true);rw [decide_eq_false 128];simp)];refine wpAny_bind (wpAny_of_eq (by show (if (!t.led&&!es.isEmpty)=true then _ else pure ())=_;rw [hled];rfl) ?_);simp only [Y2w];have eb:SetTable.below t.place (ft t i)=i:=by
  by_cases c:es.size=0
  ·rw [z4d 128];omega
  ·match i,hi with
   | 0,_=>exact z4e 128
   | 1,_=>exact z4f 128
   | i+2,hi=>omega
 rw [eb];by_cases c:i<es.size
 ·have e1:=getElem?_pos es i c;have i0:i=0:=by omega
  have e2:t.place[i]?=some (t.place.getD 0 0):=by
   rw [getElem?_pos t.place i 128];unfold Array.getD;rw [dif_pos 128];subst i0;rfl
  rw [e1,e2];refine wpAny_pure ?_;dsimp only;refine wpAny_bind (wpAny_setField_rec hI 130 λ h' q1 q2=>?_);refine wpAny_bind (wpAny_setField_rec q1 130 λ h'' q3 q4=>?_);refine wpAny_pure ⟨_,rfl,h1 _ e1 h'' ?_ (q2.trans q4)⟩;rw [q3];subst i0;rfl
 ·have e1:es[i]?=none:=by simp;omega
  rw [e1];refine wpAny_pure ?_;dsimp only;refine wpAny_bind (wpAny_setField_rec hI 130 λ h' q1 q2=>?_);exact UC (f:=.none) (i:=0) (n:=0) hh λ h'' k=>h2 e1 h'' λ b o hb e=>k b o (by rw [q2.2 b hb];exact e)
end
end ST
namespace ST
set_option autoImplicit false
set_option linter.unusedVariables false
open PySem PyProof.Rows
theorem yw {w:World}{es:190}{ss:XQ}(h:Ent w es)(hp:(keys es).Perm ss){l:List (Int×Value)}(hl:l.Perm es.toList) :
  ∃ ss',StrsAre (l.map (·.2)) ss'/\ss'.Perm ss:=by
 refine ⟨(l.map (·.2)).map strOf,strsAre_map _ λ v hv=>?_,?_⟩
 ·obtain ⟨e,he,rfl⟩:=Y0e.mp hv;obtain ⟨x,t,rfl⟩:=h e (hl.mem_iff.mp he);exact ⟨x,t,rfl⟩
 ·rw [Y0m];exact (hl.map _).trans hp
theorem UD (es:190):(List.range es.size).map (λ p=>es.getD p (0,.none))=es.toList:=by
 refine List.ext_getElem 130 λ i h1 h2=>?_;have h3:i<es.size:=by simpa using h1
 simp [Array.getD,h3]
section
variable {prog:204}{w:World}{A:296}{E:XU}{s:153}
variable {I S:Addr}{o:Obj}{es:190}{ep:Nat}{t:SetTable}{ss:XQ}
def Vw (vs:XV)(i:Nat)(v:Value):Prop:=vs[i]?=some v
theorem WZ {f:Value}{i n:Nat}(ho:s.heap.get? I=some (itO f i S n ep)){Q:XU}(hQ:Q (.ref I) s):wpAny 139 A (pyIter (.ref I)) Q E s:=by
 have hT:s.TypeIs (.ref I) "set_iterator":=⟨_,ho,rfl⟩;have sl:Slot "set_iterator" "__iter__" "set_iterator.__iter__":=.of (owner:="set_iterator") (n:="__iter__") (by rw [typeLookup_type,builtinLookup_eq_fast];kernel_rfl) 207 207 207 (by first | exact .inl 207 | exact .inr 207) (by rw [isSubtype_type];kernel_rfl);have en:entryFor table "set_iterator.__iter__"=some Builtin.«dict_keyiterator.__iter__»:=entryFor_alias (id':="dict_keyiterator.__iter__") (by rw [fastTable_eq_tree];kernel_rfl) (by kernel_rfl) 207 (by rw [fastTable_eq_tree];kernel_rfl);refine wpAny_pyIter_slot hT sl (wpAny_call_entry sl hT en ?_ (by unfold argsOk;kernel_rfl));exact wpAny_pure ⟨_,rfl,"set_iterator",_,hT,slot_si_next.lookup,hQ⟩
theorem zdr (hb:byT w=true)(hne:S≠I)(hd:o.data=.set es ep t)(hf:t.fits es.size=true)(hh:212) :
  Walks prog w A I [I,S] [I] ((pickOrder (w.params.setOrder S ep) es).toList.map (·.2)).length (Vw ((pickOrder (w.params.setOrder S ep) es).toList.map (·.2)))
   (λ i h=>h.get? I=some (itO (.int 0 0) i S es.size ep)/\h.get? S=some o) where
 sub:=λ b hb=>by simp at hb;simp [hb]
 frame:=λ _ _ _ st hk=>⟨hk I 130 _ st.1,hk S 130 _ st.2⟩
 item:=λ i s Q E hi st hQ=>by
  refine zbc hb st.1 st.2 hd hf hh (λ e he h' q1 q2=>hQ _ h' s.toks ?_ ⟨q1,(q2.2 S hne).trans st.2⟩ λ b o hb e=>?_) λ he=>absurd he ?_
  ·unfold Vw;rw [Y0r,Y1x,he];rfl
  ·exact (q2.2 b (by simpa using hb)).trans e
  ·simp at hi ⊢;exact hi
 done:=λ s Q E st hQ=>by
  refine zbc hb st.1 st.2 hd hf hh (λ e he=>absurd he ?_) λ _ h' k=>hQ h' s.toks λ b o hb e=>k b o (by simpa using hb) e;simp
 self:=λ _ _ _ _ st hQ=>WZ st.1 hQ
theorem zds {T:Addr}{pl:List Nat}(hne:S≠I)(hne':T≠I)(hd:o.data=.set es ep t)(hf:t.fits es.size=true)(hp:∀ p∈pl,p<es.size)(hh:212) :
  Walks prog w A I [I,S,T] [I] ((pl.map (λ p=>es.getD p (0,.none))).map (·.2)).length (Vw ((pl.map (λ p=>es.getD p (0,.none))).map (·.2)))
   (λ i h=>h.get? I=some (itO (.ref T) i S es.size ep)/\h.get? S=some o/\h.get? T=some 239) where
 sub:=λ b hb=>by simp at hb;simp [hb]
 frame:=λ _ _ _ st hk=>⟨hk I 130 _ st.1,hk S 130 _ st.2.1,hk T 130 _ st.2.2⟩
 item:=λ i s Q E hi st hQ=>by
  refine zbd st.2.2 st.1 st.2.1 hd hf hh (λ p e he ee h' q1 q2=>hQ _ h' s.toks ?_ ⟨q1,(q2.2 S hne).trans st.2.1,(q2.2 T hne').trans st.2.2⟩ λ b o hb e=>?_) hp λ he=>absurd he ?_
  ·unfold Vw;rw [Y0r,Y0r,he]
   have:=hp p (Y0z he)
   rw [getElem?_pos es p this] at ee;cases ee;simp [Array.getD,this]
  ·exact (q2.2 b (by simpa using hb)).trans e
  ·simp at hi ⊢;exact hi
 done:=λ s Q E st hQ=>by
  refine zbd st.2.2 st.1 st.2.1 hd hf hh (λ p e he=>absurd he ?_) hp λ _ h' k=>hQ h' s.toks λ b o hb e=>k b o (by simpa using hb) e;simp
 self:=λ _ _ _ _ st hQ=>WZ st.1 hQ
theorem zdt (hb:byT w=false)(h1:es.size<=1)(hled:t.led=true)(hne:S≠I)(hd:o.data=.set es ep t)(hf:t.fits es.size=true)(hh:212) :
  Walks prog w A I [I,S] [I] (es.toList.map (·.2)).length (Vw (es.toList.map (·.2)))
   (λ i h=>h.get? I=some (itO (.int (ft t i:Nat) 0) i S es.size ep)/\h.get? S=some o) where
 sub:=λ b hb=>by simp at hb;simp [hb]
 frame:=λ _ _ _ st hk=>⟨hk I 130 _ st.1,hk S 130 _ st.2⟩
 item:=λ i s Q E hi st hQ=>by
  have hi':i<es.size:=by simpa using hi
  refine zbe hb 128 h1 hled st.1 st.2 hd hf hh (λ e he h' q1 q2=>hQ _ h' s.toks ?_ ⟨q1,(q2.2 S hne).trans st.2⟩ λ b o hb e=>?_) λ he=>absurd he ?_
  ·unfold Vw;rw [Y0r,Y1x,he];rfl
  ·exact (q2.2 b (by simpa using hb)).trans e
  ·simp;exact hi'
 done:=λ s Q E st hQ=>by
  have e:(es.toList.map (·.2)).length=es.size:=by simp
  rw [e] at st;refine zbe hb 175 h1 hled st.1 st.2 hd hf hh (λ e he=>absurd he ?_) λ _ h' k=>hQ h' s.toks λ b o hb e=>k b o (by simpa using hb) e;simp
 self:=λ _ _ _ _ st hQ=>WZ st.1 hQ
theorem z8g (hS:s.heap.get? S=some o)(hT:TS w o ss (!byT w)){Q:XU}
  (h:∀ (h':Heap) d (I:Addr) (fp:XZ) (vs:XV) (St:Nat->Heap->Prop),(∀ A':Around,A'.handled=none->Walks prog w A' I fp [I] vs.length (Vw vs) St)->St 0 h'->(∀ b∈fp,b=S\/s.heap.objs.size<=b)->s.heap.objs.size<=I ->
   (∃ ss',StrsAre vs ss'/\ss'.Perm ss)->(∀ b o,s.heap.get? b=some o->h'.get? b=some o)->Q (.ref I) { s with heap:=h',drawn:=d }) :
  wpAny 139 A (pyIter (.ref S)) Q E s:=by
 obtain ⟨es,ep,t,hT⟩:=hT;have hd:o.data=.set es ep t:=by rw [hT.obj]
 have hTy:s.TypeIs (.ref S) "set":=⟨o,hS,by rw [hT.obj]⟩;have hlt:=Y0g hS;refine wpAny_pyIter_slot hTy F.slot_set_iter (wpAny_call_entry F.slot_set_iter hTy WY ?_ (F.args_set_iter_1 _));show wpAny _ _ (Builtin.Frozenset.sizeOf S >>= _) _ _ s;unfold Builtin.Frozenset.sizeOf;refine wpAny_bind (wpAny_bind (wpAny_setEntries_of hS hd hT.fits (wpAny_pure ?_)));show wpAny _ _ (setDrawn S >>= _) _ _ s;unfold setDrawn;refine wpAny_bind (wpAny_bind (wpAny_setState_of hS hd hT.fits ?_));refine wpAny_bind (VF (wpAny_pure ?_));have hk:∀ (o':Obj) b o,s.heap.get? b=some o->(s.heap.push o').get? b=some o:=λ o' b o e=>Y03 _ e;cases hb:byT w
 ·by_cases c:es.size<=1
  ·rw [if_neg (by show ¬ ((!false&&(!t.plain&&decide (es.size > 1)))=true);rw [decide_eq_false 128];simp)];refine wpAny_bind (wpAny_pure (wpAny_bind (wpAny_setEpoch_of hS hd hT.fits ?_)));refine wpAny_bind (wpAny_newObj_type ?_);refine wpAny_pure ⟨_,rfl,"set_iterator",_,⟨_,Y0c _ rfl,rfl⟩,slot_si_next.lookup,?_⟩;refine h _ s.drawn _ _ _ _ (λ A' hh=>zdt (I:=s.heap.objs.size) hb c (hT.led.trans (by rw [hb];rfl)) (Y0k hlt) hd hT.fits hh) ⟨Y0c _ rfl,hk _ _ _ hS⟩ (λ b hb=>?_) 175 (yw hT.ent hT.perm (List.Perm.refl _)) (hk _);simp only [Y08,Y0t,or_false] at hb;rcases hb with rfl | rfl
   ·exact .inr 175
   ·exact .inl rfl
  ·have hp:t.plain=false:=by
    cases e:t.plain with
    | false=>rfl
    | true=>have:=hT.plain e;omega
   rw [if_pos (by show (!false&&(!t.plain&&decide (es.size > 1)))=true;rw [hp,decide_eq_true 128];rfl)];refine wpAny_bind (BX es.size (List.range es.size) 130 λ pl d hpl=>?_);refine wpAny_bind (wpAny_newTuple ?_ (hsz:=by rw [Y07,hpl.length_eq,Y2v];exact fits_of_scanBound hT.small));dsimp only;refine wpAny_bind (wpAny_setEpoch_of (hk _ _ _ hS) hd hT.fits ?_);refine wpAny_bind (wpAny_newObj_type ?_);refine wpAny_pure ⟨_,rfl,"set_iterator",_,⟨_,Y0c _ rfl,rfl⟩,slot_si_next.lookup,?_⟩;have hpl':∀ p∈pl,p<es.size:=λ p hp=>by have:=hpl.mem_iff.mp hp;simpa using this
   have zz:(s.heap.push 239).objs.size=s.heap.objs.size+1:=Y1e ..
   refine h _ d _ _ _ _ (λ A' hh=>zds (pl:=pl) (T:=s.heap.objs.size) (I:=(s.heap.push 239).objs.size) (by rw [zz];exact Y0k (Y2u hlt)) (by rw [zz];exact Y0k (Y1p _)) hd hT.fits hpl' hh) ⟨Y0c _ rfl,Y03 _ (hk _ _ _ hS),Y03 _ (Y0c _ rfl)⟩ (λ b hb=>?_) (by rw [zz];omega) (yw hT.ent hT.perm ?_) (λ b o e=>Y03 _ (hk _ _ _ e))
   ·simp only [Y08,Y0t,or_false] at hb;rcases hb with rfl | rfl | rfl
    ·exact .inr (by rw [zz];omega)
    ·exact .inl rfl
    ·exact .inr 175
   ·rw [<- UD];exact hpl.map _
 ·rw [if_neg 130];refine wpAny_bind (wpAny_pure (wpAny_bind (wpAny_setEpoch_of hS hd hT.fits ?_)));refine wpAny_bind (wpAny_newObj_type ?_);refine wpAny_pure ⟨_,rfl,"set_iterator",_,⟨_,Y0c _ rfl,rfl⟩,slot_si_next.lookup,?_⟩;refine h _ s.drawn _ _ _ _ (λ A' hh=>zdr (I:=s.heap.objs.size) hb (Y0k hlt) hd hT.fits hh) ⟨Y0c _ rfl,hk _ _ _ hS⟩ (λ b hb=>?_) 175 (yw hT.ent hT.perm (ZG _ _)) (hk _);simp only [Y08,Y0t,or_false] at hb;rcases hb with rfl | rfl
  ·exact .inr 175
  ·exact .inl rfl
end
end ST
namespace ST
set_option autoImplicit false
set_option linter.unusedVariables false
open PySem PyProof.Rows
theorem zbf:typeLookup (.type "set") "__len__"=pure (some (.builtin "set.__len__")):=F.slot_set_len.lookup
section
variable {prog:204}{w:World}{A:296}{E:XU}{s:153}
variable {S:Addr}{o:Obj}{ss:XQ}
theorem Om (hh:212)(hS:s.heap.get? S=some o)(hT:TS w o ss (!byT w)){Q:List Value->Shared->Prop}
  (hQ:∀ h' d tk vs ss',StrsAre vs ss'->ss'.Perm ss->s.heap.objs.size<h'.objs.size->(∀ b o,s.heap.get? b=some o->h'.get? b=some o)->Q vs { s with heap:=h',drawn:=d,toks:=tk }) :
  wpAny 139 A (collect (.ref S)) Q E s:=by
 have hsm:ss.length<scanBound:=by
  obtain ⟨es,ep,t,hT⟩:=hT;rw [<- hT.perm.length_eq]
  have:=hT.small
  simpa [keys] using this
 have hc:o.cls=.type "set":=by
  obtain ⟨es,ep,t,hT⟩:=hT;rw [hT.obj]
 have hlt:=Y0g hS;unfold collect;refine wpAny_bind (wpAny_runValue (codeAny_builtin F.entry_proto_collect ?_));rw [Around.under_plainId F.plain_proto_collect _];show wpAny _ A.in1 (newList [] >>= λ l=>again (.builtin "list.__iadd__" ⟨[l,.ref S],[]⟩)) _ _ s;refine wpAny_bind (wpAny_newObj_type ?_);refine wpAny_pure ⟨plainId_quiet F.plain_list_iadd _,codeAny_builtin F.entry_list_iadd ?_⟩;rw [Around.under_plainId F.plain_list_iadd _];show wpAny _ A.in1 (Builtin.List.listExtendWith 178 (.ref S) 178) _ _ _;unfold Builtin.List.listExtendWith;have hS1:(s.heap.push { cls:=.type "list",data:=.seq ([]:List Value).toArray }).get? S=some o:=Y03 _ hS;have hTy:Shared.TypeIs { s with heap:=s.heap.push { cls:=.type "list",data:=.seq ([]:List Value).toArray } } (.ref S) "set":=⟨o,hS1,hc⟩;refine wpAny_bind (wpAny_typeOf hTy ?_);have h1:Builtin.List.listSameRef 178 (.ref S)=false:=by
  show (s.heap.objs.size==S)=false;exact beq_false_of_ne (Y20 hlt)
 rw [if_neg (by rw [h1];decide)];refine wpAny_bind (z8g hS1 hT λ h' d I fp vs St W st hfp hI hv ext=>?_);obtain ⟨ss',hv,hperm⟩:=hv;have hTy':Shared.TypeIs { s with heap:=h',drawn:=d } (.ref S) "set":=⟨o,ext _ _ hS1,hc⟩;refine wpAny_bind (wpAny_holding ?_);unfold Builtin.List.listLengthHint;refine wpAny_bind (wpAny_specialOf hTy' zbf ?_)
 wp_delta
 refine wpAny_bind (wpAny_isInstance (b:=true) hTy' (by rw [isSubtype_type];kernel_rfl) ?_);show wpAny _ A.in1 (typeOf (Value.ref S) >>= _) _ _ _;refine wpAny_bind (wpAny_typeOf hTy' ?_);refine wpAny_pure ?_;have hz:(s.heap.push { cls:=.type "list",data:=.seq ([]:List Value).toArray }).objs.size=s.heap.objs.size+1:=Y1e ..
 have hLf:s.heap.objs.size∉fp:=λ hm=>by
  rcases hfp _ hm with e | e
  ·exact absurd e (Y20 hlt)
  ·have e':s.heap.objs.size+1<=s.heap.objs.size:=hz▸e;exact absurd e' (Nat.not_succ_le_self _)
 have hL:h'.get? s.heap.objs.size=some { cls:=.type "list",data:=.seq ([]:List Value).toArray }:=ext _ _ (Y0c _ rfl);have hlen:vs.length=ss'.length:=by rw [<- hv.strs,Y07]
 rw [if_pos 127];refine wpAny_bind (wpAny_rule (wpAny_bind ?_));show wpAny _ A.in1 (updateSeq s.heap.objs.size (·.push .none) >>= λ _=>updateSeq s.heap.objs.size (·.pop)) _ _ _;refine wpAny_bind (wpAny_updateSeq hL rfl ?_);have hL2:=Y1w (Obj.mapSeq (·.push Value.none)) hL rfl;refine wpAny_updateSeq hL2 rfl ?_;have hL3:=Y1w (Obj.mapSeq (·.pop)) hL2 rfl;have oth:∀ b o,b≠s.heap.objs.size->h'.get? b=some o->((h'.update s.heap.objs.size (Obj.mapSeq (·.push Value.none))).update s.heap.objs.size (Obj.mapSeq (·.pop))).get? b=some o :=
  λ b o hb e=>(Y1s _ _ (Ne.symm hb)).trans ((Y1s _ _ (Ne.symm hb)).trans e)
 refine wpAny_pure ⟨plainId_quiet F.plain_extend_loop _,codeAny_extend_loopS (W A.in1 hh).toS (by rw [hlen,hperm.length_eq];exact fits_of_scanBound hsm) _ hLf _ vs.length 0 _ _ _ rfl (Y19 _)
  ((W A.in1 hh).frame 0 _ _ st λ b hb o e=>oth b o (λ h=>hLf (h▸hb)) e) hL3 (ItemsOf.nil _) λ s' acc' c' hm hS' hacc=>?_⟩
 show wpAny _ A (load s.heap.objs.size >>= _) _ _ s';refine wpAny_bind (wpAny_load hS' ?_);have ea:acc'.toList=vs:=by
  refine List.ext_getElem? λ i=>?_;by_cases c:i<vs.length
  ·have hi:i<acc'.size:=by rw [hacc.1];exact c
   have:=hacc.2 i _ (getElem?_pos acc' i hi)
   rw [Y1x,getElem?_pos acc' i hi];exact this.symm
  ·rw [Y1o (by rw [Y1m,hacc.1];omega),Y1o 128]
 show wpAny _ _ (pure acc'.toList) _ _ _;rw [ea];obtain ⟨h2,g2,d2,tk2,os2⟩:=s';obtain rfl:g2=s.gens:=hm.gens;obtain rfl:d2=d:=hm.drawn;obtain rfl:os2=s.os:=hm.os;refine wpAny_pure (hQ h2 d2 tk2 vs ss' hv hperm (Y0g hS') λ b o e=>hm.heap b o ?_ (oth b o (Y0k (Y0g e)) (ext _ _ (Y03 _ e))));have hb:=Y0g e;simp only [Y08,Y0t,or_false,not_or];refine ⟨Y0k hb,λ e=>?_⟩;rw [e] at hb;rw [hz] at hI;exact absurd (Y0w hb (Y3y hI)) (Y1b _)
theorem z8h {a:Addr}{vs:XV}{n:Nat}{P:Fin->Shared->Prop} (ho:s.heap.get? a=some (seqObj "list" vs.toArray n)) (hS:StrsAre vs ss) (hb:vs.length<64)
  (h:∀ out ss',StrsAre out.toList ss'->ss'.Perm ss->sortedS ss'=true->P (.done (.ret .none)) { s with heap:=sortedHeap s.heap a vs out }):wpAny 139 A (Builtin.«list.sort» ⟨[.ref a],[]⟩) P E s :=
 list_sort_treeK strKind_oneLt ho hS.keysOf (λ v₁ v₂ rest e=>keyKind_strs (by rw [<- e];exact hS)) hb λ st' hp hs=>by
  obtain ⟨ss',h1,h2,h3⟩:=sorted_out_str hS hp hs;exact h _ ss' h1 h2 h3
theorem w_sorted (hh:212)(hS:s.heap.get? S=some o)(hT:TS w o ss (!byT w))(h64:ss.length<64){Q:XU}
  (h:∀ h' d tk a out ss' n,h'.get? a=some (seqObj "list" out n)->StrsAre out.toList ss'->ss'.Perm ss->sortedS ss'=true->s.heap.objs.size<=a->(∀ b o,s.heap.get? b=some o->h'.get? b=some o)->Q 202 { s with heap:=h',drawn:=d,toks:=tk }) :
  wpAny 139 A (call (.builtin "sorted") [.ref S]) Q E s:=by
 have hsm:ss.length<scanBound:=by
  obtain ⟨es,ep,t,hT⟩:=hT;rw [<- hT.perm.length_eq]
  have:=hT.small
  simpa [keys] using this
 refine Calls.call_function_entry kind_sorted plain_sorted entry_sorted (args_sorted1 _) ?_;unfold Builtin.«sorted»;refine wpAny_bind (m:=checkCount "sorted" 1 1 _) (wpAny_pure ?_);refine wpAny_bind (Om (by simpa using hh) hS hT λ h1 d tk vs ss1 v1 v2 hle k=>?_);have hlen:vs.length=ss.length:=by rw [<- v2.length_eq,<- v1.strs,Y07]
 refine wpAny_bind (wpAny_newList ?_ (hsz:=by rw [hlen];exact fits_of_scanBound hsm));have hoL:(h1.push (seqObj "list" vs.toArray 0)).get? h1.objs.size=some (seqObj "list" vs.toArray 0):=Y0c _ rfl;refine wpAny_bind (wpAny_holding (wpAny_call_entry slot_list_sort ⟨_,hoL,rfl⟩ entry_list_sort (z8h hoL v1 (by rw [hlen];exact h64) λ out ss' a1 a2 a3=>⟨_,rfl,?_⟩) (args_list_sort _)));obtain ⟨n,hn⟩:=sortedHeap_at (h:=h1.push (seqObj "list" vs.toArray 0)) (out:=out) hoL;refine wpAny_pure ⟨_,rfl,h _ d tk _ out ss' n hn a1 (a2.trans v2) a3 (Y21 hle) λ b o e=>?_⟩;have hb:=Y0g (k _ _ e);rw [sortedHeap_old (Y0k hb) (by rw [size_push'];exact Y2u hb)];exact Y03 _ (k _ _ e)
end
end ST
namespace L2
open PySem PySem.Spec PyProof.Rows
theorem BZ (l:XQ)(x:Str):∀ σ:List Str,x∈l.foldl (λ σ x=>if x∈σ then σ else σ++[x]) σ ↔ x∈σ\/x∈l:=by
 induction l with
 | nil=>intro σ;simp
 | cons y l ih =>
  intro σ;rw [Y1g,ih];by_cases c:y∈σ
  ·rw [if_pos c];constructor
   ·rintro (h | h)
    ·exact .inl h
    ·exact .inr (Y02 _ h)
   ·rintro (h | h)
    ·exact .inl h
    ·rcases Y08.mp h with rfl | h
     ·exact .inl c
     ·exact .inr h
  ·rw [if_neg c];simp only [Y0j,Y08,Y0t,or_false,Y0d];exact or_assoc
def Up (ss:XQ):Prop:=ss.Pairwise λ a b=>a.cps.toList<b.cps.toList
theorem W7:∀ (r:XQ) (p:Str),risingS p r=true->(p::r).Nodup->Up (p::r)
 | [],p,_,_=>List.pairwise_singleton _ _
 | x::r,p,h,hn=>by
  obtain ⟨h1,h2⟩:_/\risingS x r=true:=by
   have h:(_&&_)=true:=h;simpa using h
  obtain ⟨n1,n2⟩:=Y12.mp hn;have u:=W7 r x h2 n2;have lt:p.cps.toList<x.cps.toList:=by
   rcases Classical.em (p.cps.toList<x.cps.toList) with q | q
   ·exact q
   ·have h1:¬ x.cps.toList<p.cps.toList:=by rw [ltCps_eq] at h1;exact of_decide_eq_false h1
    refine absurd (List.le_antisymm (List.not_lt.mp h1) (List.not_lt.mp q)) λ e=>n1 ?_;obtain ⟨⟨a⟩⟩:=p;obtain ⟨⟨b⟩⟩:=x;simp only at e;rw [e];exact Y04
  refine Y1u.mpr ⟨λ z hz=>?_,u⟩;rcases Y08.mp hz with rfl | hz
  ·exact lt
  ·exact List.lt_trans lt ((Y1u.mp u).1 z hz)
theorem On (h:sortedS ss=true)(hn:ss.Nodup):Up ss:=by
 cases ss with
 | nil=>exact List.Pairwise.nil
 | cons p r=>exact W7 r p h hn
theorem z6g [DecidableEq α]:∀ (a b:List α),a.Nodup->(∀ x∈a,x∈b)->a.length<=b.length
 | [],b,_,_=>Y19 _
 | x::a,b,nn,sub=>by
  obtain ⟨n1,n2⟩:=Y12.mp nn;have hb:=sub x Y04;have h:=z6g a (b.erase x) n2 λ y hy=>(List.mem_erase_of_ne (λ z:y=x=>n1 (by rw [<- z];exact hy))).mpr (sub y (Y02 _ hy));rw [List.length_erase_of_mem hb] at h
  have:=Y3k hb
  rw [Y09];omega
theorem Vals.strs:∀ {ss:XQ}{us:XV},Vals (ss.map V.str) us->StrsAre us ss
 | [],_,h=>by cases h;exact .nil
 | x::ss,_,h=>by
  cases h with
  | cons r t =>
   obtain ⟨tk,rfl⟩:=r;exact .cons x tk (Vals.strs t)
theorem W8:∀ {us:XV}{ss:XQ},StrsAre us ss->Vals (ss.map V.str) us
 | _,_,.nil=>.nil
 | _,_,.cons x t h=>.cons ⟨t,rfl⟩ (W8 h)
section
variable {X:Cx}
theorem Inv.drw (I:131)(d):Inv X pins σ H { s with drawn:=d }:=⟨I.ok,I.os,I.bare,I.base,I.loc,I.cell,I.free,I.freeC,I.pin,I.hok,I.len⟩
def rSS (K:Y01):List V->Hp->VK->Prop:=λ xs H Q=>∃ (p:Addr) (ss:XQ),xs=[.ref p]/\SqL K H p (ss.map V.str)/\ss.length+1<scanBound/\(∃ us:List Str,us.length<64/\∀ x∈ss,x∈us)/\∀ (l:Addr) (ss':XQ),H l=none->Up ss'->(∀ x,x∈ss' ↔ x∈ss)->Q (.ref l) (upd H l (.lst (ss'.map V.str)))
theorem z4g (hc:216) (hg:Gl X "set") (hm:X.mg "set"=none) (hg2:Gl X "sorted") (hm2:X.mg "sorted"=none) (ha:PA X [a] ta) (hs:starEach [a] X.env=[(false,eval a X.env)]) :
  PE X (.Call (.Name "sorted" p) [.Call (.Name "set" p') [a] [] pos'] [] pos) (λ σ H Q=>ta σ H λ vs H1=>rSS X.K vs H1 Q):=by
 intro pins s σ H Q I h;refine wpAny_Call_Name_kw (yo I hg2 hm2 boot_sorted ?_ 127 127);refine Y3z ?_ rfl rfl;show wpAny _ _ (spliced ((false,eval (.Call (.Name "set" p') [a] [] pos') X.env)::[])) _ _ s;refine Calls.spliced_cons (Call_ (yo I hg hm boot_set (Y33 (thn (ha pos' pins s σ H _ I h) λ us s1 ⟨vs,H1,I1,r1,q1⟩=>?_) hs rfl) 127 127));obtain ⟨b,ss,e,hq,hsz,⟨us,hu1,hu2⟩,q⟩:=q1;subst e;cases r1 with
 | cons r rr =>
  cases rr;cases r;obtain ⟨its,rv,pl,hz⟩:=I1.list hq;have hS:=rv.strs;have hl:=rv.length;rw [Y07] at hl;refine ST.w_set (I1.ok.hd hc) pl.isList (by simpa using hS) (by simp only [Y0f];omega) λ h1 tk o ho hT kp=>?_;refine wpAny_pure ?_;have hnd:(ST.dd ss).Nodup:=by
   obtain ⟨es,ep,t,hT⟩:=hT;exact hT.nodup
  have h64:=Y26 (z6g _ us hnd λ x hx=>hu2 x (by
   have:=BZ ss x []
   unfold ST.dd at hx;simpa using this.mp hx)) hu1
  refine ST.w_sorted (I1.ok.hd hc) ho hT h64 λ h2 d tk2 a out ss' n ha hv hpm has hle kp2=>?_;have sz:=Y0y (Y21 (Y0g ho)) hle;have hm':∀ x,x∈ss' ↔ x∈ss:=λ x=>by
   rw [hpm.mem_iff]
   have:=BZ ss x []
   simpa [ST.dd] using this
  have hln:ss'.length=out.size:=by rw [<- hv.strs,Y07];simp
  have hle':(ss'.map V.str).length<=sizeLine:=by
   rw [Y07,hpm.length_eq];exact fits_of_scanBound (Y26 (ST.dd_len ss) 128)
  refine ⟨.ref _,_,(I1.drw d).laid (λ b' o e=>kp2 b' o (kp b' o e)) sz (show ObjOk X.prog X.w _ h2 _ (.lst (ss'.map V.str)) from ⟨hle',out.toList,n,W8 hv,?_⟩),rfl,q _ ss' (I1.hok.fresh sz) (On has (hpm.nodup_iff.mpr hnd)) hm'⟩;simpa using ha
end
end L2
namespace PySem
open Sem (wp)
section
variable {prog:204}{w:World}{A:296}{E:XU}{s:153}
variable {K:Type}[DecidableEq K]{knd:KeyKind prog w K}
theorem Op:typeLookup (.type "dict") "__len__"=pure (some (.builtin "dict.__len__")):=by rw [typeLookup_type,builtinLookup_eq_fast];kernel_rfl
theorem qV (hh:212) (hd:(d==sysModules)=false) (hm:s.heap.DictAt knd d kvs ep) (S:Addr) (hSd:S≠d) (res:Value) (c₀:Nat) (hS:s.heap.get? S=some { cls:=.type "list",data:=.seq #[] c₀ })
  (hR:∀ h' tk acc' c',(∀ b o,b≠S->s.heap.get? b=some o->h'.get? b=some o)->h'.get? S=some { cls:=.type "list",dict:=none,data:=.seq acc' c',slots:=#[] } ->
   ItemsOf (λ i v=>∃ k x,kvs[i]?=some (k,x)/\knd.is k v=true) acc' kvs.length->R (.ok (.ret res)) { s with heap:=h',toks:=tk }) (hn:kvs.length<=sizeLine) :
  wpAny 139 A.in1 (Builtin.List.listExtendWith (.ref S) (.ref d) res)
   (λ fin s'=>match fin with | .done f=>R (.ok f) s' | .again c'=>c'.quiet=true/\codeAny 139 A c' R s') (λ e s'=>R (.error e) s') s:=by
 have hSI:=Y0k (Y0g hS);have hT:=hm.dictOf.typeIs;obtain ⟨od,es,hod,hdr⟩:=id hm;have hdI:=Y0k (Y0g hod);have hSf:S∉[s.heap.objs.size,d]:=λ hm=>by
  rcases Y08.mp hm with e | hm
  ·exact hSI e
  ·exact hSd (Y0d.mp hm)
 unfold Builtin.List.listExtendWith;refine wpAny_bind (wpAny_typeOf hT ?_);have h1:Builtin.List.listSameRef (.ref S) (.ref d)=false:=by
  show (S==d)=false;exact beq_false_of_ne hSd
 have h2:(Value.type "dict"==Value.type "list")=false:=by decide
 have h3:(Value.type "dict"==Value.type "tuple")=false:=by decide
 simp only [h1,h2,h3,Y1d,Y2r,if_false];refine wpAny_bind (wpAny_pyIter_dict hd hm ?_);refine wpAny_bind (wpAny_holding ?_);unfold Builtin.List.listLengthHint;have hT1:Shared.TypeIs { s with heap:=s.heap.push { cls:=.type "dict_keyiterator",data:=.fields #[.ref d,.int 0 0,.int kvs.length 0,.int ep 0] } } (.ref d) "dict":=⟨_,Y03 _ hod,by obtain ⟨o',ho',hc'⟩:=hT;rw [hod] at ho';cases ho';exact hc'⟩;refine wpAny_bind (wpAny_specialOf hT1 Op ?_)
 wp_delta
 refine wpAny_bind (wpAny_isInstance (b:=true) hT1 (by rw [isSubtype_type];kernel_rfl) ?_);show wpAny _ _ (typeOf (Value.ref d) >>= _) _ _ _;refine wpAny_bind (wpAny_typeOf hT1 ?_);refine wpAny_pure ?_;rw [if_pos 127];refine wpAny_bind (wpAny_rule ?_);unfold Builtin.List.listTouch;have g1:=Y03 ({ cls:=.type "dict_keyiterator",data:=.fields #[.ref d,.int 0 0,.int kvs.length 0,.int ep 0] }:Obj) hS;have g2:=Y1w (Obj.mapSeq (λ xs=>xs.push .none)) g1 rfl;have g3:=Y1w (Obj.mapSeq (λ xs=>xs.pop)) g2 rfl;refine wpAny_bind (wpAny_bind ?_);refine wpAny_updateSeq g1 rfl ?_;refine wpAny_updateSeq g2 rfl ?_;generalize hH:((s.heap.push { cls:=.type "dict_keyiterator",data:=.fields #[.ref d,.int 0 0,.int kvs.length 0,.int ep 0] }).update S (Obj.mapSeq (λ xs=>xs.push .none))).update S (Obj.mapSeq (λ xs=>xs.pop))=H2 at g3;have oth:∀ b o,b≠S->(s.heap.push { cls:=.type "dict_keyiterator",data:=.fields #[.ref d,.int 0 0,.int kvs.length 0,.int ep 0] }).get? b=some o->H2.get? b=some o:=λ b o hb e=>by
  rw [<- hH];exact (Y1s _ _ (Ne.symm hb)).trans ((Y1s _ _ (Ne.symm hb)).trans e)
 have W:=(Walks.dictKeys (knd:=knd) (A:=A.in1) hh s.heap.objs.size d hdI kvs ep);have st:H2.IsKeyIter s.heap.objs.size d 0 kvs.length ep/\H2.DictAt knd d kvs ep:=⟨⟨_,oth _ _ (Ne.symm hSI) (Y0c _ rfl),rfl,rfl⟩,hm.at' λ o e=>oth d o (Ne.symm hSd) (Y03 _ e)⟩;refine wpAny_pure ⟨plainId_quiet F.plain_extend_loop _,codeAny_extend_loopS W.toS hn _ hSf _ kvs.length 0 _ _ _ rfl (Y19 _) st g3 (ItemsOf.nil _) λ s' acc' c' hm' hS' hacc=>?_⟩;rw [Moved.eq_with hm'];refine hR s'.heap s'.toks acc' c' (λ b ob hb e=>hm'.heap b ob (λ hmem=>?_) (oth b ob hb (Y03 _ e))) hS' hacc;rcases Y08.mp hmem with e' | hmem
 ·exact hb e'
 ·exact absurd (Y0g e) (by rw [Y0d.mp hmem];exact Y1b _)
theorem wY (hh:212) (hd:(d==sysModules)=false) (hm:s.heap.DictAt knd d kvs ep) (S:Addr) (hSd:S≠d) (hS:s.heap.get? S=some { cls:=.type "list",data:=.seq #[] })
  (hR:∀ h' tk acc' c',(∀ b o,b≠S->s.heap.get? b=some o->h'.get? b=some o)->h'.get? S=some { cls:=.type "list",dict:=none,data:=.seq acc' c',slots:=#[] } ->
   ItemsOf (λ i v=>∃ k x,kvs[i]?=some (k,x)/\knd.is k v=true) acc' kvs.length->R (.ok (.ret .none)) { s with heap:=h',toks:=tk }) (hn:kvs.length<=sizeLine) :
  wpAny 139 A.in1 (Builtin.«list.__init__» ⟨[.ref S,.ref d],[]⟩)
   (λ fin s'=>match fin with | .done f=>R (.ok f) s' | .again c'=>c'.quiet=true/\codeAny 139 A c' R s') (λ e s'=>R (.error e) s') s:=by
 show wpAny _ _ (do let old <- Builtin.List.listItems (.ref S);Builtin.List.listUpdate (.ref S) (λ _=>#[]);letGo old.toList.reverse;Builtin.List.listExtendWith (.ref S) (.ref d) .none) _ _ s;refine wpAny_bind ?_;unfold Builtin.List.listItems;refine wpAny_bind (wpAny_seqItems hS rfl (wpAny_pure ?_));show wpAny _ _ (updateSeq S (λ _=>#[]) >>= λ _=>letGo (#[]:Array Value).toList.reverse >>= λ _=>Builtin.List.listExtendWith (.ref S) (.ref d) .none) _ _ s;refine wpAny_bind (wpAny_updateSeq hS rfl ?_);have hS₂:=Y1w (Obj.mapSeq (λ _=>(#[]:Array Value))) hS rfl;have oth:∀ b o,b≠S->s.heap.get? b=some o->(s.heap.update S (Obj.mapSeq (λ _=>(#[]:Array Value)))).get? b=some o :=
  λ b o hb e=>(Y1s _ _ (Ne.symm hb)).trans e
 refine wpAny_bind (wpAny_letGo ?_);refine qV (hn:=hn) hh hd (hm.at' λ o e=>oth d o (Ne.symm hSd) e) S hSd .none _ hS₂ λ h' tk acc' c' hk hS' hacc=>?_;exact hR h' tk acc' c' (λ b o hb e=>hk b o hb (oth b o hb e)) hS' hacc
theorem ZH (hh:212)(hd:(d==sysModules)=false)(hm:s.heap.DictAt knd d kvs ep)
  (hQ:∀ h' tk acc' c',(∀ b o,s.heap.get? b=some o->h'.get? b=some o) ->
   h'.get? s.heap.objs.size=some { cls:=.type "list",dict:=none,data:=.seq acc' c',slots:=#[] }->ItemsOf (λ i v=>∃ k x,kvs[i]?=some (k,x)/\knd.is k v=true) acc' kvs.length->Q 178 { s with heap:=h',toks:=tk }) (hn:kvs.length<=sizeLine) :
  wpAny 139 A (call (.type "list") [.ref d]) Q E s:=by
 refine callType_codes (Q₁:=λ obj s₁=>obj=.ref s.heap.objs.size/\s₁={ s with heap:=s.heap.push { cls:=.type "list",data:=.seq #[] } }) F.called_list (F.typeCall_list_1 _) F.entry_list_init
  (code_list_new _ 210) λ obj s₁ h₁=>?_
 obtain ⟨rfl,rfl⟩:=h₁;have hS:(s.heap.push { cls:=.type "list",data:=.seq #[] }).get? s.heap.objs.size=some { cls:=.type "list",data:=.seq #[] }:=Y0c _ rfl;have hdl:s.heap.objs.size≠d:=by
  obtain ⟨od,es,hod,_⟩:=id hm;exact Ne.symm (Y0k (Y0g hod))
 refine ⟨⟨_,hS,rfl⟩,F.args_list_init_2 _ _,wY (A:=A.in1) (hn:=hn) hh hd (hm.at' λ o e=>Y03 _ e) _ hdl hS λ h' tk acc' c' hk hS' hacc=>?_⟩;exact ⟨rfl,hQ h' tk acc' c' (λ b o e=>hk b o (Y0k (Y0g e)) (Y03 _ e)) hS' hacc⟩
end
end PySem
namespace L2
open PySem PySem.Spec PyProof.Rows
variable {X:Cx}
theorem ZI:∀ {kvs:173}{vs:List (Key×Value)}{us:XV},KV kvs vs->us.length=vs.length->(∀ (j:Nat) (v:Value),us[j]?=some v->∃ k x,vs[j]?=some (k,x)/\(zB P w).is k v=true)->Vals (kvs.map λ kv=>kV kv.1) us
 | [],_,us,r,e,h=>by
  unfold KV at r;cases r;cases us with
  | nil=>exact .nil
  | cons _ _=>cases e
 | (k,x)::kvs,_,us,r,e,h=>by
  unfold KV at r;cases r with
  | @cons _ b _ l2 q r =>
   obtain ⟨k2,x2⟩:=b;obtain ⟨q1,q2⟩:=q;have q1:=q1;subst q1;cases us with
   | nil=>cases e
   | cons u us =>
    obtain ⟨k3,x3,e3,hk⟩:=h 0 u rfl;have e3:=e3;cases e3;refine .cons (BS hk) (ZI (P:=P) (w:=w) r 291 λ j v ej=>?_);exact h (j+1) v ej
theorem ZJ (hc:216):jh X (.type "list") (λ xs H Q=>∃ (p:Addr) (kvs:173),xs=[.ref p]/\Rd H p 177/\∀ (l:Addr),H l=none->Q (.ref l) (upd H l (.lst (kvs.map λ kv=>kV kv.1)))):=by
 intro pins s σ H xs us Q I r h;obtain ⟨p,kvs,rfl,hq,q⟩:=h;obtain ⟨u,rfl,ru⟩:=qS r;cases ru;obtain ⟨hz,hd,vs,rel,o,es,ep,dr⟩:=Zv I.hok hq;have len:=j2 (show Paired _ kvs vs from rel);refine ZH (I.ok.hd hc) hd ⟨o,es,dr⟩ (λ h' tk acc' c' hk hS' hacc=>?_) 128;refine ⟨.ref _,_,I.laid hk 175 (show ObjOk X.prog X.w _ h' _ (.lst (kvs.map λ kv=>kV kv.1)) from ⟨by rw [Y07];exact hz,acc'.toList,c',ZI rel (by rw [Y1m,hacc.1]) (λ j v e=>hacc.2 j v 291),?_⟩),rfl,q _ 276⟩;simpa using hS'
end L2
namespace PI
open PySem L2
inductive D where
 | non | bl (b:Bool) | int (i:Int) | str (x:Str) | tup (xs:181) | loc (n:Nat) | fl (xs:181)
inductive O where
 | lst (xs:181) | dK (kvs:157) | fK (kvs:157) | dT (kvs:List (List Key×D)) | obj (x:Str) (fs:List (Str×D))
abbrev Hh:=List O
abbrev En:=List (Option D)
inductive Res (α:Type) where
 | ok (a:α) (h:Hh) | exc (c:Nat) (h:Hh) | no
noncomputable def Res.bind {α β:Type}(r:Res α)(f:α->Hh->Res β):Res β:=match r with
 | .ok a h=>f a h
 | .exc c h=>.exc c h
 | .no=>.no
@[simp] theorem bind_ok {α β:Type}{a:α}{h:Hh}{f:α->Hh->Res β}:(Res.ok a h).bind f=f a h:=rfl
@[simp] theorem bind_exc {α β:Type}{c:Nat}{h:Hh}{f:α->Hh->Res β}:(Res.exc c h:Res α).bind f=.exc c h:=rfl
@[simp] theorem bind_no {α β:Type}{f:α->Hh->Res β}:(Res.no:Res α).bind f=.no:=rfl
inductive RS where
 | nx (ρ:En) (h:Hh) | rt (d:D) (h:Hh) | bk (ρ:En) (h:Hh) | ct (ρ:En) (h:Hh) | ex (c:Nat) (ρ:En) (h:Hh) | no
inductive Tg where
 | one (i:Nat) (p:Pos) | tup (is:List (Nat×Pos)) (p:Pos)
inductive M0 where
 | pop
inductive M1 where
 | append | extend
inductive F1 where
 | int | all | any | sum | lks
noncomputable def F1.name:F1->Str
 | .int=>"int" | .all=>"all" | .any=>"any" | .sum=>"sum" | .lks=>"list"
inductive Cv where
 | tup (xs:XQ) | int (i:Int) | fn (i:Nat) (x:Str) | oth
 deriving DecidableEq
inductive Cn where
 | int (i:Int) | str (x:Str) | tup (xs:XQ) | dic (kvs:List (Str×Cv)) | exc (c:Nat) (ups:List Nat) | cls (i:Nat) | isc (x:Str) (ys:XQ) | dfl
 deriving DecidableEq
set_option genInjectivity false
set_option genSizeOf false
mutual
inductive E where
 | non (p:Pos) | bl (b:Bool) (p:Pos) | int (i:Int) (p:Pos) | str (x:Str) (p:Pos)
 | var (i:Nat) (p:Pos)
 | bin (op:Operator) (a b:E) (p:Pos)
 | un (op:UnaryOp) (a:E) (p:Pos)
 | cmp (op:CmpOp) (a b:E) (p:Pos)
 | and (a b:E) (r:Es) (p:Pos)
 | or (a b:E) (r:Es) (p:Pos)
 | ite (c a b:E) (p:Pos)
 | call (f:Nat) (a:E) (r:Es) (p0 p:Pos)
 | len (a:E) (p0 p:Pos)
 | isi (T:Nat) (a:E) (p0 p1 p:Pos)
 | sub (a i:E) (p:Pos)
 | tup (es:Es) (p:Pos)
 | ofL (l:L)
 | tupL (l:L) (p0 p:Pos)
 | tupE (e:E) (p0 p:Pos)
 | listE (e:E) (p0 p:Pos)
 | dicP (e:E) (p0 p:Pos)
 | cut (a:E) (lo hi:Eo) (p2 p:Pos)
 | cutS (a:E) (lo hi:Eo) (st:E) (p2 p:Pos)
 | dic (p:Pos)
 | m0 (m:M0) (o:E) (p1 p:Pos)
 | m1 (m:M1) (o a:E) (p1 p:Pos)
 | max2 (a b:E) (p0 p:Pos)
 | c1 (f:F1) (a:E) (p0 p:Pos)
 | sset (e:E) (p0 p1 p2 p:Pos)
 | cmpN (neg:Bool) (a:E) (p1 p:Pos)
 | neK (neg:Bool) (a b:E) (p:Pos)
 | gsub (x:Str) (kvs:List (Str×Cv)) (i:E) (p0 p:Pos)
 | fld (a:E) (f:Str) (p:Pos)
 | mk (i:Nat) (x:Str) (a:E) (r:Es) (p0 p:Pos)
inductive Es where
 | nil | cons (e:E) (r:Es)
inductive Eo where
 | none | some (e:E)
inductive L where
 | disp (es:Es) (p:Pos)
 | comp (elt:E) (t:Tg) (it:I) (c:Es) (NC:XQ) (cap:249) (sc:Scope) (p:Pos)
inductive I where
 | seq (e:E) | lst (l:L) | rng (a:E) (p0 p:Pos)
 | keys (e:E)
 | items (e:E) (p1 p:Pos)
end
structure Rp where
 c:Str
 d:Str
 pa:Pos
 pc:Pos
 pd:Pos
 p:Pos
noncomputable def Rp.py (e:Expr)(r:Rp):Expr:=.Call (.Attribute e "replace" r.pa) [.Constant (.str r.c) 0 r.pc,.Constant (.str r.d) 0 r.pd] [] r.p
inductive Fp where
 | c (x:Str) (p:Pos)
 | r (i:Nat) (p0 p:Pos)
 | v (i:Nat) (p0 p:Pos)
noncomputable def Fp.py (N:XQ):Fp->Expr
 | .c x p=>.Constant 172 0 p
 | .r i p0 p=>.FormattedValue (.Name (N.getD i "") p0) 114 none p
 | .v i p0 p=>.FormattedValue (.Name (N.getD i "") p0) (-1) none p
inductive Ms where
 | s (x:Str) (p:Pos)
 | f (a b:Fp) (r:List Fp) (p:Pos)
noncomputable def Ms.py (N:XQ):Ms->Expr
 | .s x p=>.Constant 172 0 p
 | .f a b r p=>.JoinedStr (a.py N::b.py N::r.map (Fp.py N)) p
structure Xt where
 neg:Bool
 x:Str
 d:Option Nat
 pe:Pos
 p0:Pos
 p1:Pos
 p:Pos
 pn:Pos
noncomputable def Xt.call (e:Str)(t:Xt):Expr:=.Call (.Name "isinstance" t.p0) [.Name e t.pe,.Name t.x t.p1] [] t.p
noncomputable def Xt.py (e:Str)(t:Xt):Expr:=match t.neg with
 | true=>.UnaryOp .Not (t.call e) t.pn
 | false=>t.call e
noncomputable def Xt.is (u:List Nat)(t:Xt):Bool:=match t.d with
 | some d=>u.contains d
 | none=>true
noncomputable def Xt.val (u:List Nat)(t:Xt):Bool:=match t.neg with
 | true=>!(t.is u)
 | false=>t.is u
inductive Xv where
 | and (a b:Xt) (r:List Xt) (p:Pos) | lst (ts:List Xt) (p:Pos) | one (t:Xt)
noncomputable def Xv.py (e:Str):Xv->Expr
 | .and a b r p=>.BoolOp .And (a.py e::b.py e::r.map (Xt.py e)) p
 | .lst ts p=>.List (ts.map (Xt.py e)) p
 | .one t=>t.py e
mutual
inductive S where
 | set (i:Nat) (e:E) (p1 p:Pos)
 | ret (e:E) (p:Pos)
 | iff (c:E) (a b:Ss) (p:Pos)
 | ex (e:E) (p:Pos)
 | put (o i v:E) (p1 p:Pos)
 | putT (o:E) (es:Es) (v:E) (p2 p1 p:Pos)
 | forr (t:Tg) (it:I) (b:Ss) (p:Pos)
 | whil (c:E) (b:Ss) (p:Pos)
 | setF (o:E) (f:Str) (v:E) (p1 p:Pos)
 | setT (is:List (Nat×Pos)) (e:E) (p1 p:Pos)
inductive Ss where
 | nil | cons (s:S) (r:Ss)
end
set_option genInjectivity true
set_option genSizeOf true
structure Nm where
 N:List Str
 F:List Str
 G:List (Str×Cn):=[]
noncomputable def qF:Nat->Str
 | 0=>"int" | 1=>"bool" | 2=>"str" | 3=>"tuple" | 4=>"list" | _=>"dict"
noncomputable def VG:Nat->String
 | 0=>"int" | 1=>"bool" | 2=>"str" | 3=>"tuple" | 4=>"list" | _=>"dict"
noncomputable def Tg.py (N:XQ):Tg->Expr
 | .one i p=>.Name (N.getD i "") p
 | .tup is p=>.Tuple (is.map λ q=>.Name (N.getD q.1 "") q.2) 0 p
mutual
noncomputable def E.py (n:Nm):E->Expr
 | .non p=>.Constant .none 0 p
 | .bl b p=>.Constant (.bool b) 0 p
 | .int i p=>.Constant 209 0 p
 | .str x p=>.Constant 172 0 p
 | .var i p=>.Name (n.N.getD i "") p
 | .bin op a b p=>.BinOp (a.py n) op (b.py n) p
 | .un op a p=>.UnaryOp op (a.py n) p
 | .cmp op a b p=>.Compare (a.py n) [op] [b.py n] p
 | .and a b r p=>.BoolOp .And (a.py n::b.py n::r.py n) p
 | .or a b r p=>.BoolOp .Or (a.py n::b.py n::r.py n) p
 | .ite c a b p=>.IfExp (c.py n) (a.py n) (b.py n) p
 | .call f a r p0 p=>.Call (.Name (n.F.getD f "") p0) (a.py n::r.py n) [] p
 | .len a p0 p=>.Call (.Name "len" p0) [a.py n] [] p
 | .isi T a p0 p1 p=>.Call (.Name "isinstance" p0) [a.py n,.Name (qF T) p1] [] p
 | .sub a i p=>.Subscript (a.py n) (i.py n) p
 | .tup es p=>.Tuple (es.py n) 0 p
 | .ofL l=>l.py n
 | .tupL l p0 p=>.Call (.Name "tuple" p0) [l.py n] [] p
 | .tupE e p0 p=>.Call (.Name "tuple" p0) [e.py n] [] p
 | .listE e p0 p=>.Call (.Name "list" p0) [e.py n] [] p
 | .dicP e p0 p=>.Call (.Name "dict" p0) [e.py n] [] p
 | .cut a lo hi p2 p=>.Subscript (a.py n) (.Slice (lo.py n) (hi.py n) .none p2) p
 | .cutS a lo hi st p2 p=>.Subscript (a.py n) (.Slice (lo.py n) (hi.py n) (some (st.py n)) p2) p
 | .dic p=>.Dict [] [] p
 | .m0 m o p1 p=>.Call (.Attribute (o.py n) (match m with | .pop=>"pop") p1) [] [] p
 | .m1 m o a p1 p=>.Call (.Attribute (o.py n) (match m with | .append=>"append" | .extend=>"extend") p1) [a.py n] [] p
 | .max2 a b p0 p=>.Call (.Name "max" p0) [a.py n,b.py n] [] p
 | .c1 f a p0 p=>.Call (.Name f.name p0) [a.py n] [] p
 | .cmpN neg a p1 p=>.Compare (a.py n) [if neg then .NotEq else .Eq] [.List [] p1] p
 | .neK neg a b p=>.Compare (a.py n) [if neg then .NotEq else .Eq] [b.py n] p
 | .sset e p0 p1 p2 p=>.Call (.Name "sorted" p0) [.Call (.Name "set" p1) [e.py n] [] p2] [] p
 | .gsub x _ i p0 p=>.Subscript (.Name x p0) (i.py n) p
 | .fld a f p=>.Attribute (a.py n) f p
 | .mk _ x a r p0 p=>.Call (.Name x p0) (a.py n::r.py n) [] p
noncomputable def Eo.py (n:Nm):Eo->Option Expr
 | .none=>.none
 | .some e=>.some (e.py n)
noncomputable def L.py (n:Nm):L->Expr
 | .disp es p=>.List (es.py n) p
 | .comp elt t it c NC cap sc p=>.ListComp (elt.py 267) [⟨t.py NC,it.py n,c.py 267,0⟩] sc p
noncomputable def I.py (n:Nm):I->Expr
 | .seq e=>e.py n
 | .lst l=>l.py n
 | .rng a p0 p=>.Call (.Name "range" p0) [a.py n] [] p
 | .keys e=>e.py n
 | .items e p1 p=>.Call (.Attribute (e.py n) "items" p1) [] [] p
noncomputable def Es.py (n:Nm):Es->List Expr
 | .nil=>[]
 | .cons e r=>e.py n::r.py n
end
mutual
noncomputable def S.py (n:Nm):S->Stmt
 | .set i e p1 p=>.Assign [.Name (n.N.getD i "") p1] (e.py n) p
 | .ret e p=>.Return (some (e.py n)) p
 | .iff c a b p=>.If (c.py n) (a.py n) (b.py n) p
 | .ex e p=>.Expr (e.py n) p
 | .put o i v p1 p=>.Assign [.Subscript (o.py n) (i.py n) p1] (v.py n) p
 | .putT o es v p2 p1 p=>.Assign [.Subscript (o.py n) ((E.tup es p2).py n) p1] (v.py n) p
 | .forr t it b p=>.For (t.py n.N) (it.py n) (b.py n) [] p
 | .whil c b p=>.While (c.py n) (b.py n) [] p
 | .setF o f v p1 p=>.Assign [.Attribute (o.py n) f p1] (v.py n) p
 | .setT is e p1 p=>.Assign [(Tg.tup is p1).py n.N] (e.py n) p
noncomputable def Ss.py (n:Nm):Ss->List Stmt
 | .nil=>[]
 | .cons s r=>s.py n::r.py n
end
mutual
noncomputable def D.pd (h:Hh):D->Option PyData
 | .non=>some .none
 | .bl b=>some (.bool b)
 | .int i=>some 209
 | .str x=>some 172
 | .tup xs=>(D.pds h xs).map .tuple
 | .loc _=>none
 | .fl xs=>(D.pds h xs).map .list
noncomputable def D.pds (h:Hh):List D->Option (List PyData)
 | []=>some []
 | x::r=>match D.pd h x,D.pds h r with
  | some a,some b=>some (a::b)
  | _,_=>none
end
noncomputable def jG:D->Option Key
 | .int i=>some (.inl i)
 | .str x=>some (.inr x)
 | .non=>some .nn
 | _=>none
noncomputable def qW:List D->Option (List Key)
 | []=>some []
 | d::r=>match jG d,qW r with
  | some k,some ks=>some (k::ks)
  | _,_=>none
noncomputable def yV:D->Option (List Key)
 | .tup ds=>qW ds
 | _=>none
noncomputable def zK {κ:Type}[DecidableEq κ](kvs:List (κ×D))(k:κ):Option D:=(kvs.find? λ kv=>decide (kv.1=k)).map (·.2)
noncomputable def rd (h:Hh)(n:Nat):Option (List D):=match h[n]? with
 | some (.lst xs)=>some xs
 | _=>none
mutual
noncomputable def D.pe (h:Hh):D->Option PyData
 | .loc n=>(rd h n).bind λ xs=>(D.pds h xs).map .list
 | .tup xs=>(D.pes h xs).map .tuple
 | d=>D.pd h d
noncomputable def D.pes (h:Hh):List D->Option (List PyData)
 | []=>some []
 | x::r=>match D.pe h x,D.pes h r with
  | some a,some b=>some (a::b)
  | _,_=>none
end
noncomputable def pdT (h:Hh):D->Option PyData
 | .loc n=>(rd h n).bind λ xs=>(D.pds h xs).map .list
 | d=>D.pe h d
noncomputable def qX (h:Hh)(kb:157):List (Key×D)->Option Bool
 | []=>some true
 | q::r=>match zK kb q.1 with
  | none=>some false
  | some u=>match D.pe h q.2,D.pe h u,qX h kb r with
   | some p,some t,some b=>if SeqAt.shaped p&&SeqAt.shaped t then some (p.eqv t&&b) else none
   | _,_,_=>none
noncomputable def yx (h:Hh)(n:Nat):Option (List (Key×D)):=match h[n]? with
 | some (.dK kvs)=>some kvs
 | some (.fK kvs)=>some kvs
 | _=>none
noncomputable def VH (kb:List (List Key×D))(ka:List (List Key×D)):Bool:=ka.all λ q=>match zK kb q.1,q.2 with
 | some (.int i),.int j=>i==j
 | _,_=>false
noncomputable def z00 (neg:Bool)(n m:Nat)(h:Hh):Res D:=match h[n]? with
 | some (.dT ka)=>(match h[m]? with
  | some (.dT kb)=>if neg=false/\ka.length=kb.length/\VH kb ka=true then .ok 214 h else .no
  | _=>.no)
 | _=>.no
noncomputable def Z8 (neg:Bool)(a b:D)(h:Hh):Res D:=match a,b with
 | .loc n,.loc m=>match yx h n,yx h m with
  | some ka,some kb=>if ka.length=kb.length then (match qX h kb ka with | some r=>.ok (.bl (if neg then !r else r)) h | none=>.no) else .ok (.bl neg) h
  | _,_=>z00 neg n m h
 | _,_=>.no
noncomputable def isI (h:Hh):D->Nat->Option Bool
 | .non,_=>some false
 | .bl _,T=>some (T==0||T==1)
 | .int _,T=>some (T==0)
 | .str _,T=>some (T==2)
 | .tup _,T=>some (T==3)
 | .loc n,T=>match rd h n with
  | some _=>some (T==4)
  | none=>(match h[n]? with
   | some (.dK _)=>some (T==5)
   | some (.fK _)=>some (T==5)
   | some (.dT _)=>some (T==5)
   | _=>none)
 | .fl _,T=>some (T==4)
noncomputable def fits (i:Int):Bool:=decide (Builtin.Int.intBits i<=2 ^ 20)
noncomputable def Yl (i:Int):Bool:=decide (Builtin.Int.intBits i<=2 ^ 21)
theorem Q0 {i:Int}(h:fits i=true):Yl i=true:=decide_eq_true (Y0y (of_decide_eq_true h) 127)
noncomputable def eqR (neg:Bool)(u v:Option PyData)(h:Hh):Res D:=match u,v with
 | some u,some v=>if u.canLay0=true/\v.canLay0=true/\u.depth<=60 then .ok (.bl (if neg then !PyData.eqv u v else PyData.eqv u v)) h else .no
 | _,_=>.no
noncomputable def i2 (a b:D)(f:Int->Int->Res D):Res D:=match a,b with
 | .int i,.int j=>f i j
 | _,_=>.no
noncomputable def JB (a b:D)(h:Hh):Res D:=match a,b with
 | .int i,.int j=>.ok (.int (i+j)) h
 | .str x,.str y=>if x.length+y.length<=1000000 then .ok (.str (x++y)) h else .no
 | .loc n,.loc m=>match h[n]?,h[m]? with
  | some (.lst xs),some (.lst ys)=>if xs.length+ys.length<=1000000 then .ok 136 (h++[.lst (xs++ys)]) else .no
  | _,_=>.no
 | .tup xs,.tup ys=>if xs.length+ys.length<=1000000 then .ok (.tup (xs++ys)) h else .no
 | _,_=>.no
noncomputable def z4h (a b:D)(h:Hh):Res D:=match b with
 | .int j=>match a with
  | .int i=>if Yl i=true/\Yl j=true then .ok (.int (i*j)) h else .no
  | .str x=>if 0<=j/\j<=1000/\x.length<=1000 then .ok (.str (Txt.mul x j)) h else .no
  | .loc n=>match h[n]? with
   | some (.lst xs)=>if 0<=j/\j<=1000/\xs.length<=1000 then .ok 136 (h++[.lst (List.replicate j.toNat xs).flatten]) else .no
   | _=>.no
  | _=>.no
 | _=>.no
noncomputable def jE (op:Operator)(a b:D)(h:Hh):Res D:=match op with
 | .Add=>JB a b h
 | .Mult=>z4h a b h
 | .Sub=>i2 a b λ i j=>.ok (.int (i-j)) h
 | .FloorDiv=>i2 a b λ i j=>if 0<j/\j<1267650600228229401496703205376 then .ok (.int (i/j)) h else .no
 | .Mod=>i2 a b λ i j=>if 0<j then .ok (.int (i%j)) h else .no
 | .LShift=>i2 a b λ i j=>if fits i=true/\0<=j/\j<=1000000 then .ok (.int (i*2 ^ j.toNat)) h else .no
 | .RShift=>i2 a b λ i j=>if 0<=j then .ok (.int (i/2 ^ j.toNat)) h else .no
 | .BitAnd=>i2 a b λ i j=>.ok (.int (Builtin.bitAnd i j)) h
 | .BitOr=>i2 a b λ i j=>.ok (.int (Builtin.bitOr i j)) h
 | _=>.no
noncomputable def vOf:D->V
 | .bl b=>.bl b
 | .int i=>.int i
 | .str x=>.str x
 | _=>.non
noncomputable def W9:D->Bool
 | .non | .bl _ | .int _ | .str _=>true
 | _=>false
noncomputable def ngB (neg b:Bool):Bool:=if neg then !b else b
@[simp] theorem ngB_f {b:Bool}:ngB false b=b:=rfl
@[simp] theorem ngB_t {b:Bool}:ngB true b=!b:=rfl
noncomputable def isN:D->Bool
 | .non=>true
 | _=>false
noncomputable def z6h:D->Bool
 | .tup _=>true
 | d=>W9 d
noncomputable def UE (neg:Bool)(x:D)(ds:181)(h:Hh):Res D:=if W9 x=true/\ds.all W9=true then .ok (.bl (ngB neg (ds.any λ y=>eqV (vOf y) (vOf x)))) h else if neg=false/\isN x=true/\ds.all z6h=true then .ok (.bl (ds.any isN)) h else .no
noncomputable def inD (neg:Bool)(x y:D)(h:Hh):Res D:=match y with
 | .tup ds=>UE neg x ds h
 | .fl ds=>UE neg x ds h
 | .loc n=>match h[n]? with
  | some (.lst ds)=>UE neg x ds h
  | some (.dK kvs)=>(match jG x with | some k=>.ok (.bl (ngB neg (zK kvs k).isSome)) h | none=>(match kvs with | []=>(match yV x with | some _=>.ok (.bl (ngB neg false)) h | none=>.no) | _=>.no))
  | some (.fK kvs)=>(match jG x with | some k=>.ok (.bl (ngB neg (zK kvs k).isSome)) h | none=>.no)
  | some (.dT kvs)=>(match yV x with | some k=>.ok (.bl (ngB neg (zK kvs k).isSome)) h | none=>.no)
  | _=>.no
 | _=>.no
noncomputable def isV (neg:Bool)(a b:D)(h:Hh):Res D:=match b with
 | .non=>.ok (.bl (ngB neg (isN a))) h
 | .bl y=>match a with
  | .bl x=>.ok (.bl (ngB neg (x==y))) h
  | _=>.no
 | _=>.no
noncomputable def jv (op:CmpOp)(a b:D)(h:Hh):Res D:=match op with
 | .Lt=>i2 a b λ i j=>.ok (.bl (decide (i<j))) h
 | .Gt=>i2 a b λ i j=>.ok (.bl (decide (j<i))) h
 | .GtE=>i2 a b λ i j=>.ok (.bl (decide (j<=i))) h
 | .Eq=>eqR false (pdT h a) (pdT h b) h
 | .NotEq=>eqR true (pdT h a) (pdT h b) h
 | .In=>inD false a b h
 | .NotIn=>inD true a b h
 | .LtE=>.no
 | .Is=>isV false a b h
 | .IsNot=>isV true a b h
noncomputable def unD (op:UnaryOp)(a:D)(h:Hh):Res D:=match op,a with
 | .Not,.bl b=>.ok (.bl (!b)) h
 | .Invert,.int i=>.ok (.int (Builtin.bitNot i)) h
 | .USub,.int i=>.ok (.int (-i)) h
 | _,_=>.no
noncomputable def Ym (a:D)(h:Hh):Res D:=match a with
 | .tup xs=>.ok (.int xs.length) h
 | .loc n=>match rd h n with | some xs=>.ok (.int xs.length) h | none=>.no
 | .str x=>if x.length<=1000000 then .ok (.int x.length) h else .no
 | .fl xs=>.ok (.int xs.length) h
 | _=>.no
noncomputable def jc (a i:D)(h:Hh):Res D:=match a,i with
 | .tup xs,.int k=>match atI xs k with | some d=>.ok d h | none=>.no
 | .fl xs,.int k=>match atI xs k with | some d=>.ok d h | none=>.no
 | .str x,.int k=>if x.length<=1000000 then (match atI x.cps.toList k with | some c=>.ok (.str ⟨#[c]⟩) h | none=>.no) else .no
 | .loc n,y=>match h[n]? with
  | some (.dK kvs)=>match (jG y).bind (λ k=>zK kvs k) with | some d=>.ok d h | none=>.no
  | some (.fK kvs)=>match (jG y).bind (λ k=>zK kvs k) with | some d=>.ok d h | none=>.no
  | some (.dT kvs)=>match (yV y).bind (λ k=>zK kvs k) with | some d=>.ok d h | none=>.no
  | some (.lst xs)=>match y with
   | .int k=>match atI xs k with | some d=>.ok d h | none=>.no
   | _=>.no
  | _=>.no
 | _,_=>.no
noncomputable def new (o:O)(h:Hh):Res D:=.ok 136 (h++[o])
noncomputable def qY {κ:Type}[DecidableEq κ](kvs:List (κ×D))(k:κ)(v:D):List (κ×D):=if (kvs.any λ kv=>decide (kv.1=k))=true then kvs.map (λ kv=>if kv.1=k then (kv.1,v) else kv) else kvs++[(k,v)]
noncomputable def onL (x:D)(h:Hh)(r:Res D):Res D:=match x with
 | .loc n=>match h[n]? with
  | some (.lst _)=>r
  | _=>.no
 | _=>.no
noncomputable def m0D (m:M0)(o:D)(h:Hh):Res D:=match o with
 | .loc n=>match h[n]? with
  | some (.lst xs)=>match m with
   | .pop=>match xs.getLast? with | some x=>.ok x (h.set n (.lst xs.dropLast)) | none=>.no
  | _=>.no
 | _=>.no
noncomputable def m1D (m:M1)(o a:D)(h:Hh):Res D:=match o with
 | .loc n=>match h[n]? with
  | some (.lst xs)=>match m with
   | .append=>if xs.length<1000000 then .ok .non (h.set n (.lst (xs++[a]))) else .no
   | .extend=>match a with
    | .loc m=>match h[m]? with
     | some (.lst ys)=>if xs.length+ys.length<=1000000 then .ok .non (h.set n (.lst (xs++ys))) else .no
     | _=>.no
    | .tup ys=>if xs.length+ys.length<=1000000 then .ok .non (h.set n (.lst (xs++ys))) else .no
    | _=>.no
  | _=>.no
 | _=>.no
noncomputable def ZM (o i v:D)(h:Hh):Option Hh:=match o with
 | .loc n=>match h[n]? with
  | some (.dK kvs)=>(jG i).bind λ k=>if kvs.length<1000000 then some (h.set n (.dK (qY kvs k v))) else none
  | _=>none
 | _=>none
noncomputable def putT (o:D)(ds:181)(v:D)(h:Hh):Option Hh:=match o with
 | .loc n=>match h[n]? with
  | some (.dT kvs)=>(qW ds).bind λ k=>if kvs.length<1000000 then some (h.set n (.dT (qY kvs k v))) else none
  | some (.dK [])=>(qW ds).map λ k=>h.set n (.dT [(k,v)])
  | _=>none
 | _=>none
noncomputable def jU (xs:181)(lo hi:281):List D:=(xs.drop (HT.sIx xs.length 0 lo)).take 257
noncomputable def yz (a:D)(lo hi:281)(h:Hh):Res D:=match a with
 | .loc n=>match rd h n with
  | some xs=>new (.lst (jU xs lo hi)) h
  | none=>.no
 | .fl xs=>new (.lst (jU xs lo hi)) h
 | .tup xs=>if HT.sIx xs.length 0 lo=0/\HT.sIx xs.length xs.length hi=xs.length then .ok 241 h else .ok (.tup (jU xs lo hi)) h
 | _=>.no
noncomputable def zbg (d:D)(h:Hh):Res (Option Int):=match d with | .int i=>.ok (some i) h | _=>.no
noncomputable def qx (d:D)(h:Hh):Option (List D):=match d with
 | .tup xs=>some xs
 | .fl xs=>some xs
 | .loc n=>rd h n
 | _=>none
abbrev Ck:=List (Nat×List D)
noncomputable def stay (c:Ck)(h:Hh):Prop:=∀ p∈c,rd h p.1=some p.2
noncomputable def jm (t:Tg)(d:D)(ρ:En):Option En:=match t with
 | .one i _=>some (ρ.set i (some d))
 | .tup is _=>match d with
  | .tup xs=>if xs.length=is.length then some ((is.zip xs).foldl (λ ρ q=>ρ.set q.1.1 (some q.2)) ρ) else none
  | _=>none
noncomputable def jz (cap:249)(ρ:En):En:=cap.map λ o=>o.bind λ i=>(ρ[i]?).bind id
noncomputable def j1 (t:Tg)(ρ:En)(c:En->Hh->Res Bool)(e:En->Hh->Res D)(x:D)(h:Hh):Res (Option D):=match jm t x ρ with
 | some ρ'=>(c ρ' h).bind λ b h1=>if b then (e ρ' h1).bind λ d h2=>.ok (some d) h2 else .ok none h1
 | none=>.no
noncomputable def zH (t:Tg)(b:En->Hh->RS)(x:D)(ρ:En)(h:Hh):RS:=match jm t x ρ with
 | some ρ'=>b ρ' h
 | none=>.no
noncomputable def z01 (acc:181):Option D->List D
 | some d=>acc++[d]
 | none=>acc
@[simp] theorem addO_some {acc:181}{d:D}:z01 acc (some d)=acc++[d]:=rfl
@[simp] theorem addO_none {acc:181}:z01 acc none=acc:=rfl
open Classical in
noncomputable def jV (c:Ck)(f:D->Hh->Res (Option D)):List D->List D->Hh->Res (List D)
 | [],acc,h=>if stay c h then .ok acc h else .no
 | x::r,acc,h=>if stay c h then (f x h).bind λ o h'=>jV c f r (z01 acc o) h' else .no
open Classical in
noncomputable def zu (c:Ck)(f:D->En->Hh->RS):List D->En->Hh->RS
 | [],ρ,h=>if stay c h then .nx ρ h else .no
 | x::r,ρ,h=>if stay c h then (match f x ρ h with
   | .nx ρ' h'=>zu c f r ρ' h'
   | .ct ρ' h'=>zu c f r ρ' h'
   | .bk ρ' h'=>.nx ρ' h'
   | o=>o) else .no
noncomputable def whL (c:En->Hh->Res Bool)(b:En->Hh->RS):Nat->En->Hh->RS
 | 0,_,_=>.no
 | n+1,ρ,h=>match c ρ h with
  | .ok true h1=>(match b ρ h1 with
   | .nx ρ' h'=>whL c b n ρ' h'
   | .ct ρ' h'=>whL c b n ρ' h'
   | .bk ρ' h'=>.nx ρ' h'
   | o=>o)
  | .ok false h1=>.nx ρ h1
  | .exc k h1=>.ex k ρ h1
  | .no=>.no
theorem ZN {c:En->Hh->Res Bool}{b:En->Hh->RS}:∀ (n:Nat) (ρ:En) (h:Hh),whL c b n ρ h≠.no->whL c b (n+1) ρ h=whL c b n ρ h
 | 0,ρ,h,z=>absurd rfl z
 | n+1,ρ,h,z=>by
  rw [whL] at z ⊢;rw [whL];cases ec:c ρ h with
  | ok t h1 =>
   cases t with
   | true =>
    rw [ec] at z;simp only at z ⊢;cases eb:b ρ h1 with
    | nx ρ' h'=>rw [eb] at z;exact ZN n ρ' h' z
    | ct ρ' h'=>rw [eb] at z;exact ZN n ρ' h' z
    | _=>rfl
   | false=>rfl
  | _=>rfl
theorem z02 {c:En->Hh->Res Bool}{b:En->Hh->RS}{n m:Nat}{ρ:En}{h:Hh}(hl:n<=m)(z:whL c b n ρ h≠.no):whL c b m ρ h=whL c b n ρ h:=by
 induction hl with
 | refl=>rfl
 | step _ ih=>rw [ZN _ _ _ (by rw [ih];exact z),ih]
open Classical in
noncomputable def whR (c:En->Hh->Res Bool)(b:En->Hh->RS)(ρ:En)(h:Hh):RS:=if e:∃ n,whL c b n ρ h≠.no then whL c b (Classical.choose e) ρ h else .no
theorem UF {c:En->Hh->Res Bool}{b:En->Hh->RS}{n:Nat}{ρ:En}{h:Hh}{r:RS}(e:whL c b n ρ h=r)(z:r≠.no):whR c b ρ h=r:=by
 have ex:∃ n,whL c b n ρ h≠.no:=⟨n,by rw [e];exact z⟩;unfold whR;rw [dif_pos ex];have z2:=Classical.choose_spec ex;rw [<- z02 (Nat.le_max_left (Classical.choose ex) n) z2,z02 (Nat.le_max_right (Classical.choose ex) n) (by rw [e];exact z),e]
theorem Q1 {c:En->Hh->Res Bool}{b:En->Hh->RS}{ρ:En}{h:Hh}(z:whR c b ρ h≠.no):∃ n,whL c b n ρ h=whR c b ρ h:=by
 unfold whR at z ⊢;split at z
 ·rename_i e;exact ⟨_,by rw [dif_pos e]⟩
 ·exact absurd rfl z
theorem ZO {c:En->Hh->Res Bool}{b:En->Hh->RS}{ρ ρ':En}{h h1 h':Hh}(ec:c ρ h=.ok true h1)(eb:b ρ h1=.nx ρ' h'):whR c b ρ h=whR c b ρ' h':=by
 by_cases z:whR c b ρ' h'=.no
 ·by_cases z2:whR c b ρ h=.no
  ·rw [z,z2]
  ·obtain ⟨n,e⟩:=Q1 z2;cases n with
   | zero=>rw [<- e] at z2;exact absurd rfl z2
   | succ n =>
    rw [whL,ec] at e;simp only [eb] at e;rw [<- UF e z2]
 ·obtain ⟨n,e⟩:=Q1 z;exact UF (n:=n+1) (by rw [whL,ec];simp only [eb];exact e) z
theorem qZ {c:En->Hh->Res Bool}{b:En->Hh->RS}{ρ:En}{h h1:Hh}(ec:c ρ h=.ok false h1):whR c b ρ h=.nx ρ h1 :=
 UF (n:=1) (by rw [whL,ec]) 130
noncomputable def tru (d:D)(h:Hh)(f:Bool->Hh->Res D):Res D:=match d with
 | .bl b=>f b h
 | _=>.no
noncomputable def wQ:List D->Option (List Bool)
 | []=>some []
 | .bl b::r=>(wQ r).map (b::·)
 | _::_=>none
noncomputable def qG:List D->Option (List Str)
 | []=>some []
 | .str x::r=>(qG r).map (x::·)
 | _::_=>none
noncomputable def wt:List D->Option (List Int)
 | []=>some []
 | .int x::r=>(wt r).map (x::·)
 | _::_=>none
noncomputable def Yn (x:Str):List Str->List Str
 | []=>[x]
 | y::r=>if x=y then y::r else if x.cps.toList<y.cps.toList then x::y::r else y::Yn x r
noncomputable def jO (l:XQ):List Str:=l.foldr Yn []
noncomputable def dK1:Key->D
 | .inl i=>.int i
 | .inr x=>.str x
 | .nn=>.non
noncomputable def c1D (f:F1)(a:D)(h:Hh):Res D:=match f,a with
 | .int,.int i=>.ok 209 h
 | .int,.bl b=>.ok (.int (if b then 1 else 0)) h
 | .all,.loc n=>(match (rd h n).bind wQ with | some bs=>.ok (.bl (bs.all id)) h | none=>.no)
 | .any,.loc n=>(match (rd h n).bind wQ with | some bs=>.ok (.bl (bs.any id)) h | none=>.no)
 | .sum,.loc n=>(match (rd h n).bind wt with | some is=>.ok (.int is.sum) h | none=>.no)
 | .lks,.loc n=>(match h[n]? with | some (.dK kvs)=>new (.lst (kvs.map λ p=>dK1 p.1)) h | some (.fK kvs)=>new (.lst (kvs.map λ p=>dK1 p.1)) h | _=>.no)
 | _,_=>.no
noncomputable def Yo {α:Type}(f:Str)(v:α):List (Str×α)->List (Str×α)
 | []=>[(f,v)]
 | (g,x)::r=>if g=f then (g,v)::r else (g,x)::Yo f v r
noncomputable def JC (x:D)(f:Str)(h:Hh):Res D:=match x with
 | .loc n=>(match h[n]? with
  | some (.obj _ fs)=>(match fs.lookup f with | some d=>.ok d h | none=>.no)
  | _=>.no)
 | _=>.no
noncomputable def y0 (x:D)(f:Str)(v:D)(h:Hh):Option Hh:=match x with
 | .loc n=>(match h[n]? with
  | some (.obj y fs)=>if fs.length<1000 then some (h.set n (.obj y (Yo f v fs))) else none
  | _=>none)
 | _=>none
noncomputable def mkR (n:Nat)(r:Res D):Res D:=match r with
 | .ok .non h=>.ok 151 h
 | .exc c h=>.exc c h
 | _=>.no
noncomputable def Z9 (neg:Bool)(x:D)(h:Hh):Res D:=match x with
 | .fl xs=>.ok (.bl (ngB neg xs.isEmpty)) h
 | .loc n=>(match rd h n with | some xs=>.ok (.bl (ngB neg xs.isEmpty)) h | none=>.no)
 | _=>.no
noncomputable def ssD (x:D)(h:Hh):Res D:=match x with
 | .loc n=>(match rd h n with | some xs=>(match qG xs with | some ss=>if ss.length<=4000/\(jO ss).length<64 then new (.lst ((jO ss).map .str)) h else .no | none=>.no) | none=>.no)
 | _=>.no
noncomputable def Cv.d:Cv->D
 | .tup xs=>.tup (xs.map .str)
 | .int i=>.int i
 | .fn _ _=>.non
 | .oth=>.non
noncomputable def Cv.isFn:Cv->Bool
 | .fn _ _=>true
 | .oth=>true
 | _=>false
noncomputable def z4i (kvs:List (Str×Cv))(y:D)(h:Hh):Res D:=match y with
 | .str k=>(match kvs.lookup k with | some c=>if c.isFn then .no else .ok c.d h | none=>.no)
 | _=>.no
noncomputable def fnOf (kvs:List (Str×Cv))(y:D):Option Nat:=match y with
 | .str k=>(match kvs.lookup k with | some (.fn i _)=>some i | _=>none)
 | _=>none
noncomputable def z03:D->Option (Key×D)
 | .tup [k,v]=>(jG k).map λ q=>(q,v)
 | _=>none
noncomputable def wJ:List D->Option (List (Key×D))
 | []=>some []
 | x::r=>match z03 x,wJ r with
  | some a,some b=>some (a::b)
  | _,_=>none
noncomputable def yA (kvs more:157):List (Key×D):=more.foldl (λ acc kv=>qY acc kv.1 kv.2) kvs
noncomputable def Yp (x:D)(h:Hh):Res D:=match x with
 | .loc n=>(match rd h n with
  | some xs=>if xs.length<=1000000 then (match wJ xs with | some kvs=>new (.dK (yA [] kvs)) h | none=>.no) else .no
  | none=>.no)
 | _=>.no
noncomputable def Q2 (d:D)(h:Hh):D:=match d with
 | .loc n=>(match rd h n with | some xs=>.tup xs | none=>.non)
 | d=>d
@[simp] theorem unpD_tup {xs:181}{h:Hh}:Q2 241 h=.tup xs:=rfl
noncomputable def Wa (x:D)(lo hi:281)(st:D)(h:Hh):Res D:=match st with
 | .int k=>if 0<k then (match x with
  | .loc n=>match rd h n with
   | some xs=>new (.lst (L2.cutS xs lo hi k)) h
   | none=>.no
  | .fl xs=>new (.lst (L2.cutS xs lo hi k)) h
  | _=>.no) else .no
 | _=>.no
noncomputable def ZP (x:D)(h:Hh):Res (Ck×List D):=match x with
 | .loc n=>match h[n]? with
  | some (.dK kvs)=>.ok ([],kvs.map λ p=>dK1 p.1) (h.set n (.fK kvs))
  | some (.fK kvs)=>.ok ([],kvs.map λ p=>dK1 p.1) h
  | _=>.no
 | _=>.no
noncomputable def ZQ (x:D)(h:Hh):Res (Ck×List D):=match x with
 | .loc n=>match h[n]? with
  | some (.dK kvs)=>.ok ([],kvs.map λ p=>.tup [dK1 p.1,p.2]) (h.set n (.fK kvs))
  | some (.fK kvs)=>.ok ([],kvs.map λ p=>.tup [dK1 p.1,p.2]) h
  | _=>.no
 | _=>.no
noncomputable def Xv.run (u:List Nat)(h:Hh):Xv->D×Hh
 | .and a b r _=>(.bl (a.val u&&(b.val u&&r.all (Xt.val u))),h)
 | .lst ts _=>(.loc h.length,h++[.lst (ts.map λ t=>.bl (t.val u))])
 | .one t=>(.bl (t.val u),h)
noncomputable section
variable (cl:126)
mutual
noncomputable def E.ev:E->En->Hh->Res D
 | .non _,_,h=>.ok .non h
 | .bl b _,_,h=>.ok (.bl b) h
 | .int i _,_,h=>.ok 209 h
 | .str x _,_,h=>.ok 172 h
 | .var i _,ρ,h=>match ρ[i]? with | some (some d)=>.ok d h | _=>.no
 | .bin op a b _,ρ,h=>(a.ev ρ h).bind λ x h1=>(b.ev ρ h1).bind λ y h2=>jE op x y h2
 | .un op a _,ρ,h=>(a.ev ρ h).bind λ x h1=>unD op x h1
 | .cmp op a b _,ρ,h=>(a.ev ρ h).bind λ x h1=>(b.ev ρ h1).bind λ y h2=>jv op x y h2
 | .and a b r _,ρ,h=>(a.ev ρ h).bind λ x h1=>tru x h1 λ c h1=>if c then (b.ev ρ h1).bind λ y h2=>r.evAnd ρ y h2 else .ok (.bl false) h1
 | .or a b r _,ρ,h=>(a.ev ρ h).bind λ x h1=>tru x h1 λ c h1=>if c then .ok 214 h1 else (b.ev ρ h1).bind λ y h2=>r.evOr ρ y h2
 | .ite c a b _,ρ,h=>(c.ev ρ h).bind λ x h1=>tru x h1 λ t h1=>if t then a.ev ρ h1 else b.ev ρ h1
 | .call f a r _ _,ρ,h=>(a.ev ρ h).bind λ x h1=>(r.ev ρ h1).bind λ xs h2=>cl f (x::xs) h2
 | .len a _ _,ρ,h=>(a.ev ρ h).bind λ x h1=>Ym x h1
 | .isi T a _ _ _,ρ,h=>(a.ev ρ h).bind λ x h1=>match isI h1 x T with | some b=>.ok (.bl b) h1 | none=>.no
 | .sub a i _,ρ,h=>(a.ev ρ h).bind λ x h1=>(i.ev ρ h1).bind λ y h2=>jc x y h2
 | .tup es _,ρ,h=>(es.ev ρ h).bind λ xs h1=>if xs.length<=1000 then .ok 241 h1 else .no
 | .ofL l,ρ,h=>(l.ev ρ h).bind λ xs h1=>new 195 h1
 | .tupL l _ _,ρ,h=>(l.ev ρ h).bind λ xs h1=>.ok 241 h1
 | .tupE e _ _,ρ,h=>(e.ev ρ h).bind λ x h1=>match qx x h1 with | some xs=>.ok (.tup xs) h1 | none=>.no
 | .listE e _ _,ρ,h=>(e.ev ρ h).bind λ x h1=>match qx x h1 with | some xs=>new (.lst xs) h1 | none=>.no
 | .dicP e _ _,ρ,h=>(e.ev ρ h).bind λ x h1=>Yp x h1
 | .cut a lo hi _ _,ρ,h=>(a.ev ρ h).bind λ x h1=>(lo.ev ρ h1).bind λ l h2=>(hi.ev ρ h2).bind λ u h3=>yz x l u h3
 | .cutS a lo hi st _ _,ρ,h=>(a.ev ρ h).bind λ x h1=>(lo.ev ρ h1).bind λ l h2=>(hi.ev ρ h2).bind λ u h3=>(st.ev ρ h3).bind λ y h4=>Wa x l u y h4
 | .dic _,_,h=>new (.dK []) h
 | .m0 m o _ _,ρ,h=>(o.ev ρ h).bind λ x h1=>m0D m x h1
 | .m1 m o a _ _,ρ,h=>(o.ev ρ h).bind λ x h1=>onL x h1 ((a.ev ρ h1).bind λ y h2=>m1D m x y h2)
 | .max2 a b _ _,ρ,h=>(a.ev ρ h).bind λ x h1=>(b.ev ρ h1).bind λ y h2=>match x,y with | .int i,.int j=>.ok (.int (if j > i then j else i)) h2 | _,_=>.no
 | .c1 f a _ _,ρ,h=>(a.ev ρ h).bind λ x h1=>c1D f x h1
 | .cmpN neg a _ _,ρ,h=>(a.ev ρ h).bind λ x h1=>Z9 neg x h1
 | .neK neg a b _,ρ,h=>(a.ev ρ h).bind λ x h1=>(b.ev ρ h1).bind λ y h2=>Z8 neg x y h2
 | .sset e _ _ _ _,ρ,h=>(e.ev ρ h).bind λ x h1=>ssD x h1
 | .gsub _ kvs i _ _,ρ,h=>(i.ev ρ h).bind λ y h1=>z4i kvs y h1
 | .fld a f _,ρ,h=>(a.ev ρ h).bind λ x h1=>JC x f h1
 | .mk i x a r _ _,ρ,h=>(a.ev ρ h).bind λ y h1=>(r.ev ρ h1).bind λ ys h2=>mkR h2.length (cl i (.loc h2.length::y::ys) (h2++[.obj x []]))
noncomputable def Eo.ev:Eo->En->Hh->Res (Option Int)
 | .none,_,h=>.ok none h
 | .some e,ρ,h=>(e.ev ρ h).bind λ d h1=>zbg d h1
noncomputable def L.ev:L->En->Hh->Res (List D)
 | .disp es _,ρ,h=>(es.ev ρ h).bind λ xs h1=>if xs.length<=1000 then .ok xs h1 else .no
 | .comp elt t it c _ cap _ _,ρ,h=>(it.ev ρ h).bind λ q h1=>if q.2.length<=1000000 then jV q.1 (j1 t (jz cap ρ) (λ ρ' h2=>c.evC ρ' h2) (λ ρ' h2=>elt.ev ρ' h2)) q.2 [] h1 else .no
noncomputable def I.ev:I->En->Hh->Res (Ck×List D)
 | .seq e,ρ,h=>(e.ev ρ h).bind λ x h1=>match x with
  | .tup xs=>.ok ([],xs) h1
  | .fl xs=>.ok ([],xs) h1
  | .loc n=>match rd h1 n with | some xs=>.ok ([(n,xs)],xs) h1 | none=>.no
  | _=>.no
 | .lst l,ρ,h=>(l.ev ρ h).bind λ xs h1=>.ok ([],xs) h1
 | .rng a _ _,ρ,h=>(a.ev ρ h).bind λ x h1=>match x with
  | .int j=>if -1000000<=j/\j<=1000000 then .ok ([],(List.range j.toNat).map λ k=>.int (k:Nat)) h1 else .no
  | _=>.no
 | .keys e,ρ,h=>(e.ev ρ h).bind λ x h1=>ZP x h1
 | .items e _ _,ρ,h=>(e.ev ρ h).bind λ x h1=>ZQ x h1
noncomputable def Es.evC:Es->En->Hh->Res Bool
 | .nil,_,h=>.ok true h
 | .cons e _,ρ,h=>(e.ev ρ h).bind λ d h1=>match d with | .bl b=>.ok b h1 | _=>.no
noncomputable def Es.ev:Es->En->Hh->Res (List D)
 | .nil,_,h=>.ok [] h
 | .cons e r,ρ,h=>(e.ev ρ h).bind λ x h1=>(r.ev ρ h1).bind λ xs h2=>.ok (x::xs) h2
noncomputable def Es.evAnd:Es->En->D->Hh->Res D
 | .nil,_,x,h=>.ok x h
 | .cons e r,ρ,x,h=>tru x h λ c h1=>if c then (e.ev ρ h1).bind λ y h2=>r.evAnd ρ y h2 else .ok (.bl false) h1
noncomputable def Es.evOr:Es->En->D->Hh->Res D
 | .nil,_,x,h=>.ok x h
 | .cons e r,ρ,x,h=>tru x h λ c h1=>if c then .ok 214 h1 else (e.ev ρ h1).bind λ y h2=>r.evOr ρ y h2
end
noncomputable def E.evT (e:E)(ρ:En)(h:Hh):Res Bool:=(e.ev cl ρ h).bind λ d h1=>match d with | .bl b=>.ok b h1 | _=>.no
noncomputable def j5 {α:Type}(ρ:En)(r:Res α)(f:α->Hh->RS):RS:=match r with
 | .ok a h=>f a h
 | .exc c h=>.ex c ρ h
 | .no=>.no
@[simp] theorem andS_ok {α:Type}{ρ:En}{a:α}{h:Hh}{f:α->Hh->RS}:j5 ρ (.ok a h) f=f a h:=rfl
@[simp] theorem andS_exc {α:Type}{ρ:En}{c:Nat}{h:Hh}{f:α->Hh->RS}:j5 ρ (.exc c h) f=.ex c ρ h:=rfl
noncomputable def jP (o:RS)(f:En->Hh->RS):RS:=match o with
 | .nx ρ h=>f ρ h
 | o=>o
@[simp] theorem seqS_nx {ρ:En}{h:Hh}{f:En->Hh->RS}:jP (.nx ρ h) f=f ρ h:=rfl
@[simp] theorem seqS_rt {d:D}{h:Hh}{f:En->Hh->RS}:jP (.rt d h) f=.rt d h:=rfl
@[simp] theorem seqS_bk {ρ:En}{h:Hh}{f:En->Hh->RS}:jP (.bk ρ h) f=.bk ρ h:=rfl
@[simp] theorem seqS_ct {ρ:En}{h:Hh}{f:En->Hh->RS}:jP (.ct ρ h) f=.ct ρ h:=rfl
@[simp] theorem seqS_ex {c:Nat}{ρ:En}{h:Hh}{f:En->Hh->RS}:jP (.ex c ρ h) f=.ex c ρ h:=rfl
mutual
noncomputable def S.run:S->En->Hh->RS
 | .set i e _ _,ρ,h=>j5 ρ (e.ev cl ρ h) λ d h1=>.nx (ρ.set i (some d)) h1
 | .ret e _,ρ,h=>j5 ρ (e.ev cl ρ h) λ d h1=>.rt d h1
 | .iff c a b _,ρ,h=>j5 ρ (c.evT cl ρ h) λ t h1=>if t then a.run ρ h1 else b.run ρ h1
 | .ex e _,ρ,h=>j5 ρ (e.ev cl ρ h) λ _ h1=>.nx ρ h1
 | .put o i v _ _,ρ,h=>j5 ρ (v.ev cl ρ h) λ z h1=>j5 ρ (o.ev cl ρ h1) λ x h2=>j5 ρ (i.ev cl ρ h2) λ y h3=>match ZM x y z h3 with | some h4=>.nx ρ h4 | none=>.no
 | .putT o es v _ _ _,ρ,h=>j5 ρ (v.ev cl ρ h) λ z h1=>j5 ρ (o.ev cl ρ h1) λ x h2=>j5 ρ (es.ev cl ρ h2) λ ds h3=>if ds.length<1000 then (match putT x ds z h3 with | some h4=>.nx ρ h4 | none=>.no) else .no
 | .forr t it b _,ρ,h=>j5 ρ (it.ev cl ρ h) λ q h1=>zu q.1 (zH t λ ρ' h'=>b.run ρ' h') q.2 ρ h1
 | .whil c b _,ρ,h=>whR 259 (λ ρ' h'=>b.run ρ' h') ρ h
 | .setF o f v _ _,ρ,h=>j5 ρ (v.ev cl ρ h) λ z h1=>j5 ρ (o.ev cl ρ h1) λ x h2=>match y0 x f z h2 with | some h3=>.nx ρ h3 | none=>.no
 | .setT is e p1 _,ρ,h=>j5 ρ (e.ev cl ρ h) λ d h1=>match jm (.tup is p1) (Q2 d h1) ρ with | some ρ'=>.nx ρ' h1 | none=>.no
noncomputable def Ss.run:Ss->En->Hh->RS
 | .nil,ρ,h=>.nx ρ h
 | .cons s r,ρ,h=>jP (s.run ρ h) λ ρ' h'=>r.run ρ' h'
end
end
noncomputable def jn:Stmt->List Stmt
 | .ClassDef _ _ _ b _ _ _ _ _ _ _=>b
 | _=>[]
structure Df where
 name:Str
 ps:List Str
 N:List Str
 body:Ss
noncomputable def w9:RS->Res D
 | .rt v h'=>.ok v h'
 | .nx _ h'=>.ok .non h'
 | .ex c _ h'=>.exc c h'
 | _=>.no
noncomputable def Df.run (cl:126)(d:Df)(as:181)(h:Hh):Res D :=
 w9 (d.body.run cl (as.map some++List.replicate (d.N.length-as.length) none) h)
noncomputable def callI (ds:List Df):Nat->Nat->List D->Hh->Res D
 | 0,_,_,_=>.no
 | k+1,f,as,h=>match ds[f]? with
  | some d=>if as.length=d.ps.length then d.run (callI ds k) as h else .no
  | none=>.no
section
variable {i j:Int}{h:Hh}{x y:Str}{b c:Bool}{d e:D}{xs:181}
@[simp] theorem bin_add:jE .Add 209 (.int j) h=.ok (.int (i+j)) h:=rfl
@[simp] theorem bin_sub:jE .Sub 209 (.int j) h=.ok (.int (i-j)) h:=rfl
@[simp] theorem bin_mul:jE .Mult 209 (.int j) h=if Yl i=true/\Yl j=true then .ok (.int (i*j)) h else .no:=rfl
@[simp] theorem bin_fdiv:jE .FloorDiv 209 (.int j) h=if 0<j/\j<1267650600228229401496703205376 then .ok (.int (i/j)) h else .no:=rfl
@[simp] theorem bin_mod:jE .Mod 209 (.int j) h=if 0<j then .ok (.int (i%j)) h else .no:=rfl
@[simp] theorem bin_shl:jE .LShift 209 (.int j) h=if fits i=true/\0<=j/\j<=1000000 then .ok (.int (i*2 ^ j.toNat)) h else .no:=rfl
@[simp] theorem bin_shr:jE .RShift 209 (.int j) h=if 0<=j then .ok (.int (i/2 ^ j.toNat)) h else .no:=rfl
@[simp] theorem bin_and:jE .BitAnd 209 (.int j) h=.ok (.int (Builtin.bitAnd i j)) h:=rfl
@[simp] theorem bin_or:jE .BitOr 209 (.int j) h=.ok (.int (Builtin.bitOr i j)) h:=rfl
@[simp] theorem bin_adds:jE .Add 172 (.str y) h=if x.length+y.length<=1000000 then .ok (.str (x++y)) h else .no:=rfl
@[simp] theorem cmp_lt:jv .Lt 209 (.int j) h=.ok (.bl (decide (i<j))) h:=rfl
@[simp] theorem cmp_gt:jv .Gt 209 (.int j) h=.ok (.bl (decide (j<i))) h:=rfl
@[simp] theorem cmp_ge:jv .GtE 209 (.int j) h=.ok (.bl (decide (j<=i))) h:=rfl
@[simp] theorem cmp_eq:jv .Eq d e h=eqR false (pdT h d) (pdT h e) h:=rfl
@[simp] theorem cmp_ne:jv .NotEq d e h=eqR true (pdT h d) (pdT h e) h:=rfl
@[simp] theorem cmp_in:jv .In d e h=inD false d e h:=rfl
@[simp] theorem cmp_notin:jv .NotIn d e h=inD true d e h:=rfl
theorem in_strs {neg:Bool}{ys:XQ}:UE neg 172 (ys.map .str) h=.ok (.bl (ngB neg (ys.any λ y=>y==x))) h:=by
 unfold UE;rw [if_pos ⟨rfl,by simp [W9]⟩,List.any_map];rfl
@[simp] theorem cmp_isN:jv .Is d .non h=.ok (.bl (match d with | .non=>true | _=>false)) h:=by cases d<;>rfl
@[simp] theorem cmp_isnotN:jv .IsNot d .non h=.ok (.bl (match d with | .non=>false | _=>true)) h:=by cases d<;>rfl
@[simp] theorem cmp_is:jv .Is (.bl b) (.bl c) h=.ok (.bl (b==c)) h:=rfl
@[simp] theorem cmp_isnot:jv .IsNot (.bl b) (.bl c) h=.ok (.bl (!(b==c))) h:=rfl
@[simp] theorem eqR_some {neg:Bool}{u v:PyData}:eqR neg (some u) (some v) h=if u.canLay0=true/\v.canLay0=true/\u.depth<=60 then .ok (.bl (if neg then !PyData.eqv u v else PyData.eqv u v)) h else .no:=rfl
@[simp] theorem pdT_non:pdT h .non=some .none:=rfl
@[simp] theorem pdT_bl:pdT h (.bl b)=some (.bool b):=rfl
@[simp] theorem pdT_int:pdT h 209=some 209:=rfl
@[simp] theorem pdT_str:pdT h 172=some 172:=rfl
@[simp] theorem pdT_tup:pdT h 241=(D.pes h xs).map .tuple:=rfl
@[simp] theorem pdT_loc {n:Nat}:pdT h 151=(rd h n).bind λ xs=>(D.pds h xs).map .list:=rfl
@[simp] theorem pds_nil:D.pds h []=some []:=by unfold D.pds;rfl
@[simp] theorem un_not:unD .Not (.bl b) h=.ok (.bl (!b)) h:=rfl
@[simp] theorem un_invert:unD .Invert 209 h=.ok (.int (Builtin.bitNot i)) h:=rfl
@[simp] theorem un_usub:unD .USub 209 h=.ok (.int (-i)) h:=rfl
@[simp] theorem pdT_fl:pdT h (.fl xs)=(D.pds h xs).map .list:=rfl
@[simp] theorem len_fl:Ym (.fl xs) h=.ok (.int xs.length) h:=rfl
@[simp] theorem sub_fl:jc (.fl xs) 209 h=match atI xs i with | some d=>.ok d h | none=>.no:=rfl
@[simp] theorem len_tup:Ym 241 h=.ok (.int xs.length) h:=rfl
@[simp] theorem len_loc {n:Nat}:Ym 151 h=match rd h n with | some xs=>.ok (.int xs.length) h | none=>.no:=rfl
@[simp] theorem len_str:Ym 172 h=if x.length<=1000000 then .ok (.int x.length) h else .no:=rfl
@[simp] theorem sub_tup:jc 241 209 h=match atI xs i with | some d=>.ok d h | none=>.no:=rfl
@[simp] theorem bin_muls:jE .Mult 172 (.int j) h=if 0<=j/\j<=1000/\x.length<=1000 then .ok (.str (Txt.mul x j)) h else .no:=rfl
@[simp] theorem bin_addt {ys:181}:jE .Add 241 (.tup ys) h=if xs.length+ys.length<=1000000 then .ok (.tup (xs++ys)) h else .no:=rfl
@[simp] theorem bin_addl {n m:Nat}:jE .Add 151 (.loc m) h=(match h[n]?,h[m]? with
  | some (.lst xs),some (.lst ys)=>if xs.length+ys.length<=1000000 then .ok 136 (h++[.lst (xs++ys)]) else .no
  | _,_=>.no):=rfl
theorem z4j:jc 172 209 h=if x.length<=1000000 then (match atI x.cps.toList i with | some c=>.ok (.str ⟨#[c]⟩) h | none=>.no) else .no:=rfl
theorem VI {n:Nat}{y:D}:jc 151 y h=(match h[n]? with
  | some (.dK kvs)=>match (jG y).bind (λ k=>zK kvs k) with | some d=>.ok d h | none=>.no
  | some (.fK kvs)=>match (jG y).bind (λ k=>zK kvs k) with | some d=>.ok d h | none=>.no
  | some (.dT kvs)=>match (yV y).bind (λ k=>zK kvs k) with | some d=>.ok d h | none=>.no
  | some (.lst xs)=>match y with
   | .int k=>match atI xs k with | some d=>.ok d h | none=>.no
   | _=>.no
  | _=>.no):=rfl
@[simp] theorem tru_bl {f:Bool->Hh->Res D}:tru (.bl b) h f=f b h:=rfl
end
theorem z9 {ds:List Df}{k i:Nat}{d:Df}{as:181}{h:Hh}(hd:ds[i]?=some d)(hl:as.length=d.ps.length):callI ds (k+1) i as h=d.run (callI ds k) as h:=by
 unfold callI;rw [hd];exact if_pos hl
theorem zdu {α:Type}{P:List α->Prop}(f:P [])(us:List α)(hl:us.length=0):P us:=by
 cases us with
 | nil=>exact f
 | cons=>cases hl
theorem Oq {α:Type}{n:Nat}{P:List α->Prop}(f:∀ a us,us.length=n->P (a::us))(us:List α)(hl:us.length=n+1):P us:=by
 cases us with
 | nil=>cases hl
 | cons a r=>exact f a r (Nat.succ.inj hl)
theorem yB {α:Type}{P:List α->Prop}(f:∀ a,P [a]):∀ us:List α,us.length=1->P us:=Oq λ a=>zdu (P:=λ us=>P (a::us)) (f a)
theorem wc {α:Type}{P:List α->Prop}(f:∀ a b,P [a,b]):∀ us:List α,us.length=2->P us:=Oq λ a=>yB (P:=λ us=>P (a::us)) (f a)
theorem Za {α:Type}{P:List α->Prop}(f:∀ a b c,P [a,b,c]):∀ us:List α,us.length=3->P us:=Oq λ a=>wc (P:=λ us=>P (a::us)) (f a)
theorem UG {α:Type}{P:List α->Prop}(f:∀ a b c d,P [a,b,c,d]):∀ us:List α,us.length=4->P us:=Oq λ a=>Za (P:=λ us=>P (a::us)) (f a)
theorem z8i {α:Type}{P:List α->Prop}(f:∀ a b c d e,P [a,b,c,d,e]):∀ us:List α,us.length=5->P us:=Oq λ a=>UG (P:=λ us=>P (a::us)) (f a)
theorem zdv {α:Type}{P:List α->Prop}(f:∀ a b c d e f,P [a,b,c,d,e,f]):∀ us:List α,us.length=6->P us:=Oq λ a=>z8i (P:=λ us=>P (a::us)) (f a)
end PI
namespace PI
open PySem L2
noncomputable def Fz (K:Y01)(H:Hp)(a:Addr)(vs:193):Prop:=(∃ o,H a=some (.frz o (.lst vs)))\/∀ H',SqL K H' a vs
theorem Fz.sq (h:Fz K H a vs):SqL K H a vs:=h.elim (λ ⟨o,q⟩=>.inl (.inr ⟨o,q⟩)) λ q=>q H
mutual
inductive Rep (K:Y01)(μ:XZ)(H:Hp):D->V->Prop
 | non:Rep K μ H .non .non
 | bl (b:Bool):Rep K μ H (.bl b) (.bl b)
 | int (i:Int):Rep K μ H 209 209
 | str (x:Str):Rep K μ H 172 172
 | tup {ds:181}{vs:193}{a:Addr}:SqT K H a vs->Reps K μ H ds vs->Rep K μ H (.tup ds) 202
 | loc {n:Nat}{a:Addr}:μ[n]?=some a->Rep K μ H 151 202
 | fl {ds:181}{vs:193}{a:Addr}:Fz K H a vs->Reps K μ H ds vs->Rep K μ H (.fl ds) 202
inductive Reps (K:Y01)(μ:XZ)(H:Hp):List D->List V->Prop
 | nil:Reps K μ H [] []
 | cons {d:D}{v:V}{ds:181}{vs:193}:Rep K μ H d v->Reps K μ H ds vs->Reps K μ H (d::ds) (v::vs)
end
structure Ext (K:Y01)(μ:XZ)(H:Hp)(μ':XZ)(H':Hp):Prop where
 loc:∀ (n:Nat) a,μ[n]?=some a->μ'[n]?=some a
 tup:∀ a xs,SqT K H a xs->SqT K H' a xs
 fz:∀ a xs,Fz K H a xs->Fz K H' a xs
 fk:∀ a o (vs:173),H a=some (.frz o (.dK vs))->H' a=some (.frz o (.dK vs))
 oth:∀ a o,H a=some o->a∉μ->H' a=some o
 new:∀ a,a∈μ'->a∈μ\/H a=none
theorem Ext.refl:Ext K μ H μ H:=⟨λ _ _ h=>h,λ _ _ h=>h,λ _ _ h=>h,λ _ _ _ h=>h,λ _ _ h _=>h,λ _ h=>.inl h⟩
theorem Ext.sub (a:Ext K μ H μ1 H1)(h:x∈μ):x∈μ1:=by
 obtain ⟨n,hn⟩:=Y32 h;exact Y0z (a.loc n x hn)
theorem Ext.apart (a:Ext K μ H μ1 H1)(h:H x=some o)(n:x∉μ):x∉μ1:=λ z=>by
 rcases a.new x z with q | q
 ·exact n q
 ·rw [h] at q;cases q
theorem Ext.trans (a:Ext K μ H μ1 H1)(b:Ext K μ1 H1 μ2 H2):Ext K μ H μ2 H2:=by
 refine ⟨λ n x h=>b.loc n x (a.loc n x h),λ x y h=>b.tup x y (a.tup x y h),λ x y h=>b.fz x y (a.fz x y h),λ x o y h=>b.fk x o y (a.fk x o y h),λ x o h n=>b.oth x o (a.oth x o h n) (a.apart h n),λ x h=>?_⟩;rcases b.new x h with z | z
 ·exact a.new x z
 ·by_cases hx:x∈μ
  ·exact .inl hx
  ·right;cases e:H x with
   | none=>rfl
   | some o=>rw [a.oth x o e hx] at z;cases z
mutual
theorem Rep.mono (e:Ext K μ H μ' H'):∀ {d:D}{v:V},Rep K μ H d v->Rep K μ' H' d v
 | _,_,.non=>.non
 | _,_,.bl b=>.bl b
 | _,_,.int i=>.int i
 | _,_,.str x=>.str x
 | _,_,.tup h r=>.tup (e.tup _ _ h) (Reps.mono e r)
 | _,_,.loc h=>.loc (e.loc _ _ h)
 | _,_,.fl h r=>.fl (e.fz _ _ h) (Reps.mono e r)
theorem Reps.mono (e:Ext K μ H μ' H'):∀ {ds:181}{vs:193},Reps K μ H ds vs->Reps K μ' H' ds vs
 | _,_,.nil=>.nil
 | _,_,.cons h r=>.cons (Rep.mono e h) (Reps.mono e r)
end
mutual
theorem Rep.mono' (e:237):∀ {d:D}{v:V},Rep K μ H d v->Rep K μ' H d v
 | _,_,.non=>.non
 | _,_,.bl b=>.bl b
 | _,_,.int i=>.int i
 | _,_,.str x=>.str x
 | _,_,.tup h r=>.tup h (Reps.mono' e r)
 | _,_,.loc h=>.loc (e _ _ h)
 | _,_,.fl h r=>.fl h (Reps.mono' e r)
theorem Reps.mono' (e:237):∀ {ds:181}{vs:193},Reps K μ H ds vs->Reps K μ' H ds vs
 | _,_,.nil=>.nil
 | _,_,.cons h r=>.cons (Rep.mono' e h) (Reps.mono' e r)
end
theorem Reps.length:∀ {ds:181}{vs:193},Reps K μ H ds vs->ds.length=vs.length
 | _,_,.nil=>rfl
 | _,_,.cons _ r=>by rw [Y09,Y09,r.length]
theorem Reps.get:∀ {ds:181}{vs:193}{i:Nat}{d:D},Reps K μ H ds vs->ds[i]?=some d->∃ v,vs[i]?=some v/\Rep K μ H d v
 | _,_,_,_,.nil,e=>by simp at e
 | _,_,0,_,.cons h _,e=>by simp at e;subst e;exact ⟨_,rfl,h⟩
 | _,_,i+1,d,.cons _ r,e=>by
  obtain ⟨v,h1,h2⟩:=Reps.get r 291;exact ⟨v,by simpa using h1,h2⟩
theorem Reps.append:∀ {ds es:181}{vs ws:193},Reps K μ H ds vs->Reps K μ H es ws->Reps K μ H (ds++es) (vs++ws)
 | _,_,_,_,.nil,r=>r
 | _,_,_,_,.cons h t,r=>.cons h (t.append r)
theorem Reps.atI (r:274)(e:L2.atI ds k=some d):∃ v,L2.atI vs k=some v/\Rep K μ H d v:=by
 unfold L2.atI at e ⊢;rw [<- r.length];cases h:ixN ds.length k with
 | none=>rw [h] at e;cases e
 | some j =>
  rw [h] at e;exact r.get e
theorem Reps.pick (r:274):∀ is:List Nat,Reps K μ H (is.filterMap λ i=>ds[i]?) (is.filterMap λ i=>vs[i]?)
 | []=>.nil
 | i::is=>by
  have ih:=Reps.pick r is;cases e:ds[i]? with
  | none =>
   have e2:vs[i]?=none:=by
    rw [Y37] at e ⊢;rw [<- r.length];exact e
   rw [Y2m e,Y2m e2];exact ih
  | some x =>
   obtain ⟨u,e2,ru⟩:=r.get e;rw [Y2l e,Y2l e2];exact .cons ru ih
theorem Reps.cutS (r:274)(lo hi:281)(st:Int):Reps K μ H (L2.cutS ds lo hi st) (L2.cutS vs lo hi st):=by
 unfold L2.cutS;rw [r.length];exact r.pick _
inductive RepKs {κ:Type}(K:Y01)(μ:XZ)(H:Hp):List (κ×D)->List (κ×V)->Prop
 | nil:RepKs K μ H [] []
 | cons {k:κ}{d:D}{v:V}{ds:List (κ×D)}{vs:List (κ×V)}:Rep K μ H d v->RepKs K μ H ds vs->RepKs K μ H ((k,d)::ds) ((k,v)::vs)
theorem RepKs.mono (e:Ext K μ H μ' H'):∀ {ds:List (κ×D)}{vs:List (κ×V)},RepKs K μ H ds vs->RepKs K μ' H' ds vs
 | _,_,.nil=>.nil
 | _,_,.cons h r=>.cons (h.mono e) (r.mono e)
theorem RepKs.length:∀ {ds:List (κ×D)}{vs:List (κ×V)},RepKs K μ H ds vs->ds.length=vs.length
 | _,_,.nil=>rfl
 | _,_,.cons _ r=>by rw [Y09,Y09,r.length]
inductive RepFs (K:Y01)(μ:XZ)(H:Hp):List (Str×D)->List (Str×V)->Prop
 | nil:RepFs K μ H [] []
 | cons {f:Str}{d:D}{v:V}{ds:List (Str×D)}{vs:List (Str×V)}:Rep K μ H d v->RepFs K μ H ds vs->RepFs K μ H ((f,d)::ds) ((f,v)::vs)
theorem RepFs.mono (e:Ext K μ H μ' H'):∀ {ds:List (Str×D)}{vs:List (Str×V)},RepFs K μ H ds vs->RepFs K μ' H' ds vs
 | _,_,.nil=>.nil
 | _,_,.cons h r=>.cons (h.mono e) (r.mono e)
theorem RepFs.mono' (e:237):∀ {ds:List (Str×D)}{vs:List (Str×V)},RepFs K μ H ds vs->RepFs K μ' H ds vs
 | _,_,.nil=>.nil
 | _,_,.cons h r=>.cons (h.mono' e) (r.mono' e)
theorem RepFs.length:∀ {ds:List (Str×D)}{vs:List (Str×V)},RepFs K μ H ds vs->ds.length=vs.length
 | _,_,.nil=>rfl
 | _,_,.cons _ r=>by rw [Y09,Y09,r.length]
theorem RepFs.get:∀ {ds:List (Str×D)}{vs:List (Str×V)},RepFs K μ H ds vs->ds.lookup f=some d->∃ v,vs.lookup f=some v/\Rep K μ H d v
 | _,_,.nil,e=>by cases e
 | _,_,@RepFs.cons _ _ _ g _ _ _ _ h r,e=>by
  rw [List.lookup] at e ⊢;cases c:f==g with
  | true=>rw [c] at e;cases e;exact ⟨_,rfl,h⟩
  | false=>rw [c] at e;exact r.get e
theorem RepFs.put (q:Rep K μ H d v):∀ {ds:List (Str×D)}{vs:List (Str×V)},RepFs K μ H ds vs->RepFs K μ H (Yo f d ds) (wH f v vs)
 | _,_,.nil=>.cons q .nil
 | _,_,@RepFs.cons _ _ _ g _ _ _ _ h r=>by
  rw [Yo,wH];by_cases c:g=f
  ·rw [if_pos c,if_pos c];exact .cons q r
  ·rw [if_neg c,if_neg c];exact .cons h (r.put q)
noncomputable def jq:List Str:=["named","clauses","bound","doing","left","standing","record","used","end","tasks","numbers","known","block","held","went","name","kept","done","uses","deeds","every","rows"]
structure ClsN (K:Y01)(x:Str)(C:Addr):Prop where
 nm:PySem.W.nsIn K mainGlobals x=some (some (.ref C))
 cl:Cls K C
 na:∀ f∈jq,NoAttr K C f
noncomputable def RepO (K:Y01)(μ:XZ)(H:Hp)(a:Addr):O->Prop
 | .lst ds=>∃ vs,H a=some (.lst vs)/\Reps K μ H ds vs
 | .dK kvs=>∃ vs,H a=some (.dK vs)/\RepKs K μ H kvs vs
 | .fK kvs=>∃ ob vs,H a=some (.frz ob (.dK vs))/\RepKs K μ H kvs vs
 | .dT kvs=>∃ vs,H a=some (.dT vs)/\RepKs K μ H kvs vs
 | .obj x fs=>∃ C dx vs,H a=some (.ins C dx vs)/\ClsN K x C/\RepFs K μ H fs vs
theorem RepKs.mono' (e:237):∀ {ds:List (κ×D)}{vs:List (κ×V)},RepKs K μ H ds vs->RepKs K μ' H ds vs
 | _,_,.nil=>.nil
 | _,_,.cons h r=>.cons (h.mono' e) (r.mono' e)
theorem RepO.mono' (e:237)(r:RepO K μ H a o):RepO K μ' H a o:=by
 cases o with
 | lst ds=>obtain ⟨vs,q,r⟩:=r;exact ⟨vs,q,r.mono' e⟩
 | dK ds=>obtain ⟨vs,q,r⟩:=r;exact ⟨vs,q,r.mono' e⟩
 | fK ds=>obtain ⟨ob,vs,q,r⟩:=r;exact ⟨ob,vs,q,r.mono' e⟩
 | dT ds=>obtain ⟨vs,q,r⟩:=r;exact ⟨vs,q,r.mono' e⟩
 | obj x fs=>obtain ⟨C,dx,vs,q,c,r⟩:=r;exact ⟨C,dx,vs,q,c,r.mono' e⟩
structure HR (K:Y01)(μ:XZ)(h:Hh)(H:Hp):Prop where
 len:μ.length=h.length
 inj:∀ (n m:Nat) (a:Addr),μ[n]?=some a->μ[m]?=some a->n=m
 obj:∀ (n:Nat) (a:Addr) (o:O),μ[n]?=some a->h[n]?=some o->RepO K μ H a o
theorem HR.fresh (r:HR K μ h H)(hp:H p=none):p∉μ:=λ z=>by
 obtain ⟨n,hn⟩:=Y32 z;have hl:n<h.length:=by rw [<- r.len];exact (Y00.mp hn).1
 have:=r.obj n p h[n] hn (Y06 hl)
 cases e:h[n] with
 | lst ds=>rw [e] at this;obtain ⟨vs,q,_⟩:=this;rw [hp] at q;cases q
 | dK ds=>rw [e] at this;obtain ⟨vs,q,_⟩:=this;rw [hp] at q;cases q
 | fK ds=>rw [e] at this;obtain ⟨ob,vs,q,_⟩:=this;rw [hp] at q;cases q
 | dT ds=>rw [e] at this;obtain ⟨vs,q,_⟩:=this;rw [hp] at q;cases q
 | obj x fs=>rw [e] at this;obtain ⟨C,dx,vs,q,_⟩:=this;rw [hp] at q;cases q
theorem zt (hp:H p=none):Ext K μ H μ (upd H p u) :=
 ⟨λ _ _ h=>h,λ a xs h=>by
  rcases h with h | h
  ·left;rcases h with h | ⟨o,h⟩
   ·exact .inl (by rw [zr 258];exact h)
   ·exact .inr ⟨o,by rw [zr 258];exact h⟩
  ·exact .inr h,λ a xs h=>by
  rcases h with ⟨o,h⟩ | h
  ·exact .inl ⟨o,by rw [zr 258];exact h⟩
  ·exact .inr h,λ a o vs h=>by rw [zr 258];exact h,λ a o h _=>by rw [zr 258];exact h,λ _ h=>.inl h⟩
theorem Ext.add (e:Ext K μ H μ' H')(hp:H p=none):Ext K μ H (μ'++[p]) H' :=
 ⟨λ n a h=>by rw [Y10 (Y00.mp (e.loc n a h)).1];exact e.loc n a h,e.tup,e.fz,e.fk,e.oth,
  λ a h=>by
   rcases Y0j.mp h with h | h
   ·exact e.new a h
   ·rw [Y0d.mp h];exact .inr hp⟩
theorem RepO.keep (e:Ext K μ H μ' H')(k:∀ u,H a=some u->H' a=some u)(r:RepO K μ H a o):RepO K μ' H' a o:=by
 cases o with
 | lst ds=>obtain ⟨vs,q,r⟩:=r;exact ⟨vs,k _ q,r.mono e⟩
 | dK ds=>obtain ⟨vs,q,r⟩:=r;exact ⟨vs,k _ q,r.mono e⟩
 | fK ds=>obtain ⟨ob,vs,q,r⟩:=r;exact ⟨ob,vs,k _ q,r.mono e⟩
 | dT ds=>obtain ⟨vs,q,r⟩:=r;exact ⟨vs,k _ q,r.mono e⟩
 | obj x fs=>obtain ⟨C,dx,vs,q,c,r⟩:=r;exact ⟨C,dx,vs,k _ q,c,r.mono e⟩
theorem z04 (hp:H p=none)(h:H a=some w):upd H p u a=some w:=by
 rw [zr 258];exact h
theorem HR.tup (r:HR K μ h H)(hp:H p=none):HR K μ h (upd H p u) :=
 ⟨r.len,r.inj,λ n a o e1 e2=>(r.obj n a o e1 e2).keep (zt hp) λ _ q=>z04 hp q⟩
theorem HR.add (r:HR K μ h H)(hp:p∉μ)(q:∀ μ',(∀ (n:Nat) a,μ[n]?=some a->μ'[n]?=some a)->RepO K μ' H p o):HR K (μ++[p]) (h++[o]) H:=by
 have gr:∀ (n:Nat) a,μ[n]?=some a->(μ++[p])[n]?=some a:=λ n a e=>by rw [Y10 (Y00.mp e).1];exact e
 refine ⟨by rw [Y05,Y05,r.len];rfl,λ n m a e1 e2=>?_,λ n a o1 e1 e2=>?_⟩
 ·have key:∀ (n:Nat) (a:Addr),(μ++[p])[n]?=some a->(n<μ.length/\μ[n]?=some a)\/(n=μ.length/\a=p):=λ n a e=>by
   by_cases hn:n<μ.length
   ·rw [Y10 hn] at e;exact .inl ⟨hn,e⟩
   ·right;rw [Y0q 128] at e
    have:n-μ.length=0:=by
     cases q:n-μ.length with
     | zero=>rfl
     | succ z=>rw [q] at e;simp at e
    rw [this] at e;simp at e;exact ⟨by omega,e.symm⟩
  rcases key n a e1 with ⟨hn,q1⟩ | ⟨hn,q1⟩<;>rcases key m a e2 with ⟨hm,q2⟩ | ⟨hm,q2⟩
  ·exact r.inj n m a q1 q2
  ·exact absurd (Y0z q1) (q2▸hp)
  ·exact absurd (Y0z q2) (q1▸hp)
  ·omega
 ·by_cases hn:n<μ.length
  ·rw [Y10 hn] at e1;rw [Y10 (by rw [<- r.len];exact hn)] at e2;exact (r.obj n a o1 e1 e2).mono' gr
  ·rw [Y0q 128] at e1;have hz:n-μ.length=0:=by
    cases z:n-μ.length with
    | zero=>rfl
    | succ y=>rw [z] at e1;simp at e1
   rw [hz] at e1;simp at e1;subst e1;rw [Y0q (by rw [<- r.len];omega),<- r.len,hz] at e2;simp at e2;subst e2;exact q _ gr
theorem HR.alloc (r:HR K μ h H)(hp:H p=none)(hm:p∉μ)(q:∀ μ',(∀ (n:Nat) a,μ[n]?=some a->μ'[n]?=some a)->RepO K μ' (upd H p u) p o):HR K (μ++[p]) (h++[o]) (upd H p u) :=
 (r.tup hp).add hm q
theorem HR.chg (r:HR K μ h H)(hn:h[n]?=some o)(ha:μ[n]?=some a)
  (q:∀ H',Ext K μ H μ H'->H' a=some u->RepO K μ H' a o') (nz:∀ ks,o≠.fK ks:=by intro _ z;cases z):HR K μ (h.set n o') (upd H a u)/\Ext K μ H μ (upd H a u):=by
 obtain ⟨w,hw,nt,nf⟩:∃ w,H a=some w/\(∀ xs,w≠.tup xs)/\∀ o x,w≠.frz o x:=by
  have z:=r.obj n a o ha hn;cases o with
  | lst ds=>obtain ⟨vs,e,_⟩:=z;exact 265
  | dK ds=>obtain ⟨vs,e,_⟩:=z;exact 265
  | fK ds=>exact absurd rfl (nz ds)
  | dT ds=>obtain ⟨vs,e,_⟩:=z;exact 265
  | obj x fs=>obtain ⟨C,dx,vs,e,_⟩:=z;exact 265
 have ht:∀ b xs,SqT K H b xs->SqT K (upd H a u) b xs:=λ b xs z=>by
  rcases z with z | z
  ·left;rcases z with z | ⟨ob,z⟩
   ·exact .inl (by rw [zr (λ y=>by rw [y,hw] at z;exact nt _ (Option.some.inj z))];exact z)
   ·exact .inr ⟨ob,by rw [zr (λ y=>by rw [y,hw] at z;exact nf _ _ (Option.some.inj z))];exact z⟩
  ·exact .inr z
 have hf:∀ b xs,Fz K H b xs->Fz K (upd H a u) b xs:=λ b xs z=>by
  rcases z with ⟨ob,z⟩ | z
  ·exact .inl ⟨ob,by rw [zr (λ y=>by rw [y,hw] at z;exact nf _ _ (Option.some.inj z))];exact z⟩
  ·exact .inr z
 have ex:Ext K μ H μ (upd H a u):=⟨λ _ _ z=>z,ht,hf,λ b ob ws z=>by rw [zr (λ y=>by rw [y,hw] at z;exact nf _ _ (Option.some.inj z))];exact z,λ b v e z=>by rw [zr (λ (y:b=a)=>z (by rw [y];exact Y0z ha))];exact e,λ _ z=>.inl z⟩;have hl:=(Y00.mp hn).1;refine ⟨⟨by rw [Y1f];exact r.len,r.inj,λ m b v e1 e2=>?_⟩,ex⟩;by_cases hmn:m=n
 ·subst hmn;rw [Y1i hl] at e2;cases e2;rw [ha] at e1;cases e1;exact q _ ex zC
 ·rw [Y13 (Ne.symm hmn)] at e2;have nb:b≠a:=λ y=>hmn (r.inj m n a (y▸e1) ha);exact (r.obj m b v e1 e2).keep ex λ _ g=>by rw [zr nb];exact g
structure ER (K:Y01)(μ:XZ)(ρ:En)(σ:St)(H:Hp):Prop where
 len:ρ.length=σ.length
 val:∀ (i:Nat) d,ρ[i]?=some (some d)->∃ v,σ[i]?=some (some v)/\Rep K μ H d v
theorem ER.mono (r:ER K μ ρ σ H)(e:Ext K μ H μ' H'):ER K μ' ρ σ H' :=
 ⟨r.len,λ i d h=>let ⟨v,a,b⟩:=r.val i d h;⟨v,a,b.mono e⟩⟩
theorem ER.set (r:ER K μ ρ σ H)(q:Rep K μ H d v)(i:Nat):ER K μ (ρ.set i (some d)) (σ.set i (some v)) H:=by
 refine ⟨by rw [Y1f,Y1f,r.len],λ j e hj=>?_⟩;by_cases hij:i=j
 ·subst hij;rw [List.getElem?_set] at hj ⊢;have hl:i<ρ.length:=by
   by_cases hl:i<ρ.length
   ·exact hl
   ·rw [if_pos rfl,if_neg hl] at hj;cases hj
  rw [if_pos rfl,if_pos hl] at hj;rw [if_pos rfl,if_pos (by rw [<- r.len];exact hl)];cases hj;exact ⟨v,rfl,q⟩
 ·rw [Y13 hij] at hj ⊢;exact r.val j e hj
noncomputable def PostE {α β:Type}(K:Y01)(cv:160)(R:List Addr->Hp->α->β->Prop)(μ:XZ)(H:Hp)(r:Res α)(Q:β->Hp->Prop)(Z:Value->Hp->Prop):Prop :=
 match r with
 | .ok d h'=>∀ μ' H' v,Ext K μ H μ' H'->HR K μ' h' H'->R μ' H' d v->Q v H'
 | .exc c h'=>False
 | .no=>False
noncomputable def zL {α β:Type}(K:Y01)(cv:160)(R:List Addr->Hp->α->β->Prop)(Z:ZK)(m:En->Hh->Res α):St->Hp->(β->Hp->Prop)->Prop :=
 λ σ H Q=>∃ μ ρ h,HR K μ h H/\ER K μ ρ σ H/\PostE K cv R μ H (m ρ h) Q (Z σ)
theorem zb {G:Prop}(f:∀ μ ρ h,HR K μ h H->ER K μ ρ σ H->PostE K cv R μ H (m ρ h) Q (Z σ)->G)(x:zL K cv R Z m σ H Q):G:=by
 obtain ⟨μ,ρ,h,hr,er,q⟩:=x;exact f μ ρ h hr er q
theorem za {f:α->Hh->Res γ}
  (hr:HR K μ h H) (er:ER K μ ρ σ H) (p:PostE K cv R' μ H ((m ρ h).bind f) Q (Z σ))
  (go:∀ a h1 μ1 H1 x,m ρ h=.ok a h1->Ext K μ H μ1 H1->HR K μ1 h1 H1->ER K μ1 ρ σ H1->R μ1 H1 a x->PostE K cv R' μ1 H1 (f a h1) Q (Z σ)->Q' x H1) :
  zL K cv R Z m σ H Q':=by
 refine ⟨μ,ρ,h,hr,er,?_⟩;cases e:m ρ h with
 | ok a h1 =>
  rw [e,bind_ok] at p;intro μ1 H1 x e1 r1 q1;refine go a h1 μ1 H1 x e e1 r1 (er.mono e1) q1 ?_;unfold PostE at p ⊢;cases e2:f a h1 with
  | ok b h2=>rw [e2] at p;exact λ μ2 H2 v e3 r3 q3=>p μ2 H2 v (e1.trans e3) r3 q3
  | exc c h2=>rw [e2] at p;exact p
  | no=>rw [e2] at p;exact p
 | exc c h1=>rw [e,bind_exc] at p;exact p
 | no=>rw [e,bind_no] at p;exact p
theorem PostE.here (p:PostE K cv R μ H (.ok d h) Q Z)(hr:HR K μ h H)(r:R μ H d v):Q v H :=
 p μ H v Ext.refl hr r
end PI
namespace PI
open PySem L2 PySem.Spec
open PyProof.Rows hiding St
section
variable {X:Cx}{pins:137}{σ:St}{H:Hp}{s:153}{μ:XZ}{h:Hh}
mutual
theorem wB (I:131):∀ {d:D}{v:V}{u:Value}{p:PyData},Rep X.K μ H d v->RelV v u->D.pd h d=some p->∃ as,Reads s.heap u p as
 | .non,_,_,_,r,q,e=>by cases r;cases q;cases e;exact ⟨_,.none⟩
 | .bl b,_,_,_,r,q,e=>by cases r;cases q;cases e;exact ⟨_,.bool b⟩
 | .int i,_,_,_,r,q,e=>by cases r;obtain ⟨t,rfl⟩:=q;cases e;exact ⟨_,.int i t⟩
 | .str x,_,_,_,r,q,e=>by cases r;obtain ⟨t,rfl⟩:=q;cases e;exact ⟨_,.str x t⟩
 | .tup ds,_,_,_,r,q,e=>by
  cases r with
  | tup hs rs =>
   cases q;unfold D.pd at e;cases e1:D.pds h ds with
   | none=>rw [e1] at e;cases e
   | some ps =>
    rw [e1] at e;cases e;obtain ⟨its,rv,⟨o,g1,g2,n,g3⟩,_⟩:=I.tuple hs;obtain ⟨as,ra⟩:=readsAll_of I rs rv e1;exact ⟨_,.tuple g1 g2 g3 (by simpa using ra)⟩
 | .loc n,_,_,_,r,q,e=>by cases e
 | .fl ds,_,_,_,r,q,e=>by
  cases r with
  | fl hs rs =>
   cases q;unfold D.pd at e;cases e1:D.pds h ds with
   | none=>rw [e1] at e;cases e
   | some ps =>
    rw [e1] at e;cases e;obtain ⟨its,rv,⟨o,n,g1,g2,_,g3⟩,_⟩:=I.list hs.sq;obtain ⟨as,ra⟩:=readsAll_of I rs rv e1;exact ⟨_,.list g1 g2 g3 (by simpa using ra)⟩
theorem readsAll_of (I:131):∀ {ds:181}{vs:193}{us:XV}{ps:List PyData},Reps X.K μ H ds vs->Vals vs us->D.pds h ds=some ps->∃ as,ReadsAll s.heap us ps as
 | [],_,_,_,r,q,e=>by cases r;cases q;cases e;exact ⟨_,.nil⟩
 | d::ds,_,_,_,r,q,e=>by
  cases r with
  | cons r1 r2 =>
   cases q with
   | cons q1 q2 =>
    unfold D.pds at e;cases e1:D.pd h d with
    | none=>rw [e1] at e;cases e
    | some p =>
     cases e2:D.pds h ds with
     | none=>rw [e1,e2] at e;cases e
     | some ps =>
      rw [e1,e2] at e;cases e;obtain ⟨as,ra⟩:=wB I r1 q1 e1;obtain ⟨bs,rb⟩:=readsAll_of I r2 q2 e2;exact ⟨_,.cons ra rb⟩
end
theorem HR.rd (hr:HR X.K μ h H){n:Nat}(e:rd h n=some ds){a:Addr}(m:μ[n]?=some a):∃ vs,SqL X.K H a vs/\Reps X.K μ H ds vs:=by
 unfold PI.rd at e;cases e1:h[n]? with
 | none=>rw [e1] at e;cases e
 | some o =>
  rw [e1] at e;have q:=hr.obj n a o m e1;cases o with
  | lst xs=>cases e;obtain ⟨vs,q1,q2⟩:=q;exact ⟨vs,SqL.of q1,q2⟩
  | dK xs=>cases e
  | fK xs=>cases e
  | dT xs=>cases e
  | obj _ _=>cases e
theorem Wb (I:131)(hr:HR X.K μ h H)(m:μ[n]?=some a)(e:((rd h n).bind λ xs=>(D.pds h xs).map PyData.list)=some p):∃ as,Reads s.heap 202 p as:=by
 cases e1:PI.rd h n with
 | none=>rw [e1] at e;cases e
 | some xs =>
  rw [e1] at e;cases e2:D.pds h xs with
  | none=>have e:(D.pds h xs).map PyData.list=some p:=e;rw [e2] at e;cases e
  | some ps =>
   have e:(D.pds h xs).map PyData.list=some p:=e;rw [e2] at e;cases e;obtain ⟨vs,hs,rs⟩:=hr.rd e1 m;obtain ⟨its,rv,⟨o,n,g1,g2,_,g3⟩,_⟩:=I.list hs;obtain ⟨as,ra⟩:=readsAll_of I rs rv e2;exact ⟨_,.list g1 g2 g3 (by simpa using ra)⟩
mutual
theorem qg (I:131)(hr:HR X.K μ h H):∀ {d:D}{v:V}{u:Value}{p:PyData},Rep X.K μ H d v->RelV v u->D.pe h d=some p->∃ as,Reads s.heap u p as
 | .non,_,_,_,r,q,e=>wB (h:=h) I r q e
 | .bl b,_,_,_,r,q,e=>wB (h:=h) I r q e
 | .int i,_,_,_,r,q,e=>wB (h:=h) I r q e
 | .str x,_,_,_,r,q,e=>wB (h:=h) I r q e
 | .fl ds,_,_,_,r,q,e=>wB I r q (by unfold D.pe at e;exact e)
 | .loc n,_,_,_,r,q,e=>by
  cases r with
  | loc m=>cases q;exact Wb I hr m (by unfold D.pe at e;exact e)
 | .tup ds,_,_,_,r,q,e=>by
  cases r with
  | tup hs rs =>
   cases q;unfold D.pe at e;cases e1:D.pes h ds with
   | none=>rw [e1] at e;cases e
   | some ps =>
    rw [e1] at e;cases e;obtain ⟨its,rv,⟨o,g1,g2,n,g3⟩,_⟩:=I.tuple hs;obtain ⟨as,ra⟩:=readsEs_of I hr rs rv e1;exact ⟨_,.tuple g1 g2 g3 (by simpa using ra)⟩
theorem readsEs_of (I:131)(hr:HR X.K μ h H):∀ {ds:181}{vs:193}{us:XV}{ps:List PyData},Reps X.K μ H ds vs->Vals vs us->D.pes h ds=some ps->∃ as,ReadsAll s.heap us ps as
 | [],_,_,_,r,q,e=>by cases r;cases q;unfold D.pes at e;cases e;exact ⟨_,.nil⟩
 | d::ds,_,_,_,r,q,e=>by
  cases r with
  | cons r1 r2 =>
   cases q with
   | cons q1 q2 =>
    unfold D.pes at e;cases e1:D.pe h d with
    | none=>rw [e1] at e;cases e
    | some p =>
     cases e2:D.pes h ds with
     | none=>rw [e1,e2] at e;cases e
     | some ps =>
      rw [e1,e2] at e;cases e;obtain ⟨as,ra⟩:=qg I hr r1 q1 e1;obtain ⟨bs,rb⟩:=readsEs_of I hr r2 q2 e2;exact ⟨_,.cons ra rb⟩
end
theorem qh (I:131)(hr:HR X.K μ h H){d:D}{p:PyData}(r:Rep X.K μ H d v)(q:RelV v u)(e:pdT h d=some p):∃ as,Reads s.heap u p as:=by
 cases d with
 | loc n =>
  cases r with
  | loc m=>cases q;exact Wb I hr m e
 | _=>exact qg I hr r q e
end
theorem wK {n:Nat}(h:n<=1000000):n<=sizeLine:=by rw [sizeLine_eq];omega
theorem Q3 {n:Nat}(h:n<1000000):n<sizeLine:=by rw [sizeLine_eq];omega
section
variable {X:Cx}{cv:160}
noncomputable def r2 (K:Y01)(cv:160)(f:D->D->Hh->Res D):R2:=λ x y H Q=>∃ μ h a b Z,HR K μ h H/\Rep K μ H a x/\Rep K μ H b y/\PostE K cv (Rep K) μ H (f a b h) Q Z
noncomputable def r1 (K:Y01)(cv:160)(f:D->Hh->Res D):V->Hp->VK->Prop:=λ x H Q=>∃ μ h a Z,HR K μ h H/\Rep K μ H a x/\PostE K cv (Rep K) μ H (f a h) Q Z
theorem z8j {a b:Int}(ha:Builtin.Int.intBits a<=2 ^ 21)(hb:Builtin.Int.intBits b<=2 ^ 21):IntMulOk a b:=by
 have e:(2:Nat) ^ 21=2097152:=by decide
 have h:Builtin.Int.intTooBig (Builtin.Int.intBits a+Builtin.Int.intBits b)=false:=by
  unfold Builtin.Int.intTooBig bitsLine;exact decide_eq_false 128
 unfold IntMulOk;rw [h];simp
theorem z4k:OpR X (binaryOp .Mult) (rI (λ i j=>Builtin.Int.intBits i<=2 ^ 21/\Builtin.Int.intBits j<=2 ^ 21) λ i j=>.int (i*j)):=opI λ _ _ _ _ _ _ _ hc q=>mul_int q (z8j hc.1 hc.2)
theorem z4l:OpR X (binaryOp .LShift) (rI (λ i j=>Builtin.Int.intBits i<=2 ^ 20/\0<=j/\j<=1000000) λ i j=>.int (i*2 ^ j.toNat)):=opI λ _ _ _ _ _ _ _ hc q=>lshift_int hc.2.1 (by have:=hc.1;have:=hc.2.2;omega) q
theorem z8k {x:Str}(h:0<=j/\j<=1000/\x.length<=1000):MulOk x j:=by
 obtain ⟨h0,h1,h2⟩:=h;refine ⟨by simp;omega,λ a b c=>?_,λ a b=>?_⟩
 ·have hj:1<=j:=by omega
  have:(2 ^ 63-1)/1000<=(2 ^ 63-1:Int)/j:=Int.le_ediv_of_mul_le 128 (by
   have:((2 ^ 63-1)/1000:Int)*j<=((2 ^ 63-1)/1000)*1000:=Y30 h1 127
   have e:(((2 ^ 63-1)/1000:Int)*1000)<=2 ^ 63-1:=by decide
   omega)
  have e:(1000:Int)<(2 ^ 63-1)/1000:=by decide
  omega
 ·have hm:x.length*j.toNat<=1000*1000:=Y3t h2 128;unfold PySem.Builtin.Str.tooLong;exact decide_eq_false (by rw [sizeLine_eq];omega)
theorem z4m:OpR X (binaryOp .Mult) (λ x y H Q=>∃ z j,x=.str z/\y=.int j/\(0<=j/\j<=1000/\z.length<=1000)/\Q (.str (Txt.mul z j)) H):=by
 intro pins s σ H x y v u Q I rx ry h;obtain ⟨z,j,rfl,rfl,hc,q⟩:=h;obtain ⟨t,rfl⟩:=rx;obtain ⟨t',rfl⟩:=ry;exact SB.mul (z8k hc) λ t' k=>⟨.str _,H,I.tok _,146,q⟩
theorem Yq (t b:Addr)(xs ys:Array Value)(n m:Nat)(d1 d2:Option Addr)(s1 s2:211)(h0:xs.isEmpty=true) :
  Meets (Builtin.«tuple.__add__» ⟨[.ref t,.ref b],[]⟩) (λ _ R s =>
   s.heap.get? t=some ⟨.type "tuple",d1,.seq xs n,s1⟩ /\
   s.heap.get? b=some ⟨.type "tuple",d2,.seq ys m,s2⟩ /\
   R (.ok (.ret (Value.ref b))) s) :=
 .of_wp λ prog w A R s h=>by
  obtain ⟨hp,g,d,tk,os⟩:=s;obtain ⟨hl,hb,h⟩:=h;have f1:=AutoSeq1.idx_int;have f2:=AutoSeq1.sub_list_tuple;have f3:=AutoSeq1.sub_tuple_list;have f4:=AutoSeq1.sub_tuple_tuple;have f5:=AutoSeq1.sub_list_list
  wp_walk using AutoSeq1.wpAny_loadPart' hl,AutoSeq1.wpAny_loadPart' hb
  exact ⟨_,rfl,h⟩
theorem z4n {E:XU}{vs ws:XV}{Q:XU}(ht:IsTup s.heap t vs.toArray)(hb:IsTup s.heap b ws.toArray)(hv:vs=[])(h1:Q (.ref b) s) :
  wpAny 139 A (binaryOp .Add (.ref t) (.ref b)) Q E s:=by
 obtain ⟨⟨cls,dd,data,sl⟩,ho,hc,n,hd⟩:=id ht;obtain ⟨⟨cls2,dd2,data2,sl2⟩,ho2,hc2,n2,hd2⟩:=id hb;simp only at hc hd hc2 hd2;subst hc hd hc2 hd2;exact concat_meets ⟨_,ho,rfl⟩ ⟨_,ho2,rfl⟩ noFill_tuple_add seq_tuple_add Y3j Y3e (Y3a _ _) (Yq t b vs.toArray ws.toArray n n2 dd dd2 sl sl2 (by simp [hv])) ⟨ho,ho2,h1⟩
theorem Reps.rep {K:Y01}{vs:193}(r:274):∀ k:Nat,Reps K μ H (List.replicate k ds).flatten (List.replicate k vs).flatten
 | 0=>.nil
 | k+1=>by rw [Y14,Y14,Y2b,Y2b];exact r.append (Reps.rep r k)
section
variable {K:Y01}{μ:XZ}{H:Hp}{Q:VK}{Z:Value->Hp->Prop}
theorem jA {c:Prop}[Decidable c]{G:Prop}(p:PostE K cv (Rep K) μ H (if c then r else .no) Q Z)(f:c->PostE K cv (Rep K) μ H r Q Z->G):G:=by
 by_cases hc:c
 ·rw [if_pos hc] at p;exact f hc p
 ·rw [if_neg hc] at p;exact p.elim
theorem jI {a b:D}{G:Prop}(ra:Rep K μ H a x)(rb:Rep K μ H b y)(p:PostE K cv (Rep K) μ H (i2 a b g) Q Z)(f:∀ i j,x=.int i->y=.int j->PostE K cv (Rep K) μ H (g i j) Q Z->G):G:=by
 cases a with
 | int i =>
  cases b with
  | int j=>cases ra;cases rb;exact f i j rfl rfl p
  | _=>exact p.elim
 | _=>exact p.elim
theorem Yr {neg:Bool}{G:Prop}(p:PostE K cv (Rep K) μ H (eqR neg u v h) Q Z)(f:∀ pu pv,u=some pu->v=some pv->pu.canLay0=true->pv.canLay0=true->pu.depth<=60->PostE K cv (Rep K) μ H (.ok (.bl (if neg then !PyData.eqv pu pv else PyData.eqv pu pv)) h) Q Z->G):G:=by
 cases u with
 | none=>exact p.elim
 | some pu =>
  cases v with
  | none=>exact p.elim
  | some pv=>exact jA p λ c q=>f pu pv rfl rfl c.1 c.2.1 c.2.2 q
end
theorem z4o:OpR X (binaryOp .Add) (r2 X.K cv JB):=by
 intro pins s σ H x y v u Q I rx ry hh;obtain ⟨μ,h,a,b,Z,hr,ra,rb,p⟩:=hh;cases a with
 | int i =>
  cases b with
  | int j=>cases ra;cases rb;exact z7n pins s σ H _ _ v u Q I rx ry ⟨_,_,rfl,rfl,p.here hr (.int _)⟩
  | _=>exact p.elim
 | str i =>
  cases b with
  | str j=>cases ra;cases rb;exact jA p λ c p=>Uh pins s σ H _ _ v u Q I rx ry ⟨_,_,rfl,rfl,wK c,p.here hr (.str _)⟩
  | _=>exact p.elim
 | loc n =>
  cases b with
  | loc m =>
   cases ra with
   | loc ma =>
    cases rb with
    | loc mb =>
     have p:PostE X.K cv 158 μ H (match h[n]?,h[m]? with
      | some (.lst xs),some (.lst ys)=>if xs.length+ys.length<=1000000 then .ok 136 (h++[.lst (xs++ys)]) else .no
      | _,_=>.no) Q Z:=p
     cases e1:h[n]? with
     | none=>rw [e1] at p;exact p.elim
     | some o1 =>
      cases e2:h[m]? with
      | none=>rw [e1,e2] at p;cases o1<;>exact p.elim
      | some o2 =>
       rw [e1,e2] at p;cases o1 with
       | dK k=>exact p.elim
       | fK k=>exact p.elim
       | dT k=>exact p.elim
       | obj _ _=>exact p.elim
       | lst xs =>
        cases o2 with
        | dK k=>exact p.elim
        | fK k=>exact p.elim
        | dT k=>exact p.elim
        | obj _ _=>exact p.elim
        | lst ys =>
         refine jA p λ c p=>?_;obtain ⟨va,ha,qa⟩:=hr.obj n _ _ ma e1;obtain ⟨vb,hb,qb⟩:=hr.obj m _ _ mb e2;refine z84 pins s σ H _ _ v u Q I rx ry ⟨_,_,_,_,rfl,rfl,ha,hb,by rw [<- qa.length,<- qb.length];exact wK c,λ b hb=>?_⟩;have nb:b∉μ:=hr.fresh hb;refine p _ _ _ ((zt hb).add hb) (hr.alloc hb nb λ μ' g=>⟨_,zC,((qa.append qb).mono (zt hb)).mono' g⟩) (.loc ?_);rw [<- hr.len,Y0q 175,Y1z];rfl
  | _=>exact p.elim
 | tup ds =>
  cases b with
  | tup es =>
   refine jA p λ c p=>?_;cases ra with
   | @tup _ vs a h1 r1 =>
    cases rb with
    | @tup _ ws b h2 r2 =>
     by_cases hv:vs=[]
     ·subst hv;cases r1;cases rx;cases ry;obtain ⟨its,q1,p1,_⟩:=I.tuple h1;obtain ⟨its2,q2,p2,_⟩:=I.tuple h2;cases q1;exact z4n p1 p2 rfl ⟨.ref b,H,I,rfl,p.here hr (.tup h2 r2)⟩
     ·refine z3s pins s σ H _ _ v u Q I rx ry ⟨a,b,vs,ws,rfl,rfl,h1,h2,hv,by rw [<- r1.length,<- r2.length];exact wK c,λ hz=>?_,λ _ l hl=>?_⟩
      ·subst hz;cases r2;rw [Y0v] at p;exact p.here hr (.tup h1 r1)
      ·exact p μ _ _ (zt hl) (hr.tup hl) (.tup (SqT.of zC) ((r1.append r2).mono (zt hl)))
  | _=>exact p.elim
 | _=>exact p.elim
theorem z4p:OpR X (binaryOp .Mult) (r2 X.K cv z4h):=by
 intro pins s σ H x y v u Q I rx ry hh;obtain ⟨μ,h,a,b,Z,hr,ra,rb,p⟩:=hh;cases b with
 | int j =>
  cases rb;cases a with
  | int i=>cases ra;exact jA p λ c p=>z4k pins s σ H _ _ v u Q I rx ry ⟨_,_,rfl,rfl,⟨of_decide_eq_true c.1,of_decide_eq_true c.2⟩,p.here hr (.int _)⟩
  | str z=>cases ra;exact jA p λ c p=>z4m pins s σ H _ _ v u Q I rx ry ⟨_,_,rfl,rfl,c,p.here hr (.str _)⟩
  | loc n =>
   cases ra with
   | loc ma =>
    have p:PostE X.K cv 158 μ H (match h[n]? with
     | some (.lst xs)=>if 0<=j/\j<=1000/\xs.length<=1000 then .ok 136 (h++[.lst (List.replicate j.toNat xs).flatten]) else .no
     | _=>.no) Q Z:=p
    cases e1:h[n]? with
    | none=>rw [e1] at p;exact p.elim
    | some o1 =>
     rw [e1] at p;cases o1 with
     | dK k=>exact p.elim
     | fK k=>exact p.elim
     | dT k=>exact p.elim
     | obj _ _=>exact p.elim
     | lst xs =>
      refine jA p λ c p=>?_;obtain ⟨va,ha,qa⟩:=hr.obj n _ _ ma e1;refine z85 pins s σ H _ _ v u Q I rx ry ⟨_,_,va,rfl,rfl,ha,by omega,by omega,?_,λ b hb=>?_⟩
      ·have hm:va.length*j.toNat<=1000*1000:=Y3t (by rw [<- qa.length];exact c.2.2) 128;rw [sizeLine_eq];omega
      ·have nb:b∉μ:=hr.fresh hb;refine p _ _ _ ((zt hb).add hb) (hr.alloc hb nb λ μ' g=>⟨_,zC,((qa.rep j.toNat).mono (zt hb)).mono' g⟩) (.loc ?_);rw [<- hr.len,Y0q 175,Y1z];rfl
  | _=>exact p.elim
 | _=>exact p.elim
theorem z8l (op:Operator):OpR X (binaryOp op) (r2 X.K cv (jE op)):=by
 cases op with
 | Add=>exact z4o
 | Mult=>exact z4p
 | Sub =>
  intro pins s σ H x y v u Q I rx ry q0;obtain ⟨μ,h,a,b,Z,hr,ra,rb,p⟩:=q0;exact jI ra rb p λ i j ex ey p=>z7o pins s σ H _ _ v u Q I rx ry ⟨i,j,ex,ey,p.here hr (.int _)⟩
 | FloorDiv =>
  intro pins s σ H x y v u Q I rx ry q0;obtain ⟨μ,h,a,b,Z,hr,ra,rb,p⟩:=q0;exact jI ra rb p λ i j ex ey p=>jA p λ c p=>BQ pins s σ H _ _ v u Q I rx ry ⟨i,j,ex,ey,c,p.here hr (.int _)⟩
 | Mod =>
  intro pins s σ H x y v u Q I rx ry q0;obtain ⟨μ,h,a,b,Z,hr,ra,rb,p⟩:=q0;exact jI ra rb p λ i j ex ey p=>jA p λ c p=>z7p pins s σ H _ _ v u Q I rx ry ⟨i,j,ex,ey,c,p.here hr (.int _)⟩
 | LShift =>
  intro pins s σ H x y v u Q I rx ry q0;obtain ⟨μ,h,a,b,Z,hr,ra,rb,p⟩:=q0;exact jI ra rb p λ i j ex ey p=>jA p λ c p=>z4l pins s σ H _ _ v u Q I rx ry ⟨i,j,ex,ey,⟨of_decide_eq_true c.1,c.2⟩,p.here hr (.int _)⟩
 | RShift =>
  intro pins s σ H x y v u Q I rx ry q0;obtain ⟨μ,h,a,b,Z,hr,ra,rb,p⟩:=q0;exact jI ra rb p λ i j ex ey p=>jA p λ c p=>z7q pins s σ H _ _ v u Q I rx ry ⟨i,j,ex,ey,c,p.here hr (.int _)⟩
 | BitAnd =>
  intro pins s σ H x y v u Q I rx ry q0;obtain ⟨μ,h,a,b,Z,hr,ra,rb,p⟩:=q0;exact jI ra rb p λ i j ex ey p=>z7r pins s σ H _ _ v u Q I rx ry ⟨i,j,ex,ey,p.here hr (.int _)⟩
 | BitOr =>
  intro pins s σ H x y v u Q I rx ry q0;obtain ⟨μ,h,a,b,Z,hr,ra,rb,p⟩:=q0;exact jI ra rb p λ i j ex ey p=>zav pins s σ H _ _ v u Q I rx ry ⟨i,j,ex,ey,p.here hr (.int _)⟩
 | _ =>
  intro pins s σ H x y v u Q I rx ry q0;obtain ⟨μ,h,a,b,Z,hr,ra,rb,p⟩:=q0;exact p.elim
theorem Ys {K:Y01}{v:V}(r:Rep K μ H d v)(f:W9 d=true):v=vOf d/\jN v=true:=by
 cases r with
 | non=>exact 210
 | bl b=>exact 210
 | int i=>exact 210
 | str x=>exact 210
 | _=>cases f
theorem Wc {K:Y01}{H:Hp}:∀ {ds:181}{vs:193},Reps K μ H ds vs->ds.all W9=true->vs=ds.map vOf/\vs.all jN=true
 | _,_,.nil,_=>210
 | _,_,.cons r t,f=>by
  rw [Y3g,Y0l] at f;obtain ⟨rfl,f1⟩:=Ys r f.1;obtain ⟨rfl,f2⟩:=Wc t f.2;exact ⟨rfl,by rw [Y3g,f1,f2];rfl⟩
theorem zdw (x:D)(ds:181):inV (vOf x) (ds.map vOf)=ds.any λ y=>eqV (vOf y) (vOf x):=by unfold inV;rw [List.any_map];rfl
theorem ZR {K:Y01}{H:Hp}:∀ {ds:181}{vs:193},Reps K μ H ds vs->ds.all z6h=true->(∀ v∈vs,jN v=true\/∃ a ts,v=.ref a/\SqT K H a ts)/\ds.any isN=vs.any ZC
 | _,_,.nil,_=>⟨λ v hv=>(nomatch hv),rfl⟩
 | d::ds,v::vs,.cons r t,f=>by
  rw [Y3g,Y0l] at f;obtain ⟨f1,f2⟩:=ZR t f.2;have g:(jN v=true\/∃ a ts,v=.ref a/\SqT K H a ts)/\isN d=ZC v:=by
   have f0:=f.1;cases r with
   | tup h1 h2=>exact ⟨.inr ⟨_,_,rfl,h1⟩,rfl⟩
   | non=>exact ⟨.inl rfl,rfl⟩
   | bl b=>exact ⟨.inl rfl,rfl⟩
   | int i=>exact ⟨.inl rfl,rfl⟩
   | str x=>exact ⟨.inl rfl,rfl⟩
   | _=>exact absurd (show false=true from f0) Y0x
  exact ⟨λ w hw=>by rcases Y08.mp hw with rfl | hw;exact g.1;exact f1 w hw,by rw [Y0p,Y0p,g.2,f2]⟩
theorem Q4 {s:153}{h:Hh}(op:CmpOp)(hop:OpR X (compareOp op) (rIn X.K neg))(hopN:neg=false->OpR X (compareOp op) (z8b X.K))
  (I:131) (rx:RelV x v) (ry:RelV (.ref p') u) (hr:HR X.K μ h H) (ra:Rep X.K μ H a x) (sq:SqL X.K H p' vs\/SqT X.K H p' vs) (rs:Reps X.K μ H ds vs) (p:PostE X.K cv 158 μ H (UE neg a ds h) Q Z') :
  wpAny 132 X.A (compareOp op v u) 231 X.xe s:=by
 unfold UE at p;split at p
 ·rename_i c;obtain ⟨rfl,f1⟩:=Ys ra c.1;obtain ⟨rfl,f2⟩:=Wc rs c.2;refine hop pins s σ H _ _ v u Q I rx ry ⟨p',_,rfl,sq,f1,f2,?_⟩;rw [zdw];exact p.here hr 262
 ·split at p
  ·rename_i c;cases ra<;>first | (exact absurd c.2.1 Y0x) | skip
   obtain ⟨f1,f2⟩:=ZR rs c.2.2;refine hopN c.1 pins s σ H _ _ v u Q I rx ry ⟨p',_,rfl,rfl,sq,f1,?_⟩;rw [<- f2];exact p.here hr 262
  ·exact p.elim
theorem yC {K:Y01}{k:Key}(r:Rep K μ H d v)(e:jG d=some k):v=kV k:=by
 unfold jG at e;cases r<;>first | (cases e;rfl) | cases e
theorem qi {K:Y01}{H:Hp}:∀ {ds:181}{vs:193}{ks:List Key},Reps K μ H ds vs->qW ds=some ks->vs=ks.map kV
 | _,_,ks,.nil,e=>by cases e;rfl
 | _,_,ks,@Reps.cons _ _ _ d v ds vs h r,e=>by
  unfold qW at e;cases e1:jG d with
  | none=>rw [e1] at e;cases e
  | some k =>
   cases e2:qW ds with
   | none=>rw [e1,e2] at e;cases e
   | some l =>
    rw [e1,e2] at e;cases e;rw [yC h e1,qi r e2];rfl
theorem yD {K:Y01}{ks:List Key}(r:Rep K μ H d v)(e:yV d=some ks):∃ b,v=.ref b/\SqT K H b (ks.map kV):=by
 cases r with
 | tup h1 h2=>have:=qi h2 e;subst this;exact ⟨_,rfl,h1⟩
 | _=>cases e
theorem RepKs.none [DecidableEq κ]{K:Y01}:∀ {ds:List (κ×D)}{vs:List (κ×V)},RepKs K μ H ds vs->(zK ds k).isSome=(w6 vs k).isSome
 | _,_,.nil=>rfl
 | _,_,.cons (k:=k') (v:=v') h r=>by
  have ih:=RepKs.none (k:=k) r;by_cases hk:k'=k
  ·rw [wV hk];unfold zK;rw [Y25 (by simpa using hk)];rfl
  ·rw [wW hk,<- ih];unfold zK;rw [Y1j (by simpa using hk)]
theorem z05 (hu:X.A.units+1<cLine)(neg:Bool):OpR X (compareOp (if neg then .NotIn else .In)) (r2 X.K cv (inD neg)):=by
 intro pins s σ H x y v u Q I rx ry hh;obtain ⟨μ,h,a,b,Z',hr,ra,rb,p⟩:=hh;have hop:OpR X (compareOp (if neg then .NotIn else .In)) (rIn X.K neg):=by cases neg with | true=>exact WO | false=>exact O8
 have hopN:neg=false->OpR X (compareOp (if neg then .NotIn else .In)) (z8b X.K):=λ z=>by subst z;exact Uy hu
 unfold inD at p;cases rb with
 | tup h1 h2=>exact Q4 _ hop hopN I rx ry hr ra (.inr h1) h2 p
 | fl h1 h2=>exact Q4 _ hop hopN I rx ry hr ra (.inl h1.sq) h2 p
 | @loc nn b' m =>
  cases e1:h[nn]? with
  | none=>simp only [e1] at p;exact p.elim
  | some o =>
   have q:=hr.obj nn b' o m e1;cases o with
   | lst ds =>
    simp only [e1] at p;obtain ⟨vs,q1,q2⟩:=q;exact Q4 _ hop hopN I rx ry hr ra (.inl (SqL.of q1)) q2 p
   | obj _ _=>simp only [e1] at p;exact p.elim
   | dK kvs =>
    simp only [e1] at p;obtain ⟨vs,q1,q2⟩:=q;cases e2:jG a with
    | none =>
     simp only [e2] at p;cases kvs with
     | cons _ _=>exact p.elim
     | nil =>
      cases q2;cases e3:yV a with
      | none=>simp only [e3] at p;exact p.elim
      | some k =>
       simp only [e3] at p;obtain ⟨c,rfl,hc⟩:=yD ra e3;cases rx;cases ry;have p':=p.here hr 262;cases neg with
       | true=>exact VC hu I (.inr ⟨q1,rfl⟩) hc λ s' I'=>272
       | false=>exact BR hu I (.inr ⟨q1,rfl⟩) hc λ s' I'=>272
    | some k =>
     simp only [e2] at p;have ey:=yC ra e2;subst ey;cases ry;have p':=p.here hr 262;rw [q2.none] at p';cases neg with
     | true=>exact Vz hu I (DGet.k q1) rx λ s' I'=>272
     | false=>exact zb2 hu I (DGet.k q1) rx λ s' I'=>272
   | fK kvs =>
    simp only [e1] at p;obtain ⟨ob,vs,q1,q2⟩:=q;cases e2:jG a with
    | none=>simp only [e2] at p;exact p.elim
    | some k =>
     simp only [e2] at p;have ey:=yC ra e2;subst ey;cases ry;have p':=p.here hr 262;rw [q2.none] at p';cases neg with
     | true=>exact Vz hu I (DGet.fk (.inr ⟨ob,q1⟩)) rx λ s' I'=>272
     | false=>exact zb2 hu I (DGet.fk (.inr ⟨ob,q1⟩)) rx λ s' I'=>272
   | dT kvs =>
    simp only [e1] at p;obtain ⟨vs,q1,q2⟩:=q;cases e2:yV a with
    | none=>simp only [e2] at p;exact p.elim
    | some k =>
     simp only [e2] at p;obtain ⟨c,rfl,hc⟩:=yD ra e2;cases rx;cases ry;have p':=p.here hr 262;rw [q2.none] at p';cases neg with
     | true=>exact VC hu I (.inl q1) hc λ s' I'=>272
     | false=>exact BR hu I (.inl q1) hc λ s' I'=>272
 | _=>exact p.elim
theorem RepKs.val [DecidableEq κ]{K:Y01}{μ:XZ}:∀ {ds:List (κ×D)}{vs:List (κ×V)},RepKs K μ H ds vs->zK ds k=some d->∃ v,w6 vs k=some v/\Rep K μ H d v
 | _,_,.nil,e=>by unfold zK at e;simp at e
 | _,_,.cons (k:=k') h r,e=>by
  by_cases hk:k'=k
  ·rw [wV hk];unfold zK at e;rw [Y25 (by simpa using hk)] at e;cases e;exact ⟨_,rfl,h⟩
  ·rw [wW hk];unfold zK at e;rw [Y1j (by simpa using hk)] at e;exact RepKs.val r e
theorem Os {vs:173}{ws:List (Key×Value)}(r:KV vs ws)(k:Key):RelO (w6 vs k) (valueAt ws k):=by
 unfold w6 valueAt
 induction r with
 | nil=>exact trivial
 | @cons p q vs ws h _ ih =>
  obtain ⟨h1,h2⟩:=h;by_cases z:p.1=k
  ·rw [Y25 (by simpa using z),Y25 (by rw [<- h1];simpa using z)];exact h2
  ·rw [Y1j (by simpa using z),Y1j (by rw [<- h1];simpa using z)];exact ih
theorem z06 (I:131)(hr:HR X.K μ h H){n:Nat}{ks:157}(m:μ[n]?=some a)(e:yx h n=some ks):293=false/\∃ vs ws,RepKs X.K μ H ks vs/\KV vs ws/\s.heap.DictOf (zB X.prog X.w) a ws:=by
 unfold yx at e;cases e1:h[n]? with
 | none=>rw [e1] at e;cases e
 | some o =>
  have q:=hr.obj n a o m e1;rw [e1] at e;cases o with
  | dK kvs =>
   cases e;obtain ⟨vs,q1,q2⟩:=q;obtain ⟨_,y,ws,r,d⟩:=I.hok a _ q1;exact ⟨y,vs,ws,q2,r,d⟩
  | fK kvs =>
   cases e;obtain ⟨ob,vs,q1,q2⟩:=q;obtain ⟨_,_,y,ws,r,d⟩:=I.hok a _ q1;exact ⟨y,vs,ws,q2,r,d⟩
  | lst _=>cases e
  | dT _=>cases e
  | obj _ _=>cases e
theorem VJ (I:131)(hr:HR X.K μ h H)(hu:X.A.units+66<cLine){vb:173}{wb:List (Key×Value)}(rb:RepKs X.K μ H kb vb)(qb:KV vb wb):∀ {ka:157}{va:173}{wa:List (Key×Value)}{r:Bool},RepKs X.K μ H ka va->KV va wa->qX h kb ka=some r->PySem.W.KeqHits X.A.in1 s wb wa r
 | [],_,_,r,ra,qa,e=>by
  cases ra;cases qa;cases e;exact .nil
 | q::ka,_,_,r,ra,qa,e=>by
  cases ra with
  | @cons k d v _ vs h1 h2 =>
   cases qa with
   | @cons _ w _ ws g1 g2 =>
    obtain ⟨ek,ew⟩:=g1;obtain ⟨k',y⟩:=w;have ek:=ek;subst ek;rw [qX] at e;have fp:=Os qb k;cases e1:zK kb k with
    | none =>
     simp only [e1] at e;cases e
     have:=rb.none (k:=k)
     rw [e1] at this;have z:w6 vb k=none:=by
      cases z:w6 vb k with
      | none=>rfl
      | some x=>rw [z] at this;cases this
     rw [z] at fp;refine .miss ?_;cases z2:valueAt wb k with
     | none=>rfl
     | some x=>rw [z2] at fp;exact fp.elim
    | some u =>
     simp only [e1] at e;obtain ⟨x,e4,e5⟩:=rb.val e1;rw [e4] at fp;obtain ⟨yy,z2,fp'⟩:∃ yy,valueAt wb k=some yy/\RelV x yy:=by
      cases z2:valueAt wb k with
      | none=>rw [z2] at fp;exact fp.elim
      | some x'=>rw [z2] at fp;exact ⟨x',rfl,fp⟩
     cases g1:D.pe h d with
     | none=>simp only [g1] at e;cases e
     | some p =>
      cases g3:D.pe h u with
      | none=>simp only [g1,g3] at e;cases e
      | some t =>
       cases g4:qX h kb ka with
       | none=>simp only [g1,g3,g4] at e;cases e
       | some b =>
        simp only [g1,g3,g4] at e;split at e
        ·rename_i hs;rw [Y0l] at hs;cases e;obtain ⟨as,r1⟩:=qg I hr h1 ew g1;obtain ⟨bs,r2⟩:=qg I hr e5 fp' g3;exact .hit z2 (PySem.W.keq_at r1 r2 hs.1 hs.2 (by show X.A.units+1+64<_;omega)) (VJ I hr hu rb qb h2 g2 g4)
        ·cases e
theorem Yt {κ:Type}{K:Y01}{H:Hp}:∀ {ds:List (κ×D)}{vs:List (κ×V)},RepKs K μ H ds vs->∀ {i:Nat}{k:κ}{v:V},vs[i]?=some (k,v)->∃ d,ds[i]?=some (k,d)/\Rep K μ H d v
 | _,_,.nil,i,k,v,e=>by simp at e
 | _,_,.cons h r,0,k,v,e=>by simp at e;obtain ⟨rfl,rfl⟩:=e;exact ⟨_,rfl,h⟩
 | _,_,.cons h r,i+1,k,v,e=>by
  obtain ⟨d,e1,q⟩:=Yt r 291;exact ⟨d,by simpa using e1,q⟩
theorem Ot {α β:Type}{R:α->β->Prop}{xs:List α}{ys:List β}(p:Paired R xs ys):∀ {i:Nat}{y:β},ys[i]?=some y->∃ x,xs[i]?=some x/\R x y:=by
 induction p with
 | nil=>intro i y e;simp at e
 | cons r _ ih =>
  intro i y e;cases i with
  | zero=>simp at e;subst e;exact ⟨_,rfl,r⟩
  | succ i=>exact ih 291
theorem z07 (hu:X.A.units+66<cLine){pins:137}(I:131)(hr:HR X.K μ h H)(ma:μ[n]?=some a)(mb:μ[m]?=some b)(p:PostE X.K cv 158 μ H (z00 neg n m h) Q Z) :
  wpAny 132 X.A (compareOp 295 202 (.ref b)) (λ v s1=>∃ x H',Inv X pins σ H' s1/\RelV x v/\Q x H') X.xe s:=by
 unfold z00 at p;cases g1:h[n]? with
 | none=>simp only [g1] at p;exact p.elim
 | some o1 =>
  have r1:=hr.obj n a o1 ma g1;cases o1 with
  | dT ka =>
   simp only [g1] at p;cases g2:h[m]? with
   | none=>simp only [g2] at p;exact p.elim
   | some o2 =>
    have r2:=hr.obj m b o2 mb g2;cases o2 with
    | dT kb =>
     simp only [g2] at p;by_cases c:neg=false/\ka.length=kb.length/\VH kb ka=true
     ·rw [if_pos c] at p;obtain ⟨rfl,c2,c3⟩:=c;obtain ⟨va,q1,q2⟩:=r1;obtain ⟨vb,q3,q4⟩:=r2;obtain ⟨_,y1,xa,ta,da⟩:=Zw I.hok (.inl q1);obtain ⟨_,y2,xb,tbb,db⟩:=Zw I.hok (.inl q3);have la:xa.length=xb.length:=by rw [<- j2 ta,<- j2 tbb,<- q2.length,<- q4.length,c2]
      refine zb9 (knd:=tupleKind (zB X.prog X.w)) (by show X.A.units+1<_;omega) y1 y2 da db la 128 (λ i k pa v e=>?_) ⟨.bl true,H,I,rfl,p.here hr 262⟩;obtain ⟨⟨k',vv⟩,e1,e2⟩:=Ot ta e;have ek:k'=k:=e2.1;subst ek;obtain ⟨d,e3,rd⟩:=Yt q2 e1;have c4:=Y17.mp c3 _ (Y0z e3);cases e5:zK kb k' with
      | none=>simp only [e5] at c4;cases c4
      | some d' =>
       simp only [e5] at c4;obtain ⟨w,e6,rw'⟩:=q4.val e5;have e7:=tbb.val k';rw [e6] at e7;obtain ⟨u,e8,e9⟩:=RelO.some_of e7;cases d' with
       | int i' =>
        cases d with
        | int j' =>
         have ij:i'=j':=by simpa using c4
         subst ij;cases rd;cases rw';obtain ⟨t1,rfl⟩:=e2.2.2;obtain ⟨t2,rfl⟩:=e9;obtain ⟨⟨q,y⟩,e10,e11⟩:=Y1r.mp e8;have e11:=e11;subst e11;exact ⟨q,_,e10,by have:=SeqAt.EqAt.int_int (A:=X.A.in1) (s:=s) i' t1 i' t2;rwa [beq_self_eq_true] at this⟩
        | _=>cases c4
       | _=>cases c4
     ·rw [if_neg c] at p;exact p.elim
    | _=>simp only [g2] at p;exact p.elim
  | _=>simp only [g1] at p;exact p.elim
theorem z08 (hu:X.A.units+66<cLine)(neg:Bool):OpR X (compareOp 295) (r2 X.K cv (Z8 neg)):=by
 intro pins s σ H x y v u Q I rx ry hh;obtain ⟨μ,h,a,b,Z,hr,ra,rb,p⟩:=hh;unfold Z8 at p;cases ra with
 | @loc n a' ma =>
  cases rb with
  | @loc m b' mb =>
   cases rx;cases ry;cases e1:yx h n with
   | none=>simp only [e1] at p;exact z07 hu I hr ma mb p
   | some ka =>
    cases e2:yx h m with
    | none=>simp only [e1,e2] at p;exact z07 hu I hr ma mb p
    | some kb =>
     simp only [e1,e2] at p;obtain ⟨y1,va,wa,q1,q2,q3⟩:=z06 I hr ma e1;obtain ⟨y2,vb,wb,g1,g2,g3⟩:=z06 I hr mb e2;have la:=q1.length.trans (j2 q2);have lb:=g1.length.trans (j2 g2);by_cases z:ka.length=kb.length
     ·rw [if_pos z] at p;cases e3:qX h kb ka with
      | none=>simp only [e3] at p;exact p.elim
      | some r =>
       simp only [e3] at p;have hk:=VJ I hr hu g1 g2 q1 q2 e3;have el:(wa.length==wb.length&&r)=r:=by rw [<- la,<- lb,z,beq_self_eq_true,Bool.true_and]
       cases neg with
       | true=>exact PySem.W.keq_ne y1 y2 q3 g3 128 (λ _=>hk) 248
       | false=>exact PySem.W.keq_eq y1 y2 q3 g3 128 (λ _=>hk) 248
     ·rw [if_neg z] at p;have el:(wa.length==wb.length&&true)=false:=by rw [<- la,<- lb,beq_eq_false_iff_ne.mpr z];rfl
      have nk:wa.length=wb.length->PySem.W.KeqHits X.A.in1 s wb wa true:=λ w=>absurd (la.trans (w.trans lb.symm)) z;cases neg with
      | true=>exact PySem.W.keq_ne y1 y2 q3 g3 128 nk 248
      | false=>exact PySem.W.keq_eq y1 y2 q3 g3 128 nk 248
  | _=>exact p.elim
 | _=>exact p.elim
theorem z09 (hu:X.A.units+64<cLine)(op:CmpOp):OpR X (compareOp op) (r2 X.K cv (jv op)):=by
 intro pins s σ H x y v u Q I rx ry hh;obtain ⟨μ,h,a,b,Z,hr,ra,rb,p⟩:=hh;cases op with
 | Lt=>exact jI ra rb p λ i j ex ey p=>zaw pins s σ H _ _ v u Q I rx ry ⟨i,j,ex,ey,p.here hr 262⟩
 | LtE=>exact p.elim
 | Gt=>exact jI ra rb p λ i j ex ey p=>zax pins s σ H _ _ v u Q I rx ry ⟨i,j,ex,ey,p.here hr 262⟩
 | GtE=>exact jI ra rb p λ i j ex ey p=>zay pins s σ H _ _ v u Q I rx ry ⟨i,j,ex,ey,p.here hr 262⟩
 | Eq =>
  refine Yr p λ pu pv e1 e2 c1 c2 c3 p=>?_;obtain ⟨as,q1⟩:=qh I hr ra rx e1;obtain ⟨bs,q2⟩:=qh I hr rb ry e2;exact SeqAt.compareEq_reads q1 q2 c1 c2 (by have:=Nat.min_le_left pu.depth pv.depth;omega) ⟨.bl _,H,I,rfl,p.here hr 262⟩
 | NotEq =>
  refine Yr p λ pu pv e1 e2 c1 c2 c3 p=>?_;obtain ⟨as,q1⟩:=qh I hr ra rx e1;obtain ⟨bs,q2⟩:=qh I hr rb ry e2;exact SeqAt.compareNe_reads q1 q2 c1 c2 (by have:=Nat.min_le_left pu.depth pv.depth;omega) ⟨.bl _,H,I,rfl,p.here hr 262⟩
 | In=>exact z05 (cv:=cv) 128 false pins s σ H _ _ v u Q I rx ry ⟨μ,h,_,_,Z,hr,ra,rb,p⟩
 | NotIn=>exact z05 (cv:=cv) 128 true pins s σ H _ _ v u Q I rx ry ⟨μ,h,_,_,Z,hr,ra,rb,p⟩
 | Is =>
  cases b with
  | non =>
   cases rb;cases ry;refine wpAny_is_plain (by cases ra<;>first | (cases rx;rfl) | (obtain ⟨t,rfl⟩:=rx;rfl)) (WG I (p.here hr 262) ?_);cases ra<;>first | (cases rx;rfl) | (obtain ⟨t,rfl⟩:=rx;rfl)
  | bl y =>
   cases a with
   | bl x =>
    cases ra;cases rb;cases rx;cases ry;exact wpAny_is_plain rfl (WG I (p.here hr 262) (by cases x<;>cases y<;>rfl))
   | _=>exact p.elim
  | _=>exact p.elim
 | IsNot =>
  cases b with
  | non =>
   cases rb;cases ry;refine wpAny_isNot_plain (by cases ra<;>first | (cases rx;rfl) | (obtain ⟨t,rfl⟩:=rx;rfl)) (WG I (p.here hr 262) ?_);cases ra<;>first | (cases rx;rfl) | (obtain ⟨t,rfl⟩:=rx;rfl)
  | bl y =>
   cases a with
   | bl x =>
    cases ra;cases rb;cases rx;cases ry;exact wpAny_isNot_plain rfl (WG I (p.here hr 262) (by cases x<;>cases y<;>rfl))
   | _=>exact p.elim
  | _=>exact p.elim
end
noncomputable def RB:List Addr->Hp->Bool->Bool->Prop:=λ _ _ b c=>b=c
noncomputable def spI (K:Y01)(cv:160)(np:Nat)(c:List D->Hh->Res D):Sp:=λ vs H Q E =>
 vs.length=np/\∃ μ h ds,HR K μ h H/\Reps K μ H ds vs/\PostE K cv (Rep K) μ H (c ds h) Q (λ C H'=>E C none H')
noncomputable def Q5:List Str:=["len","isinstance","int","bool","str","tuple","list","range","max","min","sum","all","any","zip","reversed","sorted","set","enumerate","dict","abs","ValueError"]
noncomputable def gOf (sc:Scope)(x:Str):Bool:=decide (sc.names.lookup x=some .globalImplicit)
noncomputable def VL (scope osc:Scope):Scope :=
  { scope with names:=scope.names.map λ (n,k)=>if (k==.free&&osc.kind==.function&&osc.names.lookup n==some .cell) then (n,.cell) else (n,k) }
noncomputable def Tg.idx:Tg->List Nat
 | .one i _=>[i]
 | .tup is _=>is.map (·.1)
noncomputable def Tg.ok (sc:Scope)(N:XQ)(t:Tg):Bool:=t.idx.all λ i=>decide (i<N.length)&&decide (sc.names.lookup (N.getD i "")=some .local\/sc.names.lookup (N.getD i "")=some .cell)
noncomputable def Tg.okS (N:XQ)(t:Tg):Bool:=t.idx.all λ i=>decide (i<N.length)
noncomputable def yW (x:Str):Bool:=!159&&!(x==("__classdict__":Str))
noncomputable def Tg.forI (t:Tg):I->Bool
 | .items _ _ _=>(match t with | .tup _ _=>true | .one _ _=>false)
 | _=>true
mutual
noncomputable def E.ok (sc:Scope)(n:Nm):E->Bool
 | .non _ | .bl _ _ | .int _ _ | .str _ _=>true
 | .var i _=>decide (i<n.N.length)
 | .bin _ a b _=>a.ok sc n&&b.ok sc n
 | .un op a _=>a.ok sc n&&(match op with | .Not=>a.okT | _=>true)
 | .cmp op a b _=>a.ok sc n&&b.ok sc n&&!behindInMarks op (b.py n)
 | .and a b r _=>a.ok sc n&&b.ok sc n&&r.ok sc n&&a.okT&&b.okT&&r.okT
 | .or a b r _=>a.ok sc n&&b.ok sc n&&r.ok sc n&&a.okT&&b.okT&&r.okT
 | .ite c a b _=>c.ok sc n&&a.ok sc n&&b.ok sc n&&c.okT
 | .call f a r _ _=>decide (f<n.F.length)&&!(n.G.any λ q=>decide (q.2=Cn.cls f))&&gOf sc (n.F.getD f "")&&a.ok sc n&&r.ok sc n
 | .len a _ _=>gOf sc "len"&&a.ok sc n
 | .isi T a _ _ _=>gOf sc "isinstance"&&gOf sc (qF T)&&decide (T<6)&&a.ok sc n
 | .sub a i _=>a.ok sc n&&i.ok sc n
 | .tup es _=>es.ok sc n
 | .ofL l=>l.ok sc n
 | .tupL l _ _=>gOf sc "tuple"&&l.ok sc n
 | .tupE e _ _=>gOf sc "tuple"&&e.ok sc n
 | .listE e _ _=>gOf sc "list"&&e.ok sc n
 | .dicP e _ _=>gOf sc "dict"&&e.ok sc n
 | .cut a lo hi _ _=>a.ok sc n&&lo.ok sc n&&hi.ok sc n
 | .cutS a lo hi st _ _=>a.ok sc n&&lo.ok sc n&&hi.ok sc n&&st.ok sc n
 | .dic _=>true
 | .m0 _ o p1 p=>o.ok sc n&&decide (p1.endLine=p.line)
 | .m1 _ o a p1 p=>o.ok sc n&&a.ok sc n&&decide (p1.endLine=p.line)
 | .max2 a b _ _=>gOf sc "max"&&a.ok sc n&&b.ok sc n
 | .c1 f a _ _=>gOf sc f.name&&a.ok sc n
 | .cmpN _ a _ _=>a.ok sc n
 | .neK neg a b _=>a.ok sc n&&b.ok sc n&&!(behindInMarks 295 (b.py n))
 | .sset e _ _ _ _=>gOf sc "sorted"&&gOf sc "set"&&e.ok sc n
 | .gsub x kvs i _ _=>gOf sc x&&decide ((x,Cn.dic kvs)∈n.G)&&i.ok sc n
 | .fld a f _=>a.ok sc n&&decide (f∈jq)
 | .mk i x a r _ _=>gOf sc x&&decide ((x,Cn.cls i)∈n.G)&&a.ok sc n&&r.ok sc n
noncomputable def Eo.ok (sc:Scope)(n:Nm):Eo->Bool
 | .none=>true
 | .some e=>e.ok sc n
noncomputable def L.ok (sc:Scope)(n:Nm):L->Bool
 | .disp es _=>es.ok sc n
 | .comp elt t it c NC cap csc _=>(it.ok sc n&&t.forI it)&&jp sc csc n.N NC cap&&decide NC.Nodup&&NC.all yW&&t.ok csc NC&&elt.ok (VL csc sc) 267&&c.ok (VL csc sc) 267&&c.okT&&c.short
noncomputable def I.ok (sc:Scope)(n:Nm):I->Bool
 | .seq e=>e.ok sc n
 | .lst l=>l.ok sc n
 | .rng a _ _=>gOf sc "range"&&a.ok sc n
 | .keys e=>e.ok sc n
 | .items e p1 p=>e.ok sc n&&(p1.endLine==p.line)
noncomputable def Es.ok (sc:Scope)(n:Nm):Es->Bool
 | .nil=>true
 | .cons e r=>e.ok sc n&&r.ok sc n
noncomputable def E.okT:E->Bool
 | .non _ | .bl _ _ | .int _ _ | .str _ _=>false
 | .ite _ _ _ _=>false
 | .ofL _=>false
 | .dic _=>false
 | .un op a _=>match op with | .Not=>a.okT | _=>true
 | _=>true
noncomputable def Es.okT:Es->Bool
 | .nil=>true
 | .cons e r=>e.okT&&r.okT
noncomputable def Es.short:Es->Bool
 | .nil=>true
 | .cons _ .nil=>true
 | .cons _ (.cons _ _)=>false
end
noncomputable def TupK (K:Y01)(a:Addr)(xs:XQ):Prop:=∃ (o:Obj) (its:Array Value) (n:Nat),K.lookup a=some o/\o.cls=.type "tuple"/\o.data=.seq its n/\its.size<=sizeLine/\Vals (xs.map V.str) its.toList
noncomputable def CvOk (K:Y01)(v:Value):Cv->Prop
 | .tup xs=>∃ a,v=.ref a/\TupK K a xs
 | .int i=>∃ t,v=.int i t
 | .fn _ x=>∃ f,v=.ref f/\PySem.W.nsIn K mainGlobals x=some (some 269)
 | .oth=>∃ f,v=.ref f
noncomputable def DicV (K:Y01):List (Str×Cv)->List (Key×Value)->Prop
 | [],[]=>True
 | kx::r,qv::s=>qv.1=.inr kx.1/\CvOk K qv.2 kx.2/\DicV K r s
 | _,_=>False
structure IsK (K:Y01)(C:Addr):Prop where
 ha:PySem.W.findIn K (.ref C) "__class__"=some (some 246)
 hn:PySem.W.specialIn K 246 "__get__"=some (some (.builtin "getset_descriptor.__get__"))
 ht:PySem.W.takesIn K 246=some true
 hm:PySem.W.mroIn K C (.type "object")=some true
noncomputable def z4q (P:204)(w:World)(K:Y01)(v:Value):Cn->Prop
 | .int i=>∃ t,v=.int i t
 | .str x=>∃ t,v=.str x t
 | .tup xs=>∃ a,v=.ref a/\TupK K a xs
 | .cls _=>∃ a,v=.ref a
 | .dfl=>∃ a,v=.ref a
 | .isc x ys=>∃ D,v=.ref D/\∀ y∈ys,∃ C,PySem.W.nsIn K mainGlobals y=some (some (.ref C))/\IsK K C/\PySem.W.kitOne K (.ref C) (.ref D)=some (decide (y=x))
 | .exc _ _=>∃ a bmB newId initId B,v=.ref a/\PySem.W.excIn K a bmB newId=true/\ExcBaseFacts B newId initId bmB/\bmB.contains (.type "BaseException")=true
 | .dic kvs=>∃ a o es ep vs,v=.ref a/\K.lookup a=some o/\o.ExactDict/\o.data=.dict es ep/\KeysOf (zB P w) es/\Pairs (zB P w) es.toList vs/\(vs.map (·.1)).Nodup/\DicV K kvs vs
structure TstK (K:Y01)(G:List (Str×Cn))(cv:160)(C:Addr)(u:List Nat):Prop where
 ec:ExC K C
 ve:PySem.W.kitOne K (.ref C) (.type "ValueError")=some true
 ot:∀ y d w,(y,Cn.exc d w)∈G->PySem.W.kitOne K (.ref C) (cv d)=some (u.contains d)
structure Kx (X:Cx)(Z:ZK)(k:Nat)(n:Nm)(cv:160)(cl:126):Prop where
 th:Thr X Z
 rm:Room (2*k+1) X.A
 nN:X.N=n.N
 nd:X.N.Nodup
 cm:X.calm=true
 kd:X.env.scope.kind=.function
 nm:∀ x∈n.N,Vis X.env.scope x/\yW x=true
 bm:∀ x,x∈Q5->X.mg x=none
 gc:∀ x c,(x,c)∈n.G->159=false/\∃ v,X.mg x=some v/\z4q X.prog X.w X.K v c
 fn:∀ i x,n.F[i]?=some x->(n.G.any λ q=>decide (q.2=Cn.cls i))=false->159=false/\∃ f fd ps,X.mg x=some 269/\PySem.W.nsIn X.K mainGlobals x=some (some 269)/\PySem.W.keepIn X.K 269=true/\(Binds X.K fd ps []/\((x,Cn.dfl)∈n.G->Binds X.K fd ps [.none]))/\(∀ ds h,cl i ds h≠.no->ds.length=ps.length) /\
  FnOk X.prog X.w X.K X.mg X.base (CXs X.prog X.w) (2*k) f fd ps (spI X.K cv ps.length (cl i))
 mc:∀ x i,(x,Cn.cls i)∈n.G->159=false/\∃ C f fd ps,X.mg x=some (.ref C)/\Mk X.K C f/\ClsN X.K x C/\Binds X.K fd ps []/\(∀ ds h,cl i ds h≠.no->ds.length=ps.length) /\
  FnOk X.prog X.w X.K X.mg X.base (CXs X.prog X.w) (2*k) f fd ps (spI X.K cv ps.length (cl i))
 xc:∀ x c u,(x,Cn.exc c u)∈n.G->X.mg x=some (cv c)/\(∀ D∈u,∃ a d,cv c=.ref a/\cv D=.ref d/\z6f X.K a d)/\∃ a,cv c=.ref a/\TstK X.K n.G cv a u
theorem Kx.gl (C:Kx X Z k n cv cl)(h:gOf X.env.scope x=true):Gl X x:=show X.env.scope.names.lookup x=some .globalImplicit from of_decide_eq_true h
theorem z0a (h:yW x=true):159=false/\(x==("__classdict__":Str))=false:=by unfold yW at h;simpa using h
theorem jS (r:Res α):(r.bind λ a h=>.ok a h)=r:=by cases r<;>rfl
theorem zx (r:Res α)(f:α->Hh->Res β)(q:β->Hh->Res γ):(r.bind f).bind q=r.bind λ a h=>(f a h).bind q:=by cases r<;>rfl
theorem PE.mono (p:PE X e t)(h:∀ σ H Q,t' σ H Q->t σ H Q):PE X e t':=λ pins s σ H Q I q=>p pins s σ H Q I (h σ H Q q)
theorem PT.mono (p:PT X e t)(h:∀ σ H Q,t' σ H Q->t σ H Q):PT X e t':=λ pins s σ H Q I q=>p pins s σ H Q I (h σ H Q q)
theorem PW.mono (p:PW X e t)(h:∀ σ H Q,t' σ H Q->t σ H Q):PW X e t':=λ wh pins s σ H Q I q=>p wh pins s σ H Q I (h σ H Q q)
theorem PA.mono (p:PA X e t)(h:∀ σ H Q,t' σ H Q->t σ H Q):PA X e t':=λ ps pins s σ H Q I q=>p ps pins s σ H Q I (h σ H Q q)
noncomputable def toB (d:D)(h:Hh):Res Bool:=match d with | .bl b=>.ok b h | _=>.no
theorem wL (cl:126)(e:E)(ρ:En)(h:Hh):e.evT cl ρ h=(e.ev cl ρ h).bind toB:=rfl
section
variable {X:Cx}{Z:ZK}{k:Nat}{n:Nm}{cv:160}{cl:126}
theorem L.py_star (l:L)(r:288)(env:Env):starEach (l.py n::r) env=(false,eval (l.py n) env)::starEach r env:=by cases l<;>rfl
theorem zi (e:E)(r:288)(env:Env):starEach (e.py n::r) env=(false,eval (e.py n) env)::starEach r env:=by
 cases e with
 | ofL l=>exact L.py_star l r env
 | _=>rfl
theorem qH:∀ (r:Es) (pos:Pos) (env:Env),(backTo pos (starEach (r.py n) env)).any (·.1)=false
 | .nil,_,_=>rfl
 | .cons e r,pos,env=>by
  show (backTo pos (starEach (e.py n::r.py n) env)).any (·.1)=false;rw [zi];exact qH r pos env
theorem Yu (e:E):Vu (e.py n):=by
 intro o i;cases e with
 | ofL l=>cases l<;>rfl
 | _=>rfl
theorem UH (e:E)(f:Str)(env:Env)(w:Sem Value):attributeBase (e.py n) f env w=w:=by
 cases e with
 | ofL l=>cases l<;>rfl
 | _=>rfl
theorem zS (p:PE X e (zL X.K cv 158 Z m))(he:∀ whole,isTrue e X.env whole=(do let v <- whole;standAt e.pos;holding [v] (truthy v))) :
  PT X e (zL X.K cv RB Z λ ρ h=>(m ρ h).bind toB):=by
 refine PT.mono (z7b p he) λ σ H Q=>zb λ μ ρ h hr er q=>?_;refine za hr er q λ a h1 μ1 H1 x _ e1 r1 er1 qa p1=>?_;unfold toB at p1;cases qa with
 | bl b=>exact ⟨b,rfl,p1.here r1 rfl⟩
 | _=>exact p1.elim
noncomputable def Es.evAndT (cl:126):Es->En->Bool->Hh->Res Bool
 | .nil,_,c,h=>.ok c h
 | .cons e r,ρ,c,h=>if c then (e.evT cl ρ h).bind λ c' h2=>r.evAndT cl ρ c' h2 else .ok false h
noncomputable def Es.evOrT (cl:126):Es->En->Bool->Hh->Res Bool
 | .nil,_,c,h=>.ok c h
 | .cons e r,ρ,c,h=>if c then .ok true h else (e.evT cl ρ h).bind λ c' h2=>r.evOrT cl ρ c' h2
theorem VM:∀ (r:Es) (ρ:En) (d:D) (h:Hh),(r.evAnd cl ρ d h).bind toB=(toB d h).bind λ c h1=>r.evAndT cl ρ c h1
 | .nil,ρ,d,h=>(jS (r:=toB d h)).symm
 | .cons e r,ρ,d,h=>by
  cases d with
  | bl b =>
   cases b with
   | false=>rfl
   | true =>
    show (((e.ev cl ρ h).bind λ y h2=>r.evAnd cl ρ y h2).bind toB)=((e.ev cl ρ h).bind toB).bind λ c' h2=>r.evAndT cl ρ c' h2;rw [zx,zx]
    congr 1
    funext y h2
    exact VM r ρ y h2
  | _=>rfl
theorem z0b:∀ (r:Es) (ρ:En) (d:D) (h:Hh),(r.evOr cl ρ d h).bind toB=(toB d h).bind λ c h1=>r.evOrT cl ρ c h1
 | .nil,ρ,d,h=>(jS (r:=toB d h)).symm
 | .cons e r,ρ,d,h=>by
  cases d with
  | bl b =>
   cases b with
   | true=>rfl
   | false =>
    show (((e.ev cl ρ h).bind λ y h2=>r.evOr cl ρ y h2).bind toB)=((e.ev cl ρ h).bind toB).bind λ c' h2=>r.evOrT cl ρ c' h2;rw [zx,zx]
    congr 1
    funext y h2
    exact z0b r ρ y h2
  | _=>rfl
end
section
variable {X:Cx}{Z:ZK}{k:Nat}{n:Nm}{cv:160}{cl:126}
structure SE (X:Cx)(Z:ZK)(n:Nm)(cv:160)(cl:126)(e:E):Prop where
 pe:PE X (e.py n) (zL X.K cv 158 Z (e.ev cl))
 pt:e.okT=true->PT X (e.py n) (zL X.K cv RB Z (e.evT cl))
noncomputable def z4r (X:Cx)(Z:ZK)(n:Nm)(cv:160)(cl:126)(r:Es):Prop:=∀ (ks:List (Str×Pos)) (pos:Pos),ks.length=(r.py n).length ->
 ∃ trs,PPs X pos (ks.map λ q=>some (.Constant (.str q.1) 0 q.2)) (r.py n) trs/\∀ σ H (Q:List (V×V)->Hp->Prop),zL X.K cv (Reps X.K) Z (r.ev cl) σ H (λ us H'=>Q ((ks.map λ q=>V.str q.1).zip us) H')->Ut trs σ H Q
structure SEs (X:Cx)(Z:ZK)(n:Nm)(cv:160)(cl:126)(r:Es):Prop where
 pa:PA X (r.py n) (zL X.K cv (Reps X.K) Z (r.ev cl))
 an:∀ (b:E) (p:Pos),SE X Z n cv cl b->PE X (.BoolOp .And (b.py n::r.py n) p) (zL X.K cv 158 Z λ ρ h=>(b.ev cl ρ h).bind λ y h2=>r.evAnd cl ρ y h2)
 anT:∀ (b:E) (p:Pos),SE X Z n cv cl b->b.okT=true->r.okT=true->PW X (.BoolOp .And (b.py n::r.py n) p) (zL X.K cv RB Z λ ρ h=>(b.evT cl ρ h).bind λ c h2=>r.evAndT cl ρ c h2)
 orr:∀ (b:E) (p:Pos),SE X Z n cv cl b->PE X (.BoolOp .Or (b.py n::r.py n) p) (zL X.K cv 158 Z λ ρ h=>(b.ev cl ρ h).bind λ y h2=>r.evOr cl ρ y h2)
 orT:∀ (b:E) (p:Pos),SE X Z n cv cl b->b.okT=true->r.okT=true->PW X (.BoolOp .Or (b.py n::r.py n) p) (zL X.K cv RB Z λ ρ h=>(b.evT cl ρ h).bind λ c h2=>r.evOrT cl ρ c h2)
 ps:z4r X Z n cv cl r
theorem Q6 {v:V}(hv:∀ K μ H,Rep K μ H d v)(p:zL X.K cv 158 Z (λ _ h=>.ok d h) σ H Q):tC v σ H Q:=by
 obtain ⟨μ,ρ,h,hr,er,q⟩:=p;exact q.here hr (hv _ _ _)
theorem VN {a b:E}{σ:St}{H:Hp}{Q:VK}(p:zL X.K cv 158 Z (λ ρ h=>(a.ev cl ρ h).bind λ x h1=>(b.ev cl ρ h1).bind λ y h2=>f x y h2) σ H Q) :
  tOp (r2 X.K cv f) (zL X.K cv 158 Z (a.ev cl)) (zL X.K cv 158 Z (b.ev cl)) σ H Q:=by
 obtain ⟨μ,ρ,h,hr,er,q⟩:=p;refine za hr er q λ da h1 μ1 H1 x _ e1 r1 er1 qa p1=>?_;refine za r1 er1 p1 λ db h2 μ2 H2 y _ e2 r2 er2 qb p2=>?_;exact ⟨μ2,h2,da,db,_,r2,qa.mono e2,qb,p2⟩
theorem z6i {a:E}{σ:St}{H:Hp}{Q:VK}(p:zL X.K cv 158 Z (λ ρ h=>(a.ev cl ρ h).bind λ x h1=>f x h1) σ H Q) :
  tUn (r1 X.K cv f) (zL X.K cv 158 Z (a.ev cl)) σ H Q:=by
 obtain ⟨μ,ρ,h,hr,er,q⟩:=p;refine za hr er q λ da h1 μ1 H1 x _ e1 r1 er1 qa p1=>?_;exact ⟨μ1,h1,da,_,r1,qa,p1⟩
theorem z6j (op:UnaryOp)(h:op=.Invert\/op=.USub):UnR X (unaryOp op) (r1 X.K cv (unD op)):=by
 intro pins s σ H x v Q I rx hh;obtain ⟨μ,h',a,Z',hr,ra,p⟩:=hh;rcases h with rfl | rfl
 ·unfold unD at p;cases ra with
  | int i=>exact z7t pins s σ H _ v Q I rx ⟨i,rfl,p.here hr (.int _)⟩
  | _=>exact p.elim
 ·unfold unD at p;cases ra with
  | int i=>exact z7s pins s σ H _ v Q I rx ⟨i,rfl,p.here hr (.int _)⟩
  | _=>exact p.elim
theorem VO (hu:X.A.units+1<cLine):IxR X (λ x y H Q=>∃ a v,x=.ref a/\DGet H a y (some v)/\Q v H):=by
 intro value slice pins s σ H x y v u Q I rx ry h hs;obtain ⟨a,w,rfl,g,q⟩:=h;cases rx;have ty:s.TypeIs 202 "dict":=by
  rcases g with ⟨kvs,k,e,ey,l⟩ | ⟨kvs,k,b,e,ey,eb,l⟩
  ·obtain ⟨_,_,vs,_,o,es,ep,e1,ex,_⟩:=e.ok I.hok;exact ⟨o,e1,ex.1⟩
  ·obtain ⟨_,_,xs,_,o,es,ep,e1,ex,_⟩:=e.ok I.hok;exact ⟨o,e1,ex.1⟩
 exact tail_any ty slot_dict_getitem.lookup (Ob hu I g ry λ w' s' I' r'=>⟨w,H,I',r',q⟩) hs
theorem zbh (hu:X.A.units+1<cLine):IxR X (λ x y H Q=>∃ a b kvs k v,x=.ref a/\y=.ref b/\H a=some (.dT kvs)/\SqT X.K H b (k.map kV)/\w6 kvs k=some v/\Q v H):=by
 intro value slice pins s σ H x y v u Q I rx ry h hs;obtain ⟨a,b,kvs,k,w,rfl,rfl,g,hb,hv,q⟩:=h;cases rx;cases ry;have ty:s.TypeIs 202 "dict":=by
  obtain ⟨_,_,xs,_,o,es,ep,e1,ex,_⟩:=(show ObjOk X.prog X.w H s.heap a (.dT kvs) from I.hok a _ g);exact ⟨o,e1,ex.1⟩
 exact tail_any ty slot_dict_getitem.lookup (Oh hu I (.inl g) hb hv λ w' s' I' r'=>⟨w,H,I',r',q⟩) hs
theorem y6 {K:Y01}{d:D}{v:V}{k:Key}(r:Rep K μ H d v)(e:jG d=some k):v=kV k:=by
 unfold jG at e;cases r<;>first | (cases e;rfl) | cases e
theorem DicV.at {K:Y01}{k:Str}{c:Cv}:∀ {kvs:List (Str×Cv)}{vs:List (Key×Value)},DicV K kvs vs->kvs.lookup k=some c->∃ v,valueAt vs (Key.inr k)=some v/\CvOk K v c
 | [],[],_,e=>by cases e
 | [],_::_,h,_=>h.elim
 | _::_,[],h,_=>h.elim
 | (k',ys)::r,(q,v)::s,⟨h1,h2,h4⟩,e=>by
  rw [Y2g] at e;by_cases hk:k=k'
  ·subst hk;simp only [beq_self_eq_true] at e;cases e;refine ⟨v,?_,h2⟩;unfold valueAt;rw [Y25 (by simpa using h1)];rfl
  ·have hb:(k==k')=false:=by simpa using hk
   rw [hb] at e;obtain ⟨b,e1,e2⟩:=DicV.at h4 e;refine ⟨b,?_,e2⟩;unfold valueAt at e1 ⊢;rw [Y1j (by
    have h1':q=Key.inr k':=h1;simp only [decide_eq_true_eq];intro z;rw [h1'] at z;exact hk (Key.inr.inj z).symm)]
   exact e1
noncomputable def CvV (K:Y01)(u:V):Cv->Prop
 | .tup xs=>∃ a,u=.ref a/\TupK K a xs
 | .int i=>u=.int i
 | .fn _ x=>∃ f,u=.ref f/\PySem.W.nsIn K mainGlobals x=some (some 269)
 | .oth=>∃ f,u=.ref f
theorem CvOk.v {K:Y01}{v:Value}(h:CvOk K v c):∃ u,RelV u v/\CvV K u c:=by
 cases c with
 | tup xs=>obtain ⟨a,rfl,t⟩:=h;exact ⟨.ref a,rfl,a,rfl,t⟩
 | int i=>obtain ⟨t,rfl⟩:=h;exact ⟨.int i,⟨t,rfl⟩,rfl⟩
 | fn i x=>obtain ⟨f,rfl,t⟩:=h;exact ⟨.ref f,rfl,f,rfl,t⟩
 | oth=>obtain ⟨f,rfl⟩:=h;exact ⟨.ref f,rfl,f,rfl⟩
theorem z8m {kvs:List (Str×Cv)}:IxR X (λ x y H Q=>∃ a k c,x=.ref a/\y=.str k/\z4q X.prog X.w X.K 202 (.dic kvs)/\kvs.lookup k=some c/\∀ u,CvV X.K u c->Q u H):=by
 intro value slice pins s σ H x y v u Q I rx ry h hs;obtain ⟨a,k,xs,rfl,rfl,ok,l,q⟩:=h;cases rx;obtain ⟨a',o,es,ep,vs,ea,e1,ex,ed,ks,ps,nd,dv⟩:=ok;cases ea;obtain ⟨b,e2,tk⟩:=dv.at l;obtain ⟨bu,tr,tk⟩:=tk.v;have eh:=I.kIn a o e1;have dd:s.heap.DictOf (zB X.prog X.w) a vs:=⟨o,es,ep,eh,ex,ed,ks,ps,nd⟩;exact tail_any ⟨o,eh,ex.1⟩ slot_dict_getitem.lookup (wpAny_getItem_of (yU (k:=.inr k) ry) dd.mapOf e2 ⟨bu,H,I.tok _,tr,q bu tk⟩) hs
theorem TupK.rep {K:Y01}{H:Hp}{a:Addr}{xs:XQ}(h:TupK K a xs):Rep K μ H (.tup (xs.map .str)) 202:=by
 have rs:∀ ys:List Str,Reps K μ H (ys.map D.str) (ys.map V.str):=λ ys=>by
  induction ys with
  | nil=>exact .nil
  | cons y r ih=>exact .cons (.str y) ih
 exact .tup (.inr h) (rs xs)
theorem CvV.rep {K:Y01}(h:CvV K u c)(nf:c.isFn=false):Rep K μ H c.d u:=by
 cases c with
 | tup xs=>obtain ⟨a,rfl,t⟩:=h;exact t.rep
 | int i=>cases h;exact .int i
 | fn i x=>cases nf
 | oth=>cases nf
theorem z4s (hu:X.A.units+1<cLine):IxR X (r2 X.K cv jc):=by
 intro value slice pins s σ H x y v u Q I rx ry hh hs;obtain ⟨μ,h,a,b,Z',hr,ra,rb,p⟩:=hh;cases ra with
 | tup h1 h2 =>
  cases rb with
  | int k =>
   rw [sub_tup] at p;split at p
   ·rename_i d e;obtain ⟨w,e1,e2⟩:=h2.atI e;exact z80 value slice pins s σ H _ _ v u Q I rx ry ⟨_,_,_,w,rfl,rfl,h1,e1,p.here hr e2⟩ hs
   ·exact p.elim
  | _=>exact p.elim
 | fl h1 h2 =>
  cases rb with
  | int k =>
   rw [sub_fl] at p;split at p
   ·rename_i d e;obtain ⟨w,e1,e2⟩:=h2.atI e;exact Vv value slice pins s σ H _ _ v u Q I rx ry ⟨_,_,_,w,rfl,rfl,h1.sq,e1,p.here hr e2⟩ hs
   ·exact p.elim
  | _=>exact p.elim
 | str z =>
  cases rb with
  | int k =>
   rw [z4j] at p;split at p
   ·rename_i c;split at p
    ·rename_i d e;exact z81 value slice pins s σ H _ _ v u Q I rx ry ⟨_,_,_,rfl,rfl,wK c,e,p.here hr (.str _)⟩ hs
    ·exact p.elim
   ·exact p.elim
  | _=>exact p.elim
 | @loc nn a m =>
  rw [VI] at p;cases e1:h[nn]? with
  | none=>rw [e1] at p;exact p.elim
  | some o =>
   rw [e1] at p;have q:=hr.obj nn a o m e1;cases o with
   | lst xs =>
    obtain ⟨vs,q1,q2⟩:=q;cases rb with
    | int k =>
     cases e2:atI xs k with
     | none=>simp only [e2] at p;exact p.elim
     | some d =>
      simp only [e2] at p;obtain ⟨w,e3,e4⟩:=q2.atI e2;exact Vv value slice pins s σ H _ _ v u Q I rx ry ⟨_,_,_,w,rfl,rfl,SqL.of q1,e3,p.here hr e4⟩ hs
    | _=>exact p.elim
   | obj _ _=>exact p.elim
   | dK kvs =>
    obtain ⟨vs,q1,q2⟩:=q;cases e2:jG b with
    | none=>simp only [e2,Y2y] at p;exact p.elim
    | some k =>
     simp only [e2,Y2f] at p;cases e3:zK kvs k with
     | none=>simp only [e3] at p;exact p.elim
     | some d =>
      simp only [e3] at p;obtain ⟨w,e4,e5⟩:=q2.val e3;have ey:=y6 rb e2;subst ey;exact VO hu value slice pins s σ H _ _ v u Q I rx ry ⟨_,w,rfl,e4▸DGet.k q1,p.here hr e5⟩ hs
   | fK kvs =>
    obtain ⟨ob,vs,q1,q2⟩:=q;cases e2:jG b with
    | none=>simp only [e2,Y2y] at p;exact p.elim
    | some k =>
     simp only [e2,Y2f] at p;cases e3:zK kvs k with
     | none=>simp only [e3] at p;exact p.elim
     | some d =>
      simp only [e3] at p;obtain ⟨w,e4,e5⟩:=q2.val e3;have ey:=y6 rb e2;subst ey;exact VO hu value slice pins s σ H _ _ v u Q I rx ry ⟨_,w,rfl,e4▸DGet.fk (.inr ⟨ob,q1⟩),p.here hr e5⟩ hs
   | dT kvs =>
    obtain ⟨vs,q1,q2⟩:=q;cases e2:yV b with
    | none=>simp only [e2,Y2y] at p;exact p.elim
    | some k =>
     simp only [e2,Y2f] at p;cases e3:zK kvs k with
     | none=>simp only [e3] at p;exact p.elim
     | some d =>
      simp only [e3] at p;obtain ⟨w,e4,e5⟩:=q2.val e3;obtain ⟨c,rfl,hc⟩:=yD rb e2;exact zbh hu value slice pins s σ H _ _ v u Q I rx ry ⟨_,_,_,_,w,rfl,rfl,q1,hc,e4,p.here hr e5⟩ hs
 | _=>exact p.elim
noncomputable def zdx (K:Y01)(cv:160):List V->Hp->VK->Prop:=λ xs H Q=>∃ x,xs=[x]/\r1 K cv Ym x H Q
theorem Ou:jh X (.builtin "len") (zdx X.K cv):=by
 intro pins s σ H xs us Q I r hh;obtain ⟨x,rfl,μ,h,a,Z',hr,ra,p⟩:=hh;refine Bq pins s σ H _ us Q I r ⟨x,?_⟩;cases ra with
 | tup h1 h2=>exact ⟨_,rfl,.inr ⟨_,h1,h2.length⟩,p.here hr (.int _)⟩
 | @loc nn b m =>
  rw [len_loc] at p;cases e1:rd h nn with
  | none=>rw [e1] at p;exact p.elim
  | some ys =>
   rw [e1] at p;obtain ⟨vs,hs1,rs⟩:=hr.rd e1 m;exact ⟨_,rfl,.inl ⟨_,hs1,rs.length⟩,p.here hr (.int _)⟩
 | fl h1 h2=>exact ⟨_,rfl,.inl ⟨_,h1.sq,h2.length⟩,p.here hr (.int _)⟩
 | str y =>
  rw [len_str] at p;split at p
  ·rename_i c;exact ⟨_,rfl,⟨wK c,rfl⟩,p.here hr (.int _)⟩
  ·exact p.elim
 | _=>exact p.elim
noncomputable def isD (T:Nat)(d:D)(h:Hh):Res D:=match isI h d T with | some b=>.ok (.bl b) h | none=>.no
theorem JD {P:Nat->Prop}{T:Nat}(hT:T<6)(a:P 0)(b:P 1)(c:P 2)(d:P 3)(e:P 4)(f:P 5):P T:=by
 match T,hT with | 0,_=>exact a | 1,_=>exact b | 2,_=>exact c | 3,_=>exact d | 4,_=>exact e | 5,_=>exact f
theorem z0c (T:Nat)(hT:T<6):jh X (.builtin "isinstance") (λ xs H Q=>∃ x,xs=[x,.ty (VG T)]/\r1 X.K cv (isD T) x H Q):=by
 intro pins s σ H xs us Q I r hh;obtain ⟨x,rfl,μ,h,a,Z',hr,ra,p⟩:=hh;obtain ⟨u,w',rfl,rx,rw'⟩:=z6b r;cases (show w'=Value.type (VG T) from rw');unfold isD at p;have key:∀ (b:Bool),Q (.bl b) H->∀ tk,EP X pins σ Q (.bool b) { s with toks:=tk }:=λ b q tk=>⟨.bl b,H,I.tok _,rfl,q⟩;cases ra with
 | non =>
  have p1:=p.here hr 262;refine jQ I rx .non ?_ (key _ p1);apply JD hT<;>rfl
 | bl y =>
  have p1:Q (.bl (T==0||T==1)) H:=p.here hr 262;refine jQ I rx (.bl y) ?_ (key _ p1);apply JD hT<;>rfl
 | int y =>
  have p1:Q (.bl (T==0)) H:=p.here hr 262;refine jQ I rx (.int y) ?_ (key _ p1);apply JD hT<;>rfl
 | str y =>
  have p1:Q (.bl (T==2)) H:=p.here hr 262;refine jQ I rx (.str y) ?_ (key _ p1);apply JD hT<;>rfl
 | tup h1 h2 =>
  have p1:Q (.bl (T==3)) H:=p.here hr 262;cases rx;obtain ⟨its,rv,⟨o,g1,g2,_⟩,_⟩:=I.tuple h1;refine Y18 PySem.W.kitx_tuple I.kIn ⟨_,g1,g2⟩ ?_ 275 (key _ p1);apply JD hT<;>rfl
 | fl h1 h2 =>
  have p1:Q (.bl (T==4)) H:=p.here hr 262;cases rx;obtain ⟨its,rv,⟨o,n',g1,g2,_⟩,_⟩:=I.list h1.sq;refine Y18 Y39 I.kIn ⟨_,g1,g2⟩ ?_ 275 (key _ p1);apply JD hT<;>rfl
 | @loc nn b m =>
  have ei:isI h (.loc nn) T=match rd h nn with
    | some _=>some (T==4)
    | none=>(match h[nn]? with
     | some (.dK _)=>some (T==5)
     | some (.fK _)=>some (T==5)
     | some (.dT _)=>some (T==5)
     | _=>none):=rfl
  rw [ei] at p;cases e1:rd h nn with
  | none =>
   rw [e1] at p;cases e2:h[nn]? with
   | none=>rw [e2] at p;exact p.elim
   | some o =>
    have q:=hr.obj nn b o m e2;rw [e2] at p;cases o with
    | lst _=>exact p.elim
    | fK _ =>
     have p1:Q (.bl (T==5)) H:=p.here hr 262;obtain ⟨ob,vs,q1,_⟩:=q;obtain ⟨t1,_,_⟩:=BF I (.inl ⟨vs,.inr ⟨ob,q1⟩⟩);cases rx;refine Y18 Y3x I.kIn t1 ?_ 275 (key _ p1);apply JD hT<;>rfl
    | obj _ _=>exact p.elim
    | dK kvs =>
     have p1:Q (.bl (T==5)) H:=p.here hr 262;obtain ⟨vs,q1,_⟩:=q;refine jQ I rx (.dK q1) ?_ (key _ p1);apply JD hT<;>rfl
    | dT kvs =>
     have p1:Q (.bl (T==5)) H:=p.here hr 262;obtain ⟨vs,q1,_⟩:=q;refine jQ I rx (.dT q1) ?_ (key _ p1);apply JD hT<;>rfl
  | some ys =>
   rw [e1] at p;have p1:Q (.bl (T==4)) H:=p.here hr 262;obtain ⟨vs,hs1,rs⟩:=hr.rd e1 m;cases rx;obtain ⟨its,rv,⟨o,n',g1,g2,_⟩,_⟩:=I.list hs1;refine Y18 Y39 I.kIn ⟨_,g1,g2⟩ ?_ 275 (key _ p1);apply JD hT<;>rfl
end
section
variable {X:Cx}{Z:ZK}{k:Nat}{n:Nm}{cv:160}{cl:126}
noncomputable def rM0 (K:Y01)(cv:160)(m:M0):V->List V->Hp->VK->Prop:=λ x vs H Q=>vs=[]/\r1 K cv (m0D m) x H Q
noncomputable def rM1 (K:Y01)(cv:160)(m:M1):V->List V->Hp->VK->Prop:=λ x vs H Q=>∃ y,vs=[y]/\r2 K cv (m1D m) x y H Q
theorem wu {K:Y01}{μ:XZ}{H:Hp}{h:Hh}(hr:HR K μ h H){n:Nat}{a:Addr}{xs:181}(m:μ[n]?=some a)(e:h[n]?=some 195):∃ vs,H a=some (.lst vs)/\Reps K μ H xs vs:=hr.obj n a _ m e
theorem Reps.dropLast {K:Y01}{μ:XZ}{H:Hp}:∀ {ds:181}{vs:193},Reps K μ H ds vs->Reps K μ H ds.dropLast vs.dropLast
 | _,_,.nil=>.nil
 | _,_,.cons h .nil=>.nil
 | _,_,.cons h (.cons h' r)=>.cons h (Reps.dropLast (.cons h' r))
theorem Reps.take {K:Y01}{μ:XZ}{H:Hp}:∀ {ds:181}{vs:193} (i:Nat),Reps K μ H ds vs->Reps K μ H (ds.take i) (vs.take i)
 | _,_,0,_=>.nil
 | _,_,_+1,.nil=>.nil
 | _,_,i+1,.cons h r=>.cons h (Reps.take i r)
theorem Reps.drop {K:Y01}{μ:XZ}{H:Hp}:∀ {ds:181}{vs:193} (i:Nat),Reps K μ H ds vs->Reps K μ H (ds.drop i) (vs.drop i)
 | _,_,0,r=>r
 | _,_,_+1,.nil=>.nil
 | _,_,i+1,.cons _ r=>Reps.drop i r
theorem Reps.cut {K:Y01}{μ:XZ}{H:Hp}{ds:181}{vs:193}(r:274)(lo hi:281):Reps K μ H (jU ds lo hi) (O7 vs lo hi):=by
 unfold jU O7;rw [<- r.length];exact (r.drop _).take _
theorem z4t:MtR X "list.pop" (rM0 X.K cv .pop):=by
 intro pins s σ H x xs v us Q I rx rs hh;obtain ⟨rfl,μ,h,a,Z',hr,ra,p⟩:=hh;unfold m0D at p;cases ra with
 | @loc nn b m =>
  cases e1:h[nn]? with
  | none=>simp only [e1] at p;exact p.elim
  | some o =>
   cases o with
   | dK _=>simp only [e1] at p;exact p.elim
   | fK _=>simp only [e1] at p;exact p.elim
   | dT _=>simp only [e1] at p;exact p.elim
   | obj _ _=>simp only [e1] at p;exact p.elim
   | lst ds =>
    simp only [e1] at p;obtain ⟨vs,q1,q2⟩:=wu hr m e1;cases e2:ds.getLast? with
    | none=>simp only [e2] at p;exact p.elim
    | some d =>
     simp only [e2] at p;rw [List.getLast?_eq_getElem?] at e2;obtain ⟨w,e3,e4⟩:=q2.get e2;rw [q2.length] at e3;obtain ⟨hr',ex⟩:=hr.chg (u:=.lst vs.dropLast) (o':=.lst ds.dropLast) e1 m λ H' ex e=>⟨_,e,(q2.mono ex).dropLast⟩;exact z83 pins s σ H _ _ v us Q I rx rs ⟨b,vs,w,rfl,rfl,q1,e3,p μ _ w ex hr' (e4.mono ex)⟩
 | _=>exact p.elim
theorem UI:MtR X "list.append" (rM1 X.K cv .append):=by
 intro pins s σ H x xs v us Q I rx rs hh;obtain ⟨y,rfl,μ,h,a,d,Z',hr,ra,rb,p⟩:=hh;unfold m1D at p;cases ra with
 | @loc nn b m =>
  cases e1:h[nn]? with
  | none=>simp only [e1] at p;exact p.elim
  | some o =>
   cases o with
   | dK _=>simp only [e1] at p;exact p.elim
   | fK _=>simp only [e1] at p;exact p.elim
   | dT _=>simp only [e1] at p;exact p.elim
   | obj _ _=>simp only [e1] at p;exact p.elim
   | lst ds =>
    simp only [e1] at p;obtain ⟨vs,q1,q2⟩:=wu hr m e1;split at p
    ·rename_i c;obtain ⟨hr',ex⟩:=hr.chg (u:=.lst (vs++[y])) (o':=.lst (ds++[d])) e1 m λ H' ex e=>⟨_,e,(q2.mono ex).append (.cons (rb.mono ex) .nil)⟩;exact O9 pins s σ H _ _ v us Q I rx rs ⟨b,vs,y,rfl,rfl,q1,by rw [<- q2.length];exact Q3 c,p μ _ .non ex hr' .non⟩
    ·exact p.elim
 | _=>exact p.elim
theorem UJ (l b:Addr)(xs ys:Array Value)(n m:Nat)(dd:Option Addr)(ss:211)(h0:¬(!xs.isEmpty&&Builtin.List.listTooLong (xs.size+ys.size))=true)(h1:xs.size<=sizeLine)(h2:xs.size+ys.size<=sizeLine+1) :
  Meets (Builtin.«list.extend» ⟨[.ref l,.ref b],[]⟩) (λ _ R s =>
   s.heap.get? l=some { cls:=.type "list",data:=.seq xs n } /\
   s.heap.get? b=some ⟨.type "tuple",dd,.seq ys m,ss⟩ /\
   R (.ok (.ret Value.none)) { s with heap:=s.heap.update l (Obj.mapSeq λ x=>x++ys),toks:=s.toks }) :=
 .of_wp λ prog w A R s h=>by
  obtain ⟨hp,g,d,tk,os⟩:=s;obtain ⟨hl,hb,h⟩:=h;have f1:=AutoSeq1.idx_int;have f2:=AutoSeq1.sub_list_tuple;have f3:=AutoSeq1.sub_tuple_list;have f4:=AutoSeq1.sub_tuple_tuple;have f5:=AutoSeq1.sub_list_list;have hz:(xs++ys).size<=sizeLine+1:=by rw [Array.size_append];exact h2
  wp_walk using (wpAny_updateSeq hl rfl),AutoSeq1.wpAny_loadPart' hl,AutoSeq1.wpAny_loadPart' hb
  exact ⟨_,rfl,h⟩
noncomputable def zbi (K:Y01):V->List V->Hp->VK->Prop:=λ x vs H Q=>∃ l b xs zs,x=.ref l/\vs=[.ref b]/\H l=some 195/\SqT K H b zs/\xs.length+zs.length<=sizeLine/\Q .non (upd H l (.lst (xs++zs)))
theorem z4u {X:Cx}:MtM X "list.extend" (zbi X.K):=by
 intro pins s σ H x vs v us Q I rx rv h;obtain ⟨l,b,xs,zs,rfl,rfl,hH,hB,hz,q⟩:=h;cases rx;obtain ⟨u,rfl,ru⟩:=rv.one;cases ru;obtain ⟨z,its,n,r,hl,e⟩:=I.lstM hH;obtain ⟨its2,r2,⟨o,e2,oc,m,od⟩,z2⟩:=I.tuple hB;obtain ⟨oc',dd,od',ss⟩:=o;cases oc;cases od;have hl2:=r2.length;have hsz:its.toArray.size+its2.toArray.size<=sizeLine:=by simp only [Y0f];omega
 have hlong:¬ (!its.toArray.isEmpty&&Builtin.List.listTooLong (its.toArray.size+its2.toArray.size))=true:=by rw [Zt hsz,Bool.and_false];exact Y0x
 refine call_meets F.slot_list_extend ⟨_,e,rfl⟩ F.entry_list_extend (F.args_list_extend_2 _ _) (UJ l b its.toArray its2.toArray n m dd ss hlong (by simp only [Y0f];omega) 128) ⟨e,e2,?_⟩;refine ⟨.non,_,I.lset hH e 130 (r.append r2) (by rw [Y05];omega),rfl,q⟩
theorem UK:MtR X "list.extend" (rM1 X.K cv .extend):=by
 intro pins s σ H x xs v us Q I rx rs hh;obtain ⟨y,rfl,μ,h,a,d,Z',hr,ra,rb,p⟩:=hh;unfold m1D at p;cases ra with
 | @loc nn b m =>
  cases e1:h[nn]? with
  | none=>simp only [e1] at p;exact p.elim
  | some o =>
   cases o with
   | dK _=>simp only [e1] at p;exact p.elim
   | fK _=>simp only [e1] at p;exact p.elim
   | dT _=>simp only [e1] at p;exact p.elim
   | obj _ _=>simp only [e1] at p;exact p.elim
   | lst ds =>
    simp only [e1] at p;obtain ⟨vs,q1,q2⟩:=wu hr m e1;cases rb with
    | @loc nm b2 m2 =>
     cases e2:h[nm]? with
     | none=>simp only [e2] at p;exact p.elim
     | some o2 =>
      cases o2 with
      | dK _=>simp only [e2] at p;exact p.elim
      | fK _=>simp only [e2] at p;exact p.elim
      | dT _=>simp only [e2] at p;exact p.elim
      | obj _ _=>simp only [e2] at p;exact p.elim
      | lst ds2 =>
       simp only [e2] at p;obtain ⟨vs2,q3,q4⟩:=wu hr m2 e2;split at p
       ·rename_i c;obtain ⟨hr',ex⟩:=hr.chg (u:=.lst (vs++vs2)) (o':=.lst (ds++ds2)) e1 m λ H' ex e=>⟨_,e,(q2.mono ex).append (q4.mono ex)⟩;exact Oa pins s σ H _ _ v us Q I rx rs ⟨b,b2,vs,vs2,rfl,rfl,q1,q3,by rw [<- q2.length,<- q4.length];exact wK c,p μ _ .non ex hr' .non⟩
       ·exact p.elim
    | @tup ds2 vs2 b2 q3 q4 =>
     simp only at p;split at p
     ·rename_i c;obtain ⟨hr',ex⟩:=hr.chg (o':=.lst (ds++ds2)) e1 m λ H' ex e=>⟨_,e,(q2.mono ex).append (q4.mono ex)⟩;exact z4u pins s σ H _ _ v us Q I rx rs ⟨b,b2,vs,vs2,rfl,rfl,q1,q3,by rw [<- q2.length,<- q4.length];exact wK c,p μ _ .non ex hr' .non⟩
     ·exact p.elim
    | _=>exact p.elim
 | _=>exact p.elim
noncomputable def zdy (K:Y01)(cv:160):V->Option Int->Option Int->Hp->VK->Prop:=λ x lo hi H Q=>∃ μ h a Z,HR K μ h H/\Rep K μ H a x/\PostE K cv (Rep K) μ H (yz a lo hi h) Q Z
theorem qj {K:Y01}{cv:160}{μ:XZ}{H:Hp}{h:Hh}{ds:181}{vs:193}{Q:VK}{Z:Value->Hp->Prop}(hr:HR K μ h H)(r:274)(p:PostE K cv (Rep K) μ H (new (.lst ds) h) Q Z) :
  ∀ b,H b=none->Q (.ref b) (upd H b (.lst vs)):=λ b hb=>by
 refine p _ _ _ ((zt hb).add hb) (hr.alloc hb (hr.fresh hb) λ μ' g=>⟨_,zC,(r.mono (zt hb)).mono' g⟩) (.loc ?_);rw [<- hr.len,Y0q 175,Y1z];rfl
theorem z4v {xs:181}{lo hi:281}{h:Hh}:yz 241 lo hi h=if HT.sIx xs.length 0 lo=0/\HT.sIx xs.length xs.length hi=xs.length then .ok 241 h else .ok (.tup (jU xs lo hi)) h:=rfl
theorem z4w {n:Nat}{lo hi:281}{h:Hh}:yz 151 lo hi h=match rd h n with | some xs=>new (.lst (jU xs lo hi)) h | none=>.no:=rfl
theorem z4x:SlR X (zdy X.K cv):=by
 intro pins s σ H x v vl vu lo hi sl Q I rx hs pl pu hh;obtain ⟨μ,h,a,Z',hr,ra,p⟩:=hh;cases ra with
 | tup h1 h2 =>
  rw [z4v] at p;split at p
  ·rename_i c;rw [h2.length] at c;exact z46 pins s σ H _ v vl vu lo hi sl Q I rx hs pl pu ⟨_,_,rfl,h1,c.1,c.2,p.here hr (.tup h1 h2)⟩
  ·rename_i c;rw [h2.length] at c;exact z7z pins s σ H _ v vl vu lo hi sl Q I rx hs pl pu ⟨_,_,rfl,h1,c,λ b hb=>p μ _ _ (zt hb) (hr.tup hb) (.tup (SqT.of zC) ((h2.cut lo hi).mono (zt hb)))⟩
 | fl h1 h2=>exact Vx pins s σ H _ v vl vu lo hi sl Q I rx hs pl pu ⟨_,_,rfl,h1.sq,qj hr (h2.cut lo hi) p⟩
 | @loc nn b m =>
  rw [z4w] at p;cases e1:rd h nn with
  | none=>simp only [e1] at p;exact p.elim
  | some xs =>
   simp only [e1] at p;obtain ⟨vs,hs1,rs⟩:=hr.rd e1 m;exact Vx pins s σ H _ v vl vu lo hi sl Q I rx hs pl pu ⟨_,_,rfl,hs1,qj hr (rs.cut lo hi) p⟩
 | _=>exact p.elim
theorem We {K:Y01}{μ:XZ}{H:Hp}{h:Hh}{d:D}{v:V}{xs:181}(hr:HR K μ h H)(r:Rep K μ H d v)(e:qx d h=some xs):∃ a vs,v=.ref a/\((SqL K H a vs/\(∀ ys,d≠.tup ys))\/(SqT K H a vs/\d=.tup xs))/\Reps K μ H xs vs:=by
 unfold qx at e;cases r with
 | tup h1 h2=>cases e;exact ⟨_,_,rfl,.inr ⟨h1,rfl⟩,h2⟩
 | fl h1 h2=>cases e;exact ⟨_,_,rfl,.inl ⟨h1.sq,λ _ z=>nomatch z⟩,h2⟩
 | @loc nn b m =>
  unfold PI.rd at e;cases e1:h[nn]? with
  | none=>simp only [e1] at e;cases e
  | some o =>
   cases o with
   | dK _=>simp only [e1] at e;cases e
   | fK _=>simp only [e1] at e;cases e
   | dT _=>simp only [e1] at e;cases e
   | obj _ _=>simp only [e1] at e;cases e
   | lst ds =>
    simp only [e1] at e;cases e;obtain ⟨vs,q1,q2⟩:=wu hr m e1;exact ⟨_,_,rfl,.inl ⟨SqL.of q1,λ _ z=>nomatch z⟩,q2⟩
 | _=>cases e
noncomputable def z6k (d:D)(h:Hh):Res D:=match qx d h with | some xs=>new (.lst xs) h | none=>.no
noncomputable def zbj (d:D)(h:Hh):Res D:=match qx d h with | some xs=>.ok (.tup xs) h | none=>.no
theorem UL:jh X (.type "list") (λ xs H Q=>∃ x,xs=[x]/\r1 X.K cv z6k x H Q):=by
 intro pins s σ H xs us Q I r hh;obtain ⟨x,rfl,μ,h,a,Z',hr,ra,p⟩:=hh;unfold z6k at p;cases e:qx a h with
 | none=>rw [e] at p;exact p.elim
 | some ds =>
  rw [e] at p;obtain ⟨b,vs,rfl,q1,q2⟩:=We hr ra e;exact WP pins s σ H _ us Q I r ⟨b,vs,rfl,q1.elim (λ z=>.inl z.1) (λ z=>.inr z.1),qj hr q2 p⟩
theorem Ov:jh X (.type "tuple") (λ xs H Q=>∃ x,xs=[x]/\r1 X.K cv zbj x H Q):=by
 intro pins s σ H xs us Q I r hh;obtain ⟨x,rfl,μ,h,a,Z',hr,ra,p⟩:=hh;unfold zbj at p;cases e:qx a h with
 | none=>rw [e] at p;exact p.elim
 | some ds =>
  rw [e] at p;obtain ⟨b,vs,rfl,q1,q2⟩:=We hr ra e;refine qt pins s σ H _ us Q I r ⟨b,vs,rfl,?_⟩;rcases q1 with ⟨q1,_⟩ | ⟨q1,rfl⟩
  ·exact .inl ⟨q1,λ l hl=>p μ _ _ (zt hl) (hr.tup hl) (.tup (SqT.of zC) (q2.mono (zt hl)))⟩
  ·exact .inr ⟨q1,p.here hr ra⟩
noncomputable def zbk (a b:D)(h:Hh):Res D:=match a,b with | .int i,.int j=>.ok (.int (if j > i then j else i)) h | _,_=>.no
theorem Ox (hc:216):jh X (.builtin "max") (λ xs H Q=>∃ x y,xs=[x,y]/\r2 X.K cv zbk x y H Q):=by
 intro pins s σ H xs us Q I r hh;obtain ⟨x,y,rfl,μ,h,a,b,Z',hr,ra,rb,p⟩:=hh;unfold zbk at p;cases ra with
 | int i =>
  cases rb with
  | int j=>exact O3 hc pins s σ H _ us Q I r ⟨i,j,rfl,p.here hr (.int _)⟩
  | _=>exact p.elim
 | _=>exact p.elim
theorem ZS {K:Y01}{μ:XZ}{H:Hp}:∀ {ds:181}{vs:193}{bs:List Bool},Reps K μ H ds vs->wQ ds=some bs->vs=bs.map V.bl
 | _,_,_,.nil,e=>by cases e;rfl
 | _,_,_,.cons r t,e=>by
  cases r with
  | bl b =>
   unfold wQ at e;obtain ⟨bs',e1,rfl⟩:=Y1r.mp e;rw [ZS t e1];rfl
  | _=>cases e
theorem strs_reps {K:Y01}{μ:XZ}{H:Hp}:∀ {ds:181}{vs:193}{bs:XQ},Reps K μ H ds vs->qG ds=some bs->vs=bs.map V.str
 | _,_,_,.nil,e=>by cases e;rfl
 | _,_,_,.cons r t,e=>by
  cases r with
  | str b =>
   unfold qG at e;obtain ⟨bs',e1,rfl⟩:=Y1r.mp e;rw [strs_reps t e1];rfl
  | _=>cases e
theorem y8 {K:Y01}{μ:XZ}{H:Hp}{h:Hh}{n:Nat}{a:Addr}{ds:181}(hr:HR K μ h H)(m:μ[n]?=some a)(e:PI.rd h n=some ds):∃ vs,H a=some (.lst vs)/\Reps K μ H ds vs:=by
 unfold PI.rd at e;cases e1:h[n]? with
 | none=>simp only [e1] at e;cases e
 | some o =>
  cases o with
  | dK _=>simp only [e1] at e;cases e
  | fK _=>simp only [e1] at e;cases e
  | dT _=>simp only [e1] at e;cases e
  | obj _ _=>simp only [e1] at e;cases e
  | lst xs =>
   simp only [e1] at e;cases e;exact wu hr m e1
theorem Oy:jh X (.type "int") (λ xs H Q=>∃ x,xs=[x]/\r1 X.K cv (c1D .int) x H Q):=by
 intro pins s σ H xs us Q I r hh;obtain ⟨x,rfl,μ,h,a,Z',hr,ra,p⟩:=hh;unfold c1D at p;cases ra with
 | int i=>exact JU pins s σ H _ us Q I r (.inl ⟨i,rfl,p.here hr (.int _)⟩)
 | bl b=>exact JU pins s σ H _ us Q I r (.inr ⟨b,rfl,p.here hr (.int _)⟩)
 | _=>exact p.elim
theorem Oz (hc:216):jh X (.builtin "all") (λ xs H Q=>∃ x,xs=[x]/\r1 X.K cv (c1D .all) x H Q):=by
 intro pins s σ H xs us Q I r hh;obtain ⟨x,rfl,μ,h,a,Z',hr,ra,p⟩:=hh;unfold c1D at p;cases ra with
 | @loc nn b m =>
  simp only at p;split at p
  ·rename_i bs e;obtain ⟨ds,e1,e2⟩:=Y3f.mp e;obtain ⟨vs,q1,q2⟩:=y8 hr m e1;have ev:=ZS q2 e2;subst ev;exact BL hc pins s σ H _ us Q I r ⟨b,bs,rfl,SqL.of q1,p.here hr 262⟩
  ·exact p.elim
 | _=>exact p.elim
theorem z0d (hc:216):jh X (.builtin "any") (λ xs H Q=>∃ (p:Addr) (bs:List Bool),xs=[.ref p]/\SqL X.K H p (bs.map V.bl)/\Q (.bl (bs.any id)) H):=by
 intro pins s σ H xs us Q I r h;obtain ⟨p,bs,rfl,hq,q⟩:=h;obtain ⟨u,rfl,ru⟩:=qS r;cases ru;obtain ⟨its,rv,pl,hz⟩:=I.list hq;have hb:=ZB rv;have hl:=pl.isList;have hlt:p<s.heap.objs.size:=by obtain ⟨_,e,_⟩:=hl;exact Y0g e
 refine call_any_walk (wpAny_pyIter_list hl ?_);refine ⟨s.heap.objs.size,[s.heap.objs.size,p],[s.heap.objs.size],its.toArray.size,_,_,λ i=>(bs[i]?).getD false,rfl,Walks.list (A:=X.A.in1) (I.ok.hd hc) _ p (Y0k hlt) its.toArray,
  ⟨203,hl.push _⟩,λ i v s' Q' E' hP hQ=>?_,λ h' tk hk=>?_⟩
 ·obtain ⟨b,e,rfl⟩:=hb.get i v (by simpa using hP);simp only [e,Y2x] at hQ;exact wpAny_truthy_bool hQ
 ·have e:((List.range its.toArray.size).any λ i=>(bs[i]?).getD false)=bs.any id:=by
   rw [Y0f,hb.length];exact PyProof.Rows.LSm.range_any bs
  rw [e];exact ⟨.bl (bs.any id),H,I.kept (PyProof.Rows.LSm.kept_iter hk),rfl,q⟩
theorem OA (hc:216):jh X (.builtin "any") (λ xs H Q=>∃ x,xs=[x]/\r1 X.K cv (c1D .any) x H Q):=by
 intro pins s σ H xs us Q I r hh;obtain ⟨x,rfl,μ,h,a,Z',hr,ra,p⟩:=hh;unfold c1D at p;cases ra with
 | @loc nn b m =>
  simp only at p;split at p
  ·rename_i bs e;obtain ⟨ds,e1,e2⟩:=Y3f.mp e;obtain ⟨vs,q1,q2⟩:=y8 hr m e1;have ev:=ZS q2 e2;subst ev;exact z0d hc pins s σ H _ us Q I r ⟨b,bs,rfl,SqL.of q1,p.here hr 262⟩
  ·exact p.elim
 | _=>exact p.elim
theorem Wf {K:Y01}{μ:XZ}{H:Hp}:∀ {ds:181}{vs:193}{is:179},Reps K μ H ds vs->wt ds=some is->vs=is.map V.int
 | _,_,_,.nil,e=>by cases e;rfl
 | _,_,_,.cons q r,e=>by
  cases q with
  | int i =>
   unfold wt at e;obtain ⟨b,e1,rfl⟩:=Y1r.mp e;rw [Wf r e1];rfl
  | _=>cases e
theorem OB (hc:216):jh X (.builtin "sum") (λ xs H Q=>∃ x,xs=[x]/\r1 X.K cv (c1D .sum) x H Q):=by
 intro pins s σ H xs us Q I r hh;obtain ⟨x,rfl,μ,h,a,Z',hr,ra,p⟩:=hh;unfold c1D at p;cases ra with
 | @loc nn b m =>
  simp only at p;split at p
  ·rename_i bs e;obtain ⟨ds,e1,e2⟩:=Y3f.mp e;obtain ⟨vs,q1,q2⟩:=y8 hr m e1;have ev:=Wf q2 e2;subst ev;exact Og hc pins s σ H _ us Q I r ⟨b,bs,rfl,SqL.of q1,p.here hr (.int _)⟩
  ·exact p.elim
 | _=>exact p.elim
theorem z0e {K:Y01}{μ:XZ}{H:Hp}(ys:XQ):Reps K μ H (ys.map D.str) (ys.map V.str):=by
 induction ys with
 | nil=>exact .nil
 | cons y r ih=>exact .cons (.str y) ih
noncomputable def zdz (K:Y01):Bh:=λ o i v H Q=>∃ μ h a b c h',HR K μ h H/\Rep K μ H a o/\Rep K μ H b i/\Rep K μ H c v/\ZM a b c h=some h'/\∀ μ' H',Ext K μ H μ' H'->HR K μ' h' H'->Q H'
theorem RepKs.map {κ:Type}[DecidableEq κ]{K:Y01}{μ:XZ}{H:Hp}{k:κ}{d:D}{v:V}(q:Rep K μ H d v):∀ {ds:List (κ×D)}{vs:List (κ×V)},RepKs K μ H ds vs ->
  RepKs K μ H (ds.map λ kv=>if kv.1=k then (kv.1,d) else kv) (vs.map λ kv=>if kv.1=k then (kv.1,v) else kv)
 | _,_,.nil=>.nil
 | _,_,.cons (k:=k') h r=>by
  rw [Y0a,Y0a];by_cases e:k'=k
  ·rw [if_pos e,if_pos e];exact .cons q (RepKs.map q r)
  ·rw [if_neg e,if_neg e];exact .cons h (RepKs.map q r)
theorem RepKs.any {κ:Type}[DecidableEq κ]{K:Y01}{μ:XZ}{H:Hp}(k:κ):∀ {ds:List (κ×D)}{vs:List (κ×V)},RepKs K μ H ds vs->(ds.any λ kv=>decide (kv.1=k))=(vs.any λ kv=>decide (kv.1=k))
 | _,_,.nil=>rfl
 | _,_,.cons h r=>by rw [Y0p,Y0p,RepKs.any k r]
theorem RepKs.snoc {κ:Type}[DecidableEq κ]{K:Y01}{μ:XZ}{H:Hp}{k:κ}{d:D}{v:V}(q:Rep K μ H d v):∀ {ds:List (κ×D)}{vs:List (κ×V)},RepKs K μ H ds vs->RepKs K μ H (ds++[(k,d)]) (vs++[(k,v)])
 | _,_,.nil=>.cons q .nil
 | _,_,.cons h r=>.cons h (RepKs.snoc q r)
theorem RepKs.put {κ:Type}[DecidableEq κ]{K:Y01}{μ:XZ}{H:Hp}{k:κ}{d:D}{v:V}{ds:List (κ×D)}{vs:List (κ×V)}(r:RepKs K μ H ds vs)(q:Rep K μ H d v):RepKs K μ H (qY ds k d) (jM vs k v):=by
 unfold qY jM;rw [<- r.any k]
 split
 ·exact r.map q
 ·exact r.snoc q
theorem z0f (hu:X.A.units+1<cLine):z7g X (zdz X.K):=by
 intro pins s σ H o i v ov iv u Q I ro ri rv hh;obtain ⟨μ,h,a,b,c,h',hr,ra,rb,rc,e,q⟩:=hh;unfold ZM at e;cases ra with
 | @loc nn p m =>
  cases e1:h[nn]? with
  | none=>simp only [e1] at e;cases e
  | some ob =>
   cases ob with
   | lst xs=>simp only [e1] at e;cases e
   | obj _ _=>simp only [e1] at e;cases e
   | dT _=>simp only [e1] at e;cases e
   | fK _=>simp only [e1] at e;cases e
   | dK kvs =>
    simp only [e1] at e;obtain ⟨vs,q1,q2⟩:=(hr.obj nn p _ m e1:RepO X.K μ H p 177);cases e2:jG b with
    | none=>simp only [e2,Y2y] at e;cases e
    | some k =>
     simp only [e2,Y2f] at e;split at e
     ·rename_i hl;cases e;have ey:=y6 rb e2;subst ey;obtain ⟨hr',ex⟩:=hr.chg (u:=.dK (jM vs k v)) (o':=.dK (qY kvs k c)) e1 m λ H' ex e=>⟨_,e,(q2.mono ex).put (rc.mono ex)⟩;cases ro;exact Oc hu I (DPut.k q1 (by rw [<- q2.length];exact Q3 hl)) ri rv λ s' I'=>⟨_,I',q μ _ ex hr'⟩
     ·cases e
 | _=>cases e
noncomputable def zbl:Bh:=λ o i v H Q=>∃ a b kvs k,o=.ref a/\i=.ref b/\DT H a kvs/\H b=some (.tup (k.map kV))/\kvs.length<sizeLine/\Q (upd H a (.dT (jM kvs k v)))
theorem z8n (hu:X.A.units+1<cLine):z7g X zbl:=by
 intro pins s σ H o i v ov iv u Q I ro ri rv hh;obtain ⟨a,b,kvs,k,rfl,rfl,g,eb,hz,q⟩:=hh;cases ro;cases ri;exact Oi hu I g eb hz rv λ s' I'=>⟨_,I',q⟩
theorem z0g {K:Y01}{μ:XZ}{H:Hp}{h h':Hh}{a c:D}{ds:181}{x v:V}{vs:193}(hr:HR K μ h H)(ra:Rep K μ H a x)(rd:274)(rc:Rep K μ H c v)(e:putT a ds c h=some h') :
  ∃ b kvs k,x=.ref b/\DT H b kvs/\vs=k.map kV/\kvs.length<sizeLine/\∀ H1,Ext K μ H μ H1->HR K μ h H1->DT H1 b kvs->HR K μ h' (upd H1 b (.dT (jM kvs k v)))/\Ext K μ H1 μ (upd H1 b (.dT (jM kvs k v))):=by
 unfold putT at e;cases ra with
 | @loc nn p m =>
  cases e1:h[nn]? with
  | none=>simp only [e1] at e;cases e
  | some ob =>
   cases ob with
   | lst _=>simp only [e1] at e;cases e
   | obj _ _=>simp only [e1] at e;cases e
   | dT kvs =>
    simp only [e1] at e;obtain ⟨ws,q1,q2⟩:=(hr.obj nn p _ m e1:RepO K μ H p (.dT kvs));cases e2:qW ds with
    | none=>simp only [e2,Y2y] at e;cases e
    | some k =>
     simp only [e2,Y2f] at e;split at e
     ·rename_i hl;cases e;refine ⟨p,ws,k,rfl,.inl q1,qi rd e2,by rw [<- q2.length];exact Q3 hl,λ H1 x1 h1 _=>?_⟩;exact h1.chg (u:=.dT (jM ws k v)) e1 m λ H' ex e=>⟨_,e,((q2.mono x1).mono ex).put ((rc.mono x1).mono ex)⟩
     ·cases e
   | fK _=>simp only [e1] at e;cases e
   | dK kvs =>
    cases kvs with
    | cons _ _=>simp only [e1] at e;cases e
    | nil =>
     simp only [e1] at e;obtain ⟨ws,q1,q2⟩:=(hr.obj nn p _ m e1:RepO K μ H p (.dK []));cases q2;cases e2:qW ds with
     | none=>simp only [e2,Option.map_none] at e;cases e
     | some k =>
      simp only [e2,Y3l] at e;cases e;refine ⟨p,[],k,rfl,.inr ⟨q1,rfl⟩,qi rd e2,by decide,λ H1 x1 h1 _=>?_⟩;exact h1.chg e1 m λ H' ex e=>⟨_,e,.cons ((rc.mono x1).mono ex) .nil⟩
 | _=>cases e
end
theorem jr {K:Y01}{f:α->Hh->Res γ}
  (e0:Ext K μ0 H0 μ H) (hr:HR K μ h H) (er:ER K μ ρ σ H) (p:PostE K cv R' μ0 H0 ((m ρ h).bind f) Q Zz) (hz:∀ C H',Zz C H'->Z σ C H')
  (go:∀ a h1 μ1 H1 x,m ρ h=.ok a h1->Ext K μ H μ1 H1->HR K μ1 h1 H1->ER K μ1 ρ σ H1->R μ1 H1 a x->PostE K cv R' μ0 H0 (f a h1) Q Zz->Q' x H1) :
  zL K cv R Z m σ H Q':=by
 refine ⟨μ,ρ,h,hr,er,?_⟩;cases e:m ρ h with
 | ok a h1 =>
  rw [e,bind_ok] at p;exact λ μ1 H1 x e1 r1 q1=>go a h1 μ1 H1 x e e1 r1 (er.mono e1) q1 p
 | exc c h1 =>
  rw [e,bind_exc] at p;exact p.elim
 | no=>rw [e,bind_no] at p;exact p
noncomputable def Src (K:Y01)(μ0:XZ)(H0:Hp)(c:Ck)(ds:181)(J:It):Prop:=∀ μ h H,Ext K μ0 H0 μ H->HR K μ h H->stay c h ->
 (∀ i d,ds[i]?=some d->J.go i H/\∀ x H',J.yld i H x H'->Ext K μ H μ H'/\HR K μ h H'/\Rep K μ H' d x)/\J.stop ds.length H
noncomputable def RJ (K:Y01):List Addr->Hp->(Ck×List D)->It->Prop:=λ μ H q J=>Src K μ H q.1 q.2 J
noncomputable def RL (K:Y01)(H0:Hp):List Addr->Hp->List D->V->Prop:=λ μ H ds v=>∃ p vs,v=.ref p/\H p=some (.lst vs)/\Reps K μ H ds vs/\p∉μ/\H0 p=none
abbrev z0h (K:Y01)(cv:160)(Z:ZK)(m:En->Hh->Res (List D)):TE:=λ σ H Q=>zL K cv (RL K H) Z m σ H Q
section
variable {K:Y01}{μ:XZ}{H:Hp}{h:Hh}{ds:181}{vs:193}{a:Addr}
theorem Q7 (k:∀ μ1 h1 H1,Ext K μ H μ1 H1->HR K μ1 h1 H1->stay c h1->(∀ i d,ds[i]?=some d->J.go i H1/\∀ x H',J.yld i H1 x H'->H'=H1/\Rep K μ1 H1 d x)/\J.stop ds.length H1):Src K μ H c ds J:=λ μ1 h1 H1 ex hr st =>
 ⟨λ i d e=>⟨((k μ1 h1 H1 ex hr st).1 i d e).1,λ x H' y=>by obtain ⟨rfl,r⟩:=((k μ1 h1 H1 ex hr st).1 i d e).2 x H' y;exact ⟨Ext.refl,hr,r⟩⟩,(k μ1 h1 H1 ex hr st).2⟩
theorem UM (k:∀ μ1 h1 H1,Ext K μ H μ1 H1->HR K μ1 h1 H1->stay c h1->∃ vs,SqL K H1 a vs/\Reps K μ1 H1 ds vs):Src K μ H c ds (Itl K a):=Q7 λ μ1 h1 H1 ex hr st=>by
 obtain ⟨vs,q1,q2⟩:=k μ1 h1 H1 ex hr st;refine ⟨λ i d e=>?_,⟨vs,q1,by rw [<- q2.length];exact Y0b _⟩⟩;obtain ⟨w,e1,e2⟩:=q2.get e;refine ⟨⟨vs,w,q1,e1⟩,λ x H' y=>⟨y.1,?_⟩⟩
 have:=y.2 vs q1
 rw [e1] at this;cases this;exact e2
theorem z4y (m:μ[n]?=some a):Src K μ H [(n,ds)] ds (Itl K a):=UM λ μ1 h1 H1 ex hr st=>by
 have e:=st (n,ds) (Y0d.mpr rfl);have m1:=ex.loc n a m;unfold PI.rd at e;cases e1:h1[n]? with
 | none=>simp only [e1] at e;cases e
 | some o =>
  cases o with
  | dK _=>simp only [e1] at e;cases e
  | fK _=>simp only [e1] at e;cases e
  | dT _=>simp only [e1] at e;cases e
  | obj _ _=>simp only [e1] at e;cases e
  | lst xs =>
   simp only [e1] at e;cases e;obtain ⟨vs,q1,q2⟩:=wu hr m1 e1;exact ⟨vs,SqL.of q1,q2⟩
theorem z8o (f:Fz K H a vs)(r:274):Src K μ H [] ds (Itl K a):=UM λ μ1 h1 H1 ex hr st=>⟨vs,(ex.fz _ _ f).sq,r.mono ex⟩
theorem z4z (e:H a=some (.lst vs))(n:a∉μ)(r:274):Src K μ H [] ds (Itl K a):=UM λ μ1 h1 H1 ex hr st=>⟨vs,SqL.of (ex.oth _ _ e n),r.mono ex⟩
theorem z50 (f:SqT K H a vs)(r:274):Src K μ H [] ds (Itt K a):=Q7 λ μ1 h1 H1 ex hr st=>by
 have q1:=ex.tup _ _ f;have q2:=r.mono ex;refine ⟨λ i d e=>?_,⟨vs,q1,by rw [<- q2.length];exact Y0b _⟩⟩;obtain ⟨w,e1,e2⟩:=q2.get e;refine ⟨⟨vs,w,q1,e1⟩,λ x H' y=>⟨y.1,?_⟩⟩
 have:=y.2 vs q1
 rw [e1] at this;cases this;exact e2
theorem Q8 (k:Key):Rep K μ H (dK1 k) (kV k):=by cases k with | inl i=>exact .int i | inr x=>exact .str x | nn=>exact .non
theorem Wg:∀ {ds:157}{vs:173},RepKs K μ H ds vs->∀ {i:Nat}{d:D},(ds.map λ p=>dK1 p.1)[i]?=some d->∃ k v,vs[i]?=some (k,v)/\d=dK1 k
 | _,_,.nil,i,d,e=>by simp at e
 | _,_,.cons h r,0,d,e=>by simp at e;exact ⟨_,_,rfl,e.symm⟩
 | _,_,.cons h r,i+1,d,e=>Wg r 291
theorem Yv {vs:173}(e:H a=some (.frz o (.dK vs)))(r:RepKs K μ H kvs vs):Src K μ H [] (kvs.map λ p=>dK1 p.1) (Itk a o vs):=Q7 λ μ1 h1 H1 ex hr st=>by
 have e1:=ex.fk _ _ _ e;refine ⟨λ i d ed=>?_,by rw [Y07,r.length],e1⟩;obtain ⟨k,v,ek,rfl⟩:=Wg r ed;refine ⟨⟨(Y00.mp ek).1,e1⟩,λ x H' y=>⟨y.1,?_⟩⟩;obtain ⟨k',v',ek',rfl⟩:=y.2;rw [ek] at ek';cases ek';exact Q8 k
theorem ZT:∀ {ds:157}{vs:173},RepKs K μ H ds vs->∀ {i:Nat}{d:D},(ds.map λ p=>D.tup [dK1 p.1,p.2])[i]?=some d->∃ k v e,vs[i]?=some (k,v)/\d=.tup [dK1 k,e]/\Rep K μ H e v
 | _,_,.nil,i,d,e=>by simp at e
 | _,_,.cons h r,0,d,e=>by simp at e;exact ⟨_,_,_,rfl,e.symm,h⟩
 | _,_,.cons h r,i+1,d,e=>ZT r 291
theorem Wh {vs:173}(e:H a=some (.frz o (.dK vs)))(r:RepKs K μ H kvs vs):Src K μ H [] (kvs.map λ p=>D.tup [dK1 p.1,p.2]) (Itm a o vs):=λ μ1 h1 H1 ex hr st=>by
 have e1:=ex.fk _ _ _ e;refine ⟨λ i d ed=>?_,by rw [Y07,r.length],e1⟩;obtain ⟨k,v,x,ek,rfl,rx⟩:=ZT r ed;refine ⟨⟨(Y00.mp ek).1,e1⟩,λ y H' z=>?_⟩;obtain ⟨T,k',v',rfl,hT,ek',rfl⟩:=z;rw [ek] at ek';cases ek';exact ⟨zt hT,hr.tup hT,.tup (SqT.of zC) (.cons (Q8 k) (.cons ((rx.mono ex).mono (zt hT)) .nil))⟩
theorem z51 (j:Nat):Src K μ H [] ((List.range j).map λ (k:Nat)=>.int (k:Nat)) (Itr 0 j):=Q7 λ μ1 h1 H1 ex hr st=>by
 refine ⟨λ i d e=>?_,by show j<=_;rw [Y07,Y2v];exact Y0b _⟩;rw [Y0r] at e;cases e1:(List.range j)[i]? with
 | none=>rw [e1] at e;cases e
 | some c =>
  rw [e1] at e;cases e;obtain ⟨hi,e2⟩:=Y00.mp e1;rw [Y2v] at hi;rw [List.getElem_range] at e2;subst e2;refine ⟨hi,λ x H' y=>⟨y.1,?_⟩⟩;rw [y.2,Int.zero_add];exact .int _
end
section
variable {X:Cx}{Z:ZK}{k:Nat}{n:Nm}{cv:160}{cl:126}{tg:Expr}
theorem z8p {l:Expr}{tl:TE}(hl:PE X l tl):PI X tg l (λ σ H R=>tl σ H λ x H1=>(∃ a,x=.ref a/\(∃ xs,SqL X.K H1 a xs)/\R (Itl X.K a) H1)\/(∃ a,x=.ref a/\(∃ xs,SqT X.K H1 a xs)/\R (Itt X.K a) H1)):=by
 intro pins s σ H R I h;refine thn (hl pins s σ H _ I h) λ v s1 ⟨x,H1,I1,r1,q1⟩=>?_;rcases q1 with ⟨a,rfl,⟨xs,hq⟩,q⟩ | ⟨a,rfl,⟨xs,hq⟩,q⟩
 ·cases r1;obtain ⟨its,rv,p,hz⟩:=I1.list hq;refine wpAny_pyIter_list p.isList ?_;refine ⟨s1.heap.objs.size,[s1.heap.objs.size],_,_,H1,rfl,I1.kept (t':=s1.toks) λ b o e=>Y03 _ e,JS a _,203,λ b hb=>?_,q⟩;have e:b=s1.heap.objs.size:=by simpa using hb
  subst e;exact I1.fpOk 175 (I1.hok.fresh 175)
 ·cases r1;obtain ⟨its,rv,p,hz⟩:=I1.tuple hq;refine wpAny_pyIter_tuple (show s1.heap.IsTuple a its.toArray from p) ?_;refine ⟨s1.heap.objs.size,[s1.heap.objs.size],_,_,H1,rfl,I1.kept (t':=s1.toks) λ b o e=>Y03 _ e,Ue a _,203,λ b hb=>?_,q⟩;have e:b=s1.heap.objs.size:=by simpa using hb
  subst e;exact I1.fpOk 175 (I1.hok.fresh 175)
theorem PI.mono (p:L2.PI X tg iter t)(h:∀ σ H R,t' σ H R->t σ H R):L2.PI X tg iter t':=λ pins s σ H R I q=>p pins s σ H R I (h σ H R q)
noncomputable def gB (K:Y01)(t:Tg):TG:=λ v σ H Q=>∃ μ ρ d ρ' h,HR K μ h H/\ER K μ ρ σ H/\Rep K μ H d v/\jm t d ρ=some ρ' /\
 ∀ σ',ER K μ ρ' σ' H->σ'.length=σ.length->(∀ i,i∉t.idx->σ'[i]?=σ[i]?)->Q σ' H
theorem PG.mono (p:PG X tg t)(h:∀ v σ H Q,t' v σ H Q->t v σ H Q):PG X tg t':=λ pins s σ H v u Q I r q=>p pins s σ H v u Q I r (h v σ H Q q)
noncomputable def gNs:List (Nat×Pos)->TGs
 | []=>zar
 | q::r=>z6a (Vo q.1) (gNs r)
theorem yE (hN:X.N.Nodup):∀ (is:List (Nat×Pos)),(∀ q∈is,q.1<X.N.length/\Loc X.env.scope (X.N.getD q.1 "")/\(X.fn (X.N.getD q.1 "")=true\/X.env.scope.names.lookup (X.N.getD q.1 "")=some .local)) ->
  PGs X (is.map λ q=>.Name (X.N.getD q.1 "") q.2) (gNs is)
 | [],_=>z3j
 | q::r,h=>by
  have hq:=h q (Y04 ..);exact Bj (Vp hN (by rw [Y0h,Y06 hq.1];rfl) hq.2.1 hq.2.2) (yE hN r λ z hz=>h z (Y02 _ hz))
theorem wC (N:XQ)(env:Env):∀ is:List (Nat×Pos),(assignEach (is.map λ q=>.Name (N.getD q.1 "") q.2) env).length=is.length/\(assignEach (is.map λ q=>.Name (N.getD q.1 "") q.2) env).findIdx? (·.1)=none
 | []=>210
 | q::r=>by
  have ih:=wC N env r;rw [Y0a];refine ⟨?_,?_⟩
  ·show ((false,_)::assignEach (r.map λ q=>.Name (N.getD q.1 "") q.2) env).length=_;rw [Y09,ih.1,Y09]
  ·show ((false,_)::assignEach (r.map λ q=>.Name (N.getD q.1 "") q.2) env).findIdx? (·.1)=none;rw [List.findIdx?_cons,ih.2];rfl
theorem Q9 {K:Y01}:∀ (is:List (Nat×Pos)) {ds:181}{vs:193}{ρ:En}{σ:St}{Q:St->Hp->Prop},Reps K μ H ds vs->ds.length=is.length->ER K μ ρ σ H ->
  (∀ σ',ER K μ ((is.zip ds).foldl (λ ρ q=>ρ.set q.1.1 (some q.2)) ρ) σ' H->σ'.length=σ.length->(∀ i,i∉is.map (·.1)->σ'[i]?=σ[i]?)->Q σ' H)->gNs is vs σ H Q
 | [],_,_,ρ,σ,Q,r,hl,er,q=>by
  cases r with
  | nil=>exact ⟨rfl,q σ er rfl λ _ _=>rfl⟩
  | cons _ _=>cases hl
 | p::is,_,_,ρ,σ,Q,r,hl,er,q=>by
  cases r with
  | nil=>cases hl
  | cons r1 r2 =>
   refine ⟨_,_,rfl,?_⟩;refine Q9 is r2 (by simpa using hl) (er.set r1 p.1) λ σ' e1 e2 e3=>?_;refine q σ' e1 (e2.trans Y1f) λ i hi=>?_;rw [Y0a] at hi;rw [e3 i λ z=>hi (Y02 _ z),Y13 λ z=>hi (by rw [<- z];exact Y04 ..)]
theorem zbm (hc:216) (hN:X.N.Nodup) (t:Tg) (h:∀ i∈t.idx,i<X.N.length/\Loc X.env.scope (X.N.getD i "")/\(X.fn (X.N.getD i "")=true\/X.env.scope.names.lookup (X.N.getD i "")=some .local)):PG X (t.py X.N) (gB X.K t):=by
 cases t with
 | one i p =>
  have hq:=h i (Y0d.mpr rfl);refine PG.mono (Vp hN (by rw [Y0h,Y06 hq.1];rfl) hq.2.1 hq.2.2) λ v σ H Q ⟨μ,ρ,d,ρ',h,hr,er,r,e,q⟩=>?_;cases e;exact q _ (er.set r i) Y1f λ j hj=>Y13 λ z=>hj (by rw [<- z];exact Y0d.mpr rfl)
 | tup is p =>
  refine PG.mono (Bk hc (yE hN is λ q hq=>h q.1 (Y0e.mpr ⟨q,hq,rfl⟩)) (wC X.N X.env is).1 (wC X.N X.env is).2) λ v σ H Q ⟨μ,ρ,d,ρ',h,hr,er,r,e,q⟩=>?_;unfold jm at e;cases r with
  | tup h1 h2 =>
   simp only at e;split at e
   ·rename_i c;cases e;exact ⟨_,_,rfl,h1,by rw [<- h2.length];exact c,Q9 is h2 c er q⟩
   ·cases e
  | _=>cases e
end
theorem VP:(1000000:Nat)<sizeLine:=by rw [sizeLine_eq];decide
section
variable {X:Cx}{Z:ZK}{k:Nat}{n:Nm}{cv:160}{cl:126}
theorem zbn {K:Y01}(cap:249)(er:ER K μ ρ σ H):ER K μ (jz cap ρ) (wX cap σ) H:=by
 refine ⟨by unfold jz wX;rw [Y07,Y07],λ j d e=>?_⟩;unfold jz at e;unfold wX;rw [Y0r] at e ⊢;cases e1:cap[j]? with
 | none=>rw [e1] at e;cases e
 | some o =>
  rw [e1] at e;cases o with
  | none=>cases e
  | some i =>
   have e':(ρ[i]?).bind id=some d:=Option.some.inj e;cases e2:ρ[i]? with
   | none=>rw [e2] at e';cases e'
   | some o2 =>
    rw [e2] at e';have e3:=e';subst e3;obtain ⟨v,q1,q2⟩:=er.val i d e2;exact ⟨v,by show some ((σ[i]?).bind id)=_;rw [q1];rfl,q2⟩
theorem z0i {t:Tg}(cok:jp osc scope N NC cap=true)(ht:t.ok scope NC=true)(σ:St):∀ i∈t.idx,(wX cap σ)[i]?=some none:=by
 intro i hi;unfold Tg.ok at ht;have h1:=Y17.mp ht i hi;rw [Y0l] at h1;have hl:=of_decide_eq_true h1.1;have hloc:=of_decide_eq_true h1.2;unfold jp at cok;simp only [Y0l] at cok;obtain ⟨⟨⟨⟨⟨k1,k2⟩,k3⟩,k4⟩,k5⟩,k6⟩:=cok;have hj:=Y17.mp k6 i (Y1n.mpr hl);have hN:NC[i]?=some (NC.getD i ""):=by rw [Y0h,Y06 hl];rfl
 have hc:i<cap.length:=by rw [beq_iff_eq.mp k5];exact hl
 unfold wX;rw [Y0r];cases e:cap[i]? with
 | none=>rw [Y37] at e;omega
 | some o =>
  cases o with
  | none=>rfl
  | some m =>
   exfalso
   rw [e,hN] at hj;simp only [Y0l,beq_iff_eq] at hj;have hfree:=hj.2;rcases hloc with z | z<;>(rw [hfree] at z;cases z)
theorem Wj
  (cok:180) (ht:t.ok scope NC=true)
  (p:z0h X.K cv Z (λ ρ h=>(mi ρ h).bind λ q h1=>if q.2.length<=1000000 then jV q.1 (j1 t (jz cap ρ) mc me) q.2 [] h1 else .no) σ H Q) :
  BK Z cap (zL X.K cv (RJ X.K) Z mi) (gB X.K t) (λ Zc=>zL X.K cv RB Zc mc) (λ Zc=>zL X.K cv 158 Zc me) σ H Q:=by
 obtain ⟨μ,ρ,h,hr,er,p⟩:=p;refine jr Ext.refl hr er p (λ _ _ z=>z) λ q h1 μ1 H1 J _ e1 r1 er1 src p1=>?_;split at p1;rotate_left
 ·exact p1.elim
 rename_i hlen;obtain ⟨c,ds⟩:=q;refine ⟨λ i m ys H2=>m=ds.length-i/\i<=ds.length/\∃ μ2 h2 acc,Ext X.K μ1 H1 μ2 H2/\HR X.K μ2 h2 H2/\Reps X.K μ2 H2 acc ys/\acc.length<=i/\PostE X.K cv (RL X.K H) μ H (jV c (j1 t (jz cap ρ) mc me) (ds.drop i) acc h2) Q (Z σ),
  ⟨ds.length,by simp,Y19 _,μ1,h1,[],Ext.refl,r1,.nil,Y0b _,p1⟩,?_⟩
 rintro i m ys H2 ⟨rfl,hi',μ2,h2,acc,e2,r2,ry,ha,p2⟩
 have hyl:ys.length<=i:=by rw [<- ry.length];exact ha
 have hll:ds.length<=1000000:=hlen;by_cases hlt:i<ds.length
 ·right;rw [Y38 hlt] at p2;unfold jV at p2;split at p2;rotate_left
  ·exact p2.elim
  rename_i st;obtain ⟨s1,s2⟩:=src μ2 h2 H2 e2 r2 st;obtain ⟨g1,g2⟩:=s1 i ds[i] (Y06 hlt);refine ⟨g1,by have:=VP;omega,λ x H3 y=>?_⟩;obtain ⟨e2',r2',rx⟩:=g2 x H3 y;replace e2:=e2.trans e2';replace r2:=r2';replace ry:=ry.mono e2';have er2:=er1.mono e2;unfold j1 at p2;cases eb:jm t ds[i] (jz cap ρ) with
  | none=>rw [eb] at p2;exact p2.elim
  | some ρ' =>
   rw [eb] at p2;refine ⟨μ2,jz cap ρ,ds[i],ρ',h2,r2,zbn cap er2,rx,eb,λ σ4 er4 hl4 hs4=>⟨⟨hl4,λ j v ej=>?_⟩,?_⟩⟩
   ·have nj:j∉t.idx:=λ z=>by rw [z0i cok ht σ j z] at ej;cases ej
    rw [hs4 j nj];exact ej
   have p3:PostE X.K cv (RL X.K H) μ H ((mc ρ' h2).bind λ b h3=>(if b then (me ρ' h3).bind λ d h4=>Res.ok (some d) h4 else Res.ok none h3).bind λ o h'=>jV c (j1 t (jz cap ρ) mc me) (ds.drop (i+1)) (z01 acc o) h') Q (Z σ):=by
    have p2':=p2;rw [zx] at p2';exact p2'
   refine jr (e1.trans e2) r2 er4 p3 (λ _ _ z=>z) λ b h3 μ3 H3' bb _ e3 r3 er5 qb p4=>?_;have qb':=qb;subst qb';cases b with
   | false =>
    refine Z5 ⟨ds.length-(i+1),by omega,rfl,hlt,μ3,h3,acc,e2.trans e3,r3,ry.mono e3,Nat.le_succ_of_le ha,p4⟩
   | true =>
    refine Z6 ?_;have p5:PostE X.K cv (RL X.K H) μ H ((me ρ' h3).bind λ d h4=>jV c (j1 t (jz cap ρ) mc me) (ds.drop (i+1)) (acc++[d]) h4) Q (Z σ):=by
     have p4':=p4;rw [if_pos rfl,zx] at p4';exact p4'
    refine jr ((e1.trans e2).trans e3) r3 er5 p5 (λ _ _ z=>z) λ d h4 μ4 H4 v _ e4 r4 er6 qd p6=>?_;exact ⟨ds.length-(i+1),by omega,rfl,hlt,μ4,h4,acc++[d],(e2.trans e3).trans e4,r4,((ry.mono e3).mono e4).append (.cons qd .nil),by rw [Y05];exact Nat.succ_le_succ ha,p6⟩
 ·left;have ei:i=ds.length:=by omega
  subst ei;rw [List.drop_length] at p2;unfold jV at p2;split at p2;rotate_left
  ·exact p2.elim
  rename_i st;refine ⟨(src μ2 h2 H2 e2 r2 st).2,by have:=VP;omega,λ a ha'=>?_⟩;have ex:=(e1.trans e2);have na:=r2.fresh ha';have n0:H a=none:=by
   cases e:H a with
   | none=>rfl
   | some o=>rw [ex.oth a o e λ z=>na (ex.sub z)] at ha';cases ha'
  exact p2 μ2 _ _ (ex.trans (zt ha')) (r2.tup ha') ⟨a,ys,rfl,zC,ry.mono (zt ha'),na,n0⟩
theorem z0j
  (hc:216) (th:Thr X Z) (hi:L2.PI X (t.py NC) iter (zL X.K cv (RJ X.K) Z mi)) (cok:180) (ht:t.ok scope NC=true)
  (hg:∀ C s H fp pn xe,PG 148 (t.py NC) (gB X.K t))
  (hf:∀ C s H fp pn xe Zc,Thr 148 Zc->PF 148 ifs (zL X.K cv RB Zc mc))
  (hb:∀ C s H fp pn xe Zc,Thr 148 Zc->PE 148 elt (zL X.K cv 158 Zc me))
  (hs:∀ x,foldedSetIterable iter X.env x=pure x) :
  PE X (.ListComp elt [⟨t.py NC,iter,ifs,0⟩] scope pos) (z0h X.K cv Z λ ρ h=>(mi ρ h).bind λ q h1=>if q.2.length<=1000000 then jV q.1 (j1 t (jz cap ρ) mc me) q.2 [] h1 else .no) :=
 PE.mono (z41 hc th hi cok hg hf hb hs) λ σ H Q p=>Wj cok ht p
theorem Kx.comp (C:Kx X Z k n cv cl)(cok:180)(hnd:NC.Nodup)(hgood:NC.all yW=true)
  (th:Thr (zJ X NC scope Cc s H fp pn xe) Zc):Kx (zJ X NC scope Cc s H fp pn xe) Zc k 267 cv cl:=by
 obtain ⟨c1,c2,c3,c4,c5,c6,c7⟩:=jl cok;refine ⟨th,C.rm,rfl,hnd,rfl,c1,λ x hx=>⟨?_,Y17.mp hgood x hx⟩,C.bm,C.gc,C.fn,C.mc,C.xc⟩;obtain ⟨j,hj⟩:=Y32 hx;have cok':=cok;unfold jp at cok';simp only [Y0l] at cok';obtain ⟨⟨⟨⟨⟨k1,k2⟩,k3⟩,k4⟩,k5⟩,k6⟩:=cok';have hl:=(Y00.mp hj).1;have hk:=Y17.mp k6 j (Y1n.mpr hl);have rel:(relabel scope X.env).names.lookup x=(scope.names.lookup x).map λ k=>if k=.free then .cell else k:=wI (scope:=scope) C.kd λ y hy e=>c4 y hy e;rw [hj] at hk;show Vis (relabel scope X.env) x;unfold Vis;rw [rel];cases e:cap[j]? with
 | none=>rw [e] at hk;cases hk
 | some o =>
  rw [e] at hk;cases o with
  | none =>
   have hk':scope.names.lookup x=some .local\/scope.names.lookup x=some .cell:=by simpa using hk
   rcases hk' with hk' | hk'
   ·rw [hk'];exact .inl rfl
   ·rw [hk'];exact .inr 243
  | some m =>
   simp only [Y0l,beq_iff_eq] at hk;rw [hk.2];exact .inr 243
end
theorem RepKs.merge {K:Y01}:∀ {more:157}{mv:173}{ds:157}{vs:173},RepKs K μ H more mv->RepKs K μ H ds vs->RepKs K μ H (yA ds more) (yu vs mv)
 | _,_,_,_,.nil,r=>r
 | _,_,ds,vs,@RepKs.cons _ _ _ _ k d v ds' vs' h t,r=>by
  have z:=RepKs.merge (vs:=jM vs k v) t (r.put h);exact z
theorem Wk {K:Y01}:∀ {ds:181}{vs:193}{kvs:157},Reps K μ H ds vs->wJ ds=some kvs ->
  ∃ mv:List (Key×V),RepKs K μ H kvs mv/\Paired (λ (x:V) (kv:Key×V)=>∃ a,x=.ref a/\SqT K H a [kV kv.1,kv.2]) vs mv
 | _,_,_,.nil,e=>by
  unfold wJ at e;cases e;exact ⟨[],.nil,.nil⟩
 | _,_,kvs,@Reps.cons _ _ _ d v ds vs h t,e=>by
  unfold wJ at e;cases e1:z03 d with
  | none=>rw [e1] at e;simp at e
  | some a =>
   cases e2:wJ ds with
   | none=>rw [e1,e2] at e;simp at e
   | some b =>
    rw [e1,e2] at e;simp only [Option.some.injEq] at e;subst e;obtain ⟨mv,m1,m2⟩:=Wk t e2;unfold z03 at e1;split at e1
    ·rename_i k x;cases ek:jG k with
     | none=>rw [ek] at e1;simp at e1
     | some q =>
      rw [ek] at e1;simp only [Y3l,Option.some.injEq] at e1;subst e1;cases h with
      | tup h1 h2 =>
       cases h2 with
       | cons hk ht =>
        cases ht with
        | cons hx hn =>
         cases hn
         have:=y6 hk ek
         subst this;exact ⟨_,.cons hx m1,.cons ⟨_,rfl,h1⟩ m2⟩
    ·cases e1
theorem z8q:z4r X Z n cv cl .nil:=by
 intro ks pos hl;cases ks with
 | nil =>
  refine ⟨[],z3x,λ σ H Q=>zb λ μ ρ h hr er q=>?_⟩;exact q.here hr .nil
 | cons _ _=>cases hl
theorem z52 (se:PE X (e.py n) (zL X.K cv 158 Z (e.ev cl)))(sr:z4r X Z n cv cl r):z4r X Z n cv cl (.cons e r):=by
 intro ks pos hl;have hl:ks.length=(e.py n::r.py n).length:=hl;cases ks with
 | nil=>cases hl
 | cons k ks =>
  obtain ⟨trs,p1,p2⟩:=sr ks pos (by simpa using hl);refine ⟨(tC (.str k.1),zL X.K cv 158 Z (e.ev cl))::trs,BE B9 se p1,λ σ H Q=>zb λ μ ρ h hr er q=>?_⟩;show zL X.K cv 158 Z (e.ev cl) σ H _;refine za hr er q λ da h1 μ1 H1 x _ e1 r1 er1 qa p3=>?_;refine p2 σ H1 _ (za r1 er1 p3 λ ds h2 μ2 H2 xs _ e2 r2 er2 qb p4=>?_);exact p4.here r2 (.cons (qa.mono e2) qb)
section
variable {X:Cx}{cv:160}
theorem UN (hc:216):jh X (.type "dict") (λ xs H Q=>∃ x,xs=[x]/\r1 X.K cv Yp x H Q):=by
 intro pins s σ H xs us Q I r hh;obtain ⟨x,rfl,μ,h,a,Z',hr,ra,p⟩:=hh;unfold Yp at p;cases ra with
 | @loc nn b mm =>
  simp only at p;cases e:rd h nn with
  | none=>rw [e] at p;exact p.elim
  | some ds =>
   rw [e] at p;simp only at p;split at p
   ·rename_i hl;cases e2:wJ ds with
    | none=>rw [e2] at p;exact p.elim
    | some kvs =>
     rw [e2] at p;have e3:h[nn]?=some (.lst ds):=by
      unfold rd at e;cases e4:h[nn]? with
      | none=>rw [e4] at e;cases e
      | some o=>cases o with
       | lst xs=>rw [e4] at e;cases e;rfl
       | dK _=>rw [e4] at e;cases e
       | fK _=>rw [e4] at e;cases e
       | dT _=>rw [e4] at e;cases e
       | obj _ _=>rw [e4] at e;cases e
     obtain ⟨vs,q1,q2⟩:=wu hr mm e3;obtain ⟨mv,m1,m2⟩:=Wk q2 e2;refine Ux hc pins s σ H _ us Q I r ⟨b,vs,mv,rfl,SqL.of q1,by rw [<- q2.length];exact hl,m2,λ l hb=>?_⟩;refine p _ _ _ ((zt hb).add hb) (hr.alloc hb (hr.fresh hb) λ μ' g=>⟨_,zC,((RepKs.merge m1 .nil).mono (zt hb)).mono' g⟩) (.loc ?_);rw [<- hr.len,Y0q 175,Y1z];rfl
   ·exact p.elim
 | _=>exact p.elim
theorem zbo (hc:216) (hN:X.N.Nodup) (is:List (Nat×Pos)) (p1:Pos) (h:∀ i∈(Tg.tup is p1).idx,i<X.N.length/\Loc X.env.scope (X.N.getD i "")/\(X.fn (X.N.getD i "")=true\/X.env.scope.names.lookup (X.N.getD i "")=some .local)) :
  PG X ((Tg.tup is p1).py X.N) 244:=by
 refine PG.mono (z47 hc (yE hN is λ q hq=>h q.1 (Y0e.mpr ⟨q,hq,rfl⟩)) (wC X.N X.env is).1 (wC X.N X.env is).2) λ v σ H Q ⟨μ,ρ,d,ρ',h,hr,er,r,e,q⟩=>?_;have fin:∀ (ds:181) (vs:193),Reps X.K μ H ds vs->jm (.tup is p1) (.tup ds) ρ=some ρ'->vs.length=is.length/\gNs is vs σ H Q:=λ ds vs h2 e=>by
  unfold jm at e;simp only at e;split at e
  ·rename_i c;cases e;exact ⟨by rw [<- h2.length];exact c,Q9 is h2 c er λ σ' e1 _ _=>q σ' e1⟩
  ·cases e
 cases r with
 | tup h1 h2 =>
  obtain ⟨a,b⟩:=fin _ _ h2 e;exact ⟨_,_,rfl,.inl h1,a,b⟩
 | @loc nn b mm =>
  unfold Q2 at e;simp only at e;cases e1:rd h nn with
  | none=>rw [e1] at e;simp [jm] at e
  | some ds =>
   rw [e1] at e;obtain ⟨vs,hs1,rs⟩:=hr.rd e1 mm;obtain ⟨a,b⟩:=fin _ _ rs e;exact ⟨_,_,rfl,.inr hs1,a,b⟩
 | _=>simp [jm,Q2] at e
end
end PI
namespace PI
open PySem L2
theorem ZU (x z:Str):∀ l:List Str,z∈Yn x l ↔ z=x\/z∈l
 | []=>by simp [Yn]
 | y::r=>by
  unfold Yn
  split
  ·rename_i e;subst e;simp
  ·split
   ·simp
   ·rw [Y08,ZU x z r,Y08];constructor
    ·rintro (h | h | h)
     ·exact .inr (.inl h)
     ·exact .inl h
     ·exact .inr (.inr h)
    ·rintro (h | h | h)
     ·exact .inr (.inl h)
     ·exact .inl h
     ·exact .inr (.inr h)
theorem jW (z:Str):∀ l:List Str,z∈jO l ↔ z∈l
 | []=>Iff.rfl
 | x::r=>by
  show z∈Yn x (jO r) ↔ _;rw [ZU,jW z r,Y08]
theorem z8r {x y:Str}(h:x≠y)(h':¬ x.cps.toList<y.cps.toList):y.cps.toList<x.cps.toList:=by
 rcases Classical.em (y.cps.toList<x.cps.toList) with q | q
 ·exact q
 ·exact absurd (List.le_antisymm (List.not_lt.mp q) (List.not_lt.mp h')) λ e=>h (by
   obtain ⟨⟨x⟩⟩:=x;obtain ⟨⟨y⟩⟩:=y;simp only at e;rw [e])
theorem VQ (x:Str):∀ l:List Str,Up l->Up (Yn x l)
 | [],_=>List.pairwise_singleton _ _
 | y::r,h=>by
  unfold Yn;obtain ⟨h1,h2⟩:=Y1u.mp h
  split
  ·exact h
  ·rename_i c
   split
   ·rename_i d;refine Y1u.mpr ⟨λ z hz=>?_,h⟩;rcases Y08.mp hz with rfl | hz
    ·exact d
    ·exact List.lt_trans d (h1 z hz)
   ·rename_i d;refine Y1u.mpr ⟨λ z hz=>?_,VQ x r h2⟩;rcases (ZU x z r).mp hz with rfl | hz
    ·exact z8r c d
    ·exact h1 z hz
theorem wM:∀ l:List Str,Up (jO l)
 | []=>List.Pairwise.nil
 | x::r=>VQ x _ (wM r)
theorem Zj:∀ {l m:XQ},Up l->Up m->(∀ x,x∈l ↔ x∈m)->l=m
 | [],[],_,_,_=>rfl
 | [],y::m,_,_,h=>absurd ((h y).mpr (Y04 ..)) 130
 | x::l,[],_,_,h=>absurd ((h x).mp (Y04 ..)) 130
 | x::l,y::m,hl,hm,h=>by
  obtain ⟨a1,a2⟩:=Y1u.mp hl;obtain ⟨b1,b2⟩:=Y1u.mp hm;have e:x=y:=by
   rcases Y08.mp ((h x).mp (Y04 ..)) with e | hx
   ·exact e
   ·rcases Y08.mp ((h y).mpr (Y04 ..)) with e | hy
    ·exact e.symm
    ·exact absurd (List.lt_trans (a1 y hy) (b1 x hx)) (Y3u _)
  subst e;rw [Zj a2 b2 λ z=>?_];constructor
  ·intro hz;rcases Y08.mp ((h z).mp (Y02 _ hz)) with e | hz'
   ·subst e;exact absurd (a1 z hz) (Y3u _)
   ·exact hz'
  ·intro hz;rcases Y08.mp ((h z).mpr (Y02 _ hz)) with e | hz'
   ·subst e;exact absurd (b1 z hz) (Y3u _)
   ·exact hz'
theorem z53 {l m:XQ}(h:∀ x,x∈l ↔ x∈m):jO l=jO m:=Zj (wM l) (wM m) λ x=>by rw [jW,jW];exact h x
theorem z54 (hr:HR K μ h H)(qa:Rep K μ H d x)(p:PostE K cv (Rep K) μ H (ssD d h) Q Z):rSS K [x] H Q:=by
 unfold ssD at p;cases qa with
 | @loc nn b m =>
  cases e2:PI.rd h nn with
  | none=>simp only [e2] at p;exact p.elim
  | some ds =>
   simp only [e2] at p;cases e3:qG ds with
   | none=>simp only [e3] at p;exact p.elim
   | some ss =>
    simp only [e3] at p;obtain ⟨vs,q1,q2⟩:=y8 hr m e2;by_cases c:ss.length<=4000/\(jO ss).length<64
    ·rw [if_pos c] at p;have ev:=PI.strs_reps q2 e3;subst ev;refine ⟨b,ss,rfl,SqL.of q1,by unfold scanBound;omega,⟨jO ss,c.2,λ x hx=>(jW x ss).mpr hx⟩,λ l ss' hl hu hm=>?_⟩;have e:=Zj hu (wM ss) λ z=>by rw [hm,jW]
     rw [e];exact qj hr (z0e _) p l hl
    ·rw [if_neg c] at p;exact p.elim
 | _=>exact p.elim
theorem ZV:∀ {ds:157}{vs:173},RepKs K μ H ds vs->Reps K μ H (ds.map λ p=>dK1 p.1) (vs.map λ p=>kV p.1)
 | _,_,.nil=>.nil
 | _,_,.cons h r=>.cons (Q8 _) (ZV r)
theorem OC (hc:216):jh X (.type "list") (λ xs H Q=>∃ x,xs=[x]/\r1 X.K cv (c1D .lks) x H Q):=by
 intro pins s σ H xs us Q I r hh;obtain ⟨x,rfl,μ,h,a,Z',hr,ra,p⟩:=hh;unfold c1D at p;cases ra with
 | @loc nn b m =>
  simp only at p;split at p
  ·rename_i kvs e;obtain ⟨vs,q1,q2⟩:=hr.obj nn b _ m e;exact ZJ hc pins s σ H _ us Q I r ⟨b,vs,rfl,.inl q1,qj hr (ZV q2) p⟩
  ·rename_i kvs e;obtain ⟨ob,vs,q1,q2⟩:=hr.obj nn b _ m e;exact ZJ hc pins s σ H _ us Q I r ⟨b,vs,rfl,.inr ⟨ob,q1⟩,qj hr (ZV q2) p⟩
  ·exact p.elim
 | _=>exact p.elim
end PI
namespace PI
open PySem L2 PySem.Spec
open PyProof.Rows hiding St
section
variable {X:Cx}{Z:ZK}{k:Nat}{n:Nm}{cv:160}{cl:126}
theorem z8s (T:Nat)(h:T<6):bootBuiltins (qF T)=some (.type (VG T))/\qF T≠"__name__"/\(qF T==("__debug__":Str))=false/\qF T∈Q5:=by
 match T,h with
 | 0,_=>exact 218
 | 1,_=>exact 218
 | 2,_=>exact 218
 | 3,_=>exact 218
 | 4,_=>exact 218
 | 5,_=>exact 218
theorem getD_some {xs:List α}(h:i<xs.length):xs[i]?=some (xs.getD i d):=by
 rw [Y0h,Y06 h];rfl
theorem y9 {xs:List α}(h:i<xs.length):xs.getD i d∈xs:=Y0z (getD_some h)
theorem PO.mono (p:PO X e t)(h:∀ σ H Q,t' σ H Q->t σ H Q):PO X e t':=λ pins s σ H Q I q=>p pins s σ H Q I (h σ H Q q)
theorem wN (o:E)(x:Str)(env:Env):attributeBase (o.py n) x env (eval (o.py n) env)=eval (o.py n) env:=by
 cases o with
 | ofL l=>cases l<;>(rfl)
 | _=>rfl
theorem VR (a : E)(pos : Pos)(env : Env) : ((backTo pos (starEach [a.py n] env)).all (λ x => !x.1)&&(backToKw pos (keywordEach [] env)).all (λ x => x.1.isSome)
      && decide (([a.py n]:List Expr).length+([]:List Keyword).length+(if ([]:List Keyword).isEmpty then 0 else 1)<30))=true:=by
  rw [zi];rfl
theorem zbp {K:Y01}(hr:HR K μ h H)(r:Rep K μ H d v)(e:m0D m d h≠.no):tyV K "list" v H:=by
 unfold m0D at e;cases r with
 | @loc nn b mm =>
  cases e1:h[nn]? with
  | none=>simp only [e1] at e;exact absurd rfl e
  | some o =>
   cases o with
   | dK _=>simp only [e1] at e;exact absurd rfl e
   | fK _=>simp only [e1] at e;exact absurd rfl e
   | dT _=>simp only [e1] at e;exact absurd rfl e
   | obj _ _=>simp only [e1] at e;exact absurd rfl e
   | lst ds=>obtain ⟨vs,q1,q2⟩:=wu hr mm e1;exact .inl ⟨rfl,vs,SqL.of q1⟩
 | _=>exact absurd rfl e
theorem Reps.isEmpty {K:Y01}(r:274):ds.isEmpty=vs.isEmpty:=by cases r<;>rfl
theorem z0k {K:Y01}{Z:Value->Hp->Prop}(hr:HR K μ h H)(q:Rep K μ H d v)(p:PostE K cv R μ H (onL d h r) Q Z):tyV K "list" v H/\PostE K cv R μ H r Q Z:=by
 unfold onL at p;cases q with
 | @loc nn b mm =>
  cases e1:h[nn]? with
  | none=>simp only [e1] at p;exact p.elim
  | some o =>
   cases o with
   | dK _=>simp only [e1] at p;exact p.elim
   | fK _=>simp only [e1] at p;exact p.elim
   | dT _=>simp only [e1] at p;exact p.elim
   | obj _ _=>simp only [e1] at p;exact p.elim
   | lst ds=>simp only [e1] at p;obtain ⟨vs,q1,q2⟩:=wu hr mm e1;exact ⟨.inl ⟨rfl,vs,SqL.of q1⟩,p⟩
 | _=>exact p.elim
theorem qI (it:I):∀ x,foldedSetIterable (it.py n) env x=pure x:=by
 intro x;cases it with
 | seq e =>
  cases e with
  | ofL l=>cases l<;>(rfl)
  | _=>rfl
 | lst l=>cases l<;>(rfl)
 | items e p1 p=>rfl
 | keys e =>
  cases e with
  | ofL l=>cases l<;>(rfl)
  | _=>rfl
 | rng a p0 p=>rfl
theorem VS (C:Kx X Z k n cv cl)(h:(L.comp elt t it c NC cap csc p).ok X.env.scope n=true) :
  (it.ok X.env.scope n=true/\t.forI it=true)/\jp X.env.scope csc X.N NC cap=true/\NC.Nodup/\NC.all yW=true/\t.ok csc NC=true/\elt.ok (VL csc X.env.scope) 267=true/\c.ok (VL csc X.env.scope) 267=true/\c.okT=true/\c.short=true:=by
 have h:(_&&_)=true:=h;simp only [Y0l,decide_eq_true_eq] at h;obtain ⟨⟨⟨⟨⟨⟨⟨⟨k1,k2⟩,k3⟩,k4⟩,k5⟩,k6⟩,k7⟩,k8⟩,k9⟩:=h;exact ⟨k1,by rw [C.nN];exact k2,k3,k4,k5,k6,k7,k8,k9⟩
theorem VT:PF X (Es.nil.py m) (zL X.K cv RB Zc (Es.nil.evC cl)):=by
 refine λ pins s σ H Q I q=>z8a pins s σ H Q I ?_;obtain ⟨μ,ρ,h,hr,er,q⟩:=q;exact q.here hr rfl
theorem VU (kd:X.env.scope.kind=.function)(cok:180)(hnd:NC.Nodup)(ht:t.ok scope NC=true) :
  PG (zJ X NC scope Cc s H fp pn xe) (t.py NC) (gB X.K t):=by
 refine zbm rfl hnd t λ i hi=>?_;unfold Tg.ok at ht;have h1:=Y17.mp ht i hi;rw [Y0l] at h1;have h2:=of_decide_eq_true h1.2;obtain ⟨c1,c2,c3,c4,c5,c6,c7⟩:=jl cok;have rel:∀ x,(relabel scope X.env).names.lookup x=(scope.names.lookup x).map λ k=>if k=.free then .cell else k:=λ x=>wI (scope:=scope) kd λ y hy e=>c4 y hy e;refine ⟨of_decide_eq_true h1.1,?_,?_⟩
 ·show Loc (relabel scope X.env) _;unfold L2.Loc;rw [rel];rcases h2 with h2 | h2
  ·rw [h2];exact .inl rfl
  ·rw [h2];exact .inr rfl
 ·rcases h2 with h2 | h2
  ·refine .inr ?_;show (relabel scope X.env).names.lookup _=_;rw [rel,h2];rfl
  ·refine .inl ?_;show (scope.names.lookup _==some NameKind.cell)=true;rw [h2];rfl
mutual
theorem sE:∀ (e:E) (X:Cx) (Z:ZK) (k:Nat) (n:Nm) (cv:160) (cl:126),Kx X Z k n cv cl->e.ok X.env.scope n=true->SE X Z n cv cl e
 | .non p,X,Z,k,n,cv,cl,C,_=>⟨PE.mono z7a λ σ H Q q=>Q6 (λ _ _ _=>.non) q,λ z=>nomatch z⟩
 | .bl b p,X,Z,k,n,cv,cl,C,_=>⟨PE.mono zal λ σ H Q q=>Q6 (λ _ _ _=>.bl b) q,λ z=>nomatch z⟩
 | .int i p,X,Z,k,n,cv,cl,C,_=>⟨PE.mono z79 λ σ H Q q=>Q6 (λ _ _ _=>.int i) q,λ z=>nomatch z⟩
 | .str x p,X,Z,k,n,cv,cl,C,_=>⟨PE.mono B9 λ σ H Q q=>Q6 (λ _ _ _=>.str x) q,λ z=>nomatch z⟩
 | .var i p,X,Z,k,n,cv,cl,C,h=>by
  have hi:i<n.N.length:=of_decide_eq_true h;have hm:=C.nm _ (y9 (d:=("":Str)) hi);have hv:=hm.1;have hg:=z0a hm.2;have pe:PE X ((E.var i p).py n) (zL X.K cv 158 Z ((E.var i p).ev cl)):=by
   refine PE.mono (B8 (i:=i) (by rw [C.nN];exact getD_some hi) hv hg.1 hg.2) λ σ H Q=>zb λ μ ρ h hr er q=>?_;have q:PostE X.K cv 158 μ H (match ρ[i]? with | some (some d)=>.ok d h | _=>.no) Q (Z σ):=q
   cases e:ρ[i]? with
   | none=>rw [e] at q;exact q.elim
   | some o =>
    cases o with
    | none=>rw [e] at q;exact q.elim
    | some d =>
     rw [e] at q;obtain ⟨v,e1,r1⟩:=er.val i d e;exact ⟨v,e1,q.here hr r1⟩
  exact 135
 | .bin op a b p,X,Z,k,n,cv,cl,C,h=>by
  have h':a.ok X.env.scope n=true/\b.ok X.env.scope n=true:=by have h:(_&&_)=true:=h;simpa using h
  have sa:=sE a X Z k n cv cl C h'.1;have sb:=sE b X Z k n cv cl C h'.2;have pe:PE X ((E.bin op a b p).py n) (zL X.K cv 158 Z ((E.bin op a b p).ev cl)):=by
   refine PE.mono (zau (z8l (cv:=cv) op) sa.pe sb.pe) λ σ H Q q=>?_;exact VN q
  exact 135
 | .un op a p,X,Z,k,n,cv,cl,C,h=>by
  have h':a.ok X.env.scope n=true:=by have h:(_&&_)=true:=h;simp at h;exact h.1
  have sa:=sE a X Z k n cv cl C h';cases op with
  | Not =>
   refine ⟨?_,λ z=>?_⟩
   ·skip;refine PE.mono (z7e sa.pe) λ σ H Q=>zb λ μ ρ h hr er q=>?_;refine za (m:=a.ev cl) hr er q λ d h1 μ1 H1 x _ e1 r1 er1 qa p1=>?_;unfold unD at p1;cases qa with
    | bl b=>exact ⟨b,rfl,p1.here r1 262⟩
    | _=>exact p1.elim
   ·skip;have z':a.okT=true:=by exact z
    refine PT.mono (z7d (sa.pt z')) λ σ H Q=>zb λ μ ρ h hr er q=>?_;refine ⟨μ,ρ,h,hr,er,?_⟩;have e1:(E.un .Not a p).evT cl ρ h=(a.evT cl ρ h).bind λ b h1=>.ok (!b) h1:=by
     rw [wL,wL,zx];show ((a.ev cl ρ h).bind λ x h1=>unD .Not x h1).bind toB=_;rw [zx]
     congr 1
     funext d h1
     unfold unD toB;cases d<;>rfl
    rw [e1] at q;cases e2:a.evT cl ρ h with
    | ok b h1 =>
     rw [e2] at q;intro μ1 H1 v x1 x2 x3;have x3':b=v:=x3;subst x3';exact q μ1 H1 (!b) x1 x2 rfl
    | exc c h1=>rw [e2] at q;exact q
    | no=>rw [e2] at q;exact q
  | Invert =>
   have pe:PE X ((E.un .Invert a p).py n) (zL X.K cv 158 Z ((E.un .Invert a p).ev cl)):=by
    refine PE.mono (Bp (z6j (cv:=cv) .Invert 243) sa.pe) λ σ H Q q=>?_;exact z6i q
   exact 135
  | USub =>
   have pe:PE X ((E.un .USub a p).py n) (zL X.K cv 158 Z ((E.un .USub a p).ev cl)):=by
    refine PE.mono (Bp (z6j (cv:=cv) .USub (.inr rfl)) sa.pe) λ σ H Q q=>?_;exact z6i q
   exact 135
  | UAdd =>
   have no:∀ {β:Type}{σ:St}{H:Hp}{R:List Addr->Hp->D->β->Prop}{Q:β->Hp->Prop},zL X.K cv R Z ((E.un .UAdd a p).ev cl) σ H Q->zL X.K cv 158 Z (a.ev cl) σ H (λ _ _=>False):=by
    intro β σ H R Q ⟨μ,ρ,h,hr,er,q⟩;refine za (m:=a.ev cl) hr er q λ d h1 μ1 H1 x _ e1 r1 er1 qa p1=>?_;unfold unD at p1;cases d<;>exact p1.elim
   have pe:PE X ((E.un .UAdd a p).py n) (zL X.K cv 158 Z ((E.un .UAdd a p).ev cl)):=by
    refine PE.mono (Bp (r:=λ _ _ _=>False) (λ _ _ _ _ _ _ _ _ _ z=>z.elim) sa.pe) λ σ H Q q=>no q
   exact 135
 | .cmp op a b p,X,Z,k,n,cv,cl,C,h=>by
  have h':268/\behindInMarks op (b.py n)=false:=by have h:(_&&_)=true:=h;simpa using h
  have sa:=sE a X Z k n cv cl C h'.1.1;have sb:=sE b X Z k n cv cl C h'.1.2;refine ⟨?_,λ _=>?_⟩
  ·skip;refine PE.mono (WH (z09 (cv:=cv) C.rm.units op) sa.pe sb.pe h'.2) λ σ H Q q=>?_;exact VN q
  ·skip;refine PT.mono (WI (z09 (cv:=cv) C.rm.units op) sa.pe sb.pe h'.2) λ σ H Q=>zb λ μ ρ h hr er q=>?_;have q:PostE X.K cv RB μ H (((a.ev cl ρ h).bind λ x h1=>(b.ev cl ρ h1).bind λ y h2=>jv op x y h2).bind toB) Q (Z σ):=q;rw [zx] at q;unfold Vr;refine za (m:=a.ev cl) hr er q λ da h1 μ1 H1 x _ e1 r1 er1 qa p1=>?_;rw [zx] at p1;refine za (m:=b.ev cl) r1 er1 p1 λ db h2 μ2 H2 y _ e2 r2 er2 qb p2=>?_;refine ⟨μ2,h2,da,db,Z σ,r2,qa.mono e2,qb,?_⟩;cases e3:jv op da db h2 with
   | ok d h3 =>
    rw [e3] at p2;intro μ3 H3 v x1 x2 x3;unfold Res.bind toB at p2;cases x3 with
    | bl c=>exact ⟨c,rfl,p2 μ3 H3 c x1 x2 rfl⟩
    | _=>exact p2.elim
   | exc c h3=>rw [e3] at p2;exact p2
   | no=>rw [e3] at p2;exact p2
 | .neK neg a b p,X,Z,k,n,cv,cl,C,h=>by
  have h':268/\behindInMarks 295 (b.py n)=false:=by have h:(_&&_)=true:=h;simpa using h
  have sa:=sE a X Z k n cv cl C h'.1.1;have sb:=sE b X Z k n cv cl C h'.1.2;refine ⟨?_,λ _=>?_⟩
  ·skip;refine PE.mono (WH (z08 (cv:=cv) (by have:=C.rm.un;omega) neg) sa.pe sb.pe h'.2) λ σ H Q q=>?_;exact VN q
  ·skip;refine PT.mono (WI (z08 (cv:=cv) (by have:=C.rm.un;omega) neg) sa.pe sb.pe h'.2) λ σ H Q=>zb λ μ ρ h hr er q=>?_;have q:PostE X.K cv RB μ H (((a.ev cl ρ h).bind λ x h1=>(b.ev cl ρ h1).bind λ y h2=>Z8 neg x y h2).bind toB) Q (Z σ):=q;rw [zx] at q;unfold Vr;refine za (m:=a.ev cl) hr er q λ da h1 μ1 H1 x _ e1 r1 er1 qa p1=>?_;rw [zx] at p1;refine za (m:=b.ev cl) r1 er1 p1 λ db h2 μ2 H2 y _ e2 r2 er2 qb p2=>?_;refine ⟨μ2,h2,da,db,Z σ,r2,qa.mono e2,qb,?_⟩;cases e3:Z8 neg da db h2 with
   | ok d h3 =>
    rw [e3] at p2;intro μ3 H3 v x1 x2 x3;unfold Res.bind toB at p2;cases x3 with
    | bl c=>exact ⟨c,rfl,p2 μ3 H3 c x1 x2 rfl⟩
    | _=>exact p2.elim
   | exc c h3=>rw [e3] at p2;exact p2
   | no=>rw [e3] at p2;exact p2
 | .and a b r p,X,Z,k,n,cv,cl,C,h=>by
  have h':(((268/\r.ok X.env.scope n=true)/\a.okT=true)/\b.okT=true)/\r.okT=true:=by have h:(_&&_)=true:=h;simpa using h
  have sa:=sE a X Z k n cv cl C h'.1.1.1.1.1;have sb:=sE b X Z k n cv cl C h'.1.1.1.1.2;have sr:=sEs r X Z k n cv cl C h'.1.1.1.2;refine ⟨?_,λ _=>?_⟩
  ·skip;refine PE.mono (Bc sa.pe (sr.an b p sb)) λ σ H Q=>zb λ μ ρ h hr er q=>?_;refine za (m:=a.ev cl) hr er q λ d h1 μ1 H1 x _ e1 r1 er1 qa p1=>?_;unfold tru at p1;cases qa with
   | bl c =>
    refine ⟨c,rfl,?_⟩;cases c with
    | true=>exact Z6 174
    | false=>exact Z5 (p1.here r1 262)
   | _=>exact p1.elim
  ·skip;refine PT.mono (PW.pt (Ba (sa.pt h'.1.1.2) (sr.anT b p sb h'.1.2 h'.2))) λ σ H Q=>zb λ μ ρ h hr er q=>?_;have e0:(E.and a b r p).evT cl ρ h=(a.evT cl ρ h).bind λ c h1=>if c then (b.evT cl ρ h1).bind λ c' h2=>r.evAndT cl ρ c' h2 else .ok false h1:=by
    rw [wL,wL,zx];show ((a.ev cl ρ h).bind λ x h1=>tru x h1 λ c h1=>if c then (b.ev cl ρ h1).bind λ y h2=>r.evAnd cl ρ y h2 else .ok (.bl false) h1).bind toB=_;rw [zx]
    congr 1
    funext d h1
    unfold tru;cases d with
    | bl c =>
     cases c with
     | false=>rfl
     | true =>
      show ((b.ev cl ρ h1).bind λ y h2=>r.evAnd cl ρ y h2).bind toB=(b.evT cl ρ h1).bind λ c' h2=>r.evAndT cl ρ c' h2;rw [wL,zx,zx]
      congr 1
      funext y h2
      exact VM r ρ y h2
    | _=>rfl
   rw [e0] at q;refine za (m:=a.evT cl) (R:=RB) hr er q λ c h1 μ1 H1 x _ e1 r1 er1 qa p1=>?_;have qa':c=x:=qa;subst qa';cases c with
   | true=>exact Z6 174
   | false=>exact Z5 (p1.here r1 rfl)
 | .or a b r p,X,Z,k,n,cv,cl,C,h=>by
  have h':(((268/\r.ok X.env.scope n=true)/\a.okT=true)/\b.okT=true)/\r.okT=true:=by have h:(_&&_)=true:=h;simpa using h
  have sa:=sE a X Z k n cv cl C h'.1.1.1.1.1;have sb:=sE b X Z k n cv cl C h'.1.1.1.1.2;have sr:=sEs r X Z k n cv cl C h'.1.1.1.2;refine ⟨?_,λ _=>?_⟩
  ·skip;refine PE.mono (z69 sa.pe (sr.orr b p sb)) λ σ H Q=>zb λ μ ρ h hr er q=>?_;refine za (m:=a.ev cl) hr er q λ d h1 μ1 H1 x _ e1 r1 er1 qa p1=>?_;unfold tru at p1;cases qa with
   | bl c =>
    refine ⟨c,rfl,?_⟩;cases c with
    | true=>exact Z6 (p1.here r1 262)
    | false=>exact Z5 174
   | _=>exact p1.elim
  ·skip;refine PT.mono (PW.pt (z68 (sa.pt h'.1.1.2) (sr.orT b p sb h'.1.2 h'.2))) λ σ H Q=>zb λ μ ρ h hr er q=>?_;have e0:(E.or a b r p).evT cl ρ h=(a.evT cl ρ h).bind λ c h1=>if c then .ok true h1 else (b.evT cl ρ h1).bind λ c' h2=>r.evOrT cl ρ c' h2:=by
    rw [wL,wL,zx];show ((a.ev cl ρ h).bind λ x h1=>tru x h1 λ c h1=>if c then .ok 214 h1 else (b.ev cl ρ h1).bind λ y h2=>r.evOr cl ρ y h2).bind toB=_;rw [zx]
    congr 1
    funext d h1
    unfold tru;cases d with
    | bl c =>
     cases c with
     | true=>rfl
     | false =>
      show ((b.ev cl ρ h1).bind λ y h2=>r.evOr cl ρ y h2).bind toB=(b.evT cl ρ h1).bind λ c' h2=>r.evOrT cl ρ c' h2;rw [wL,zx,zx]
      congr 1
      funext y h2
      exact z0b r ρ y h2
    | _=>rfl
   rw [e0] at q;refine za (m:=a.evT cl) (R:=RB) hr er q λ c h1 μ1 H1 x _ e1 r1 er1 qa p1=>?_;have qa':c=x:=qa;subst qa';cases c with
   | true=>exact Z6 (p1.here r1 rfl)
   | false=>exact Z5 174
 | .ite c a b p,X,Z,k,n,cv,cl,C,h=>by
  have h':((c.ok X.env.scope n=true/\a.ok X.env.scope n=true)/\b.ok X.env.scope n=true)/\c.okT=true:=by have h:(_&&_)=true:=h;simpa using h
  have sc:=sE c X Z k n cv cl C h'.1.1.1;have sa:=sE a X Z k n cv cl C h'.1.1.2;have sb:=sE b X Z k n cv cl C h'.1.2;refine ⟨?_,λ z=>nomatch z⟩;refine PE.mono (Bf (sc.pt h'.2) sa.pe sb.pe) λ σ H Q=>zb λ μ ρ h hr er q=>?_;have e0:((c.ev cl ρ h).bind λ x h1=>tru x h1 λ t h1=>if t then a.ev cl ρ h1 else b.ev cl ρ h1)=(c.evT cl ρ h).bind λ t h1=>if t then a.ev cl ρ h1 else b.ev cl ρ h1:=by
   rw [wL,zx]
   congr 1
   funext d h1
   unfold tru toB;cases d<;>rfl
  have q:PostE X.K cv 158 μ H ((c.ev cl ρ h).bind λ x h1=>tru x h1 λ t h1=>if t then a.ev cl ρ h1 else b.ev cl ρ h1) Q (Z σ):=q;rw [e0] at q;refine za (m:=c.evT cl) (R:=RB) hr er q λ t h1 μ1 H1 x _ e1 r1 er1 qa p1=>?_;have qa':t=x:=qa;subst qa';cases t with
  | true=>exact Z6 174
  | false=>exact Z5 174
 | .call f a r p0 p,X,Z,k,n,cv,cl,C,h=>by
  have h':((f<n.F.length/\gOf X.env.scope (n.F.getD f "")=true)/\a.ok X.env.scope n=true)/\r.ok X.env.scope n=true:=by have h:(_&&_)=true:=h;simp only [Y0l,decide_eq_true_eq] at h;exact ⟨⟨⟨h.1.1.1.1,h.1.1.2⟩,h.1.2⟩,h.2⟩
  have hnc:(n.G.any λ q=>decide (q.2=Cn.cls f))=false:=by have h:(_&&_)=true:=h;simp only [Y0l,Bool.not_eq_true'] at h;exact h.1.1.1.2
  have sa:=sE a X Z k n cv cl C h'.1.2;have sr:=sEs r X Z k n cv cl C h'.2;obtain ⟨hdb,fa,fd,ps,hm,_,hk,⟨hb,_⟩,hl,F⟩:=C.fn f _ (getD_some (d:=("":Str)) h'.1.1.1) hnc;have pe:PE X ((E.call f a r p0 p).py n) (zL X.K cv 158 Z ((E.call f a r p0 p).ev cl)):=by
   refine PE.mono (BH F (C.rm.mono 128) (C.gl h'.1.1.2) hm hk hb .nil C.th (zY sa.pe sr.pa 227) hdb 227 (qH r p X.env)) λ σ H Q=>zb λ μ ρ h hr er q=>?_;unfold BG Bt;refine za (m:=a.ev cl) hr er q λ da h1 μ1 H1 x _ e1 r1 er1 qa p1=>?_;refine za (m:=r.ev cl) r1 er1 p1 λ ds h2 μ2 H2 xs _ e2 r2 er2 qb p2=>?_;show spI X.K cv ps.length (cl f) ((x::xs)++[]) H2 Q λ C _ H'=>Z σ C H';rw [Y0v];have z:=hl (da::ds) h2 λ z=>by rw [z] at p2;exact p2
   exact ⟨by rw [Y09,<- qb.length,<- Y09 (a:=da)];exact z,μ2,h2,da::ds,r2,.cons (qa.mono e2) qb,p2⟩
  exact 135
 | .fld a f p,X,Z,k,n,cv,cl,C,h=>by
  have h':a.ok X.env.scope n=true/\f∈jq:=by have h:(_&&_)=true:=h;simpa using h
  have sa:=sE a X Z k n cv cl C h'.1;have pe:PE X ((E.fld a f p).py n) (zL X.K cv 158 Z ((E.fld a f p).ev cl)):=by
   refine PE.mono (z7u sa.pe (UH a f _ _)) λ σ H Q=>zb λ μ ρ h hr er q=>?_;refine za (m:=a.ev cl) hr er q λ da h1 μ1 H1 x _ e1 r1 er1 qa p1=>?_;unfold JC at p1;cases qa with
   | @loc nn b m =>
    cases e2:h1[nn]? with
    | none=>simp only [e2] at p1;exact p1.elim
    | some o =>
     have q:=r1.obj nn b o m e2;cases o with
     | lst _=>simp only [e2] at p1;exact p1.elim
     | dK _=>simp only [e2] at p1;exact p1.elim
     | fK _=>simp only [e2] at p1;exact p1.elim
     | dT _=>simp only [e2] at p1;exact p1.elim
     | obj y fs =>
      simp only [e2] at p1;obtain ⟨Cc,dx,vs,q1,q2,q3⟩:=q;cases e3:fs.lookup f with
      | none=>rw [e3] at p1;exact p1.elim
      | some d =>
       rw [e3] at p1;obtain ⟨v,e4,e5⟩:=q3.get e3;exact ⟨b,Cc,dx,vs,v,rfl,q1,q2.cl,q2.na f h'.2,e4,p1.here r1 e5⟩
   | _=>exact p1.elim
  exact 135
 | .mk i x a r p0 p,X,Z,k,n,cv,cl,C,h=>by
  have h':((gOf X.env.scope x=true/\(x,Cn.cls i)∈n.G)/\a.ok X.env.scope n=true)/\r.ok X.env.scope n=true:=by have h:(_&&_)=true:=h;simpa using h
  have sa:=sE a X Z k n cv cl C h'.1.2;have sr:=sEs r X Z k n cv cl C h'.2;obtain ⟨hdb,Ca,f,fd,ps,hm,M,CN,hb,hl,F⟩:=C.mc x i h'.1.1.2;have pe:PE X ((E.mk i x a r p0 p).py n) (zL X.K cv 158 Z ((E.mk i x a r p0 p).ev cl)):=by
   refine PE.mono (BP M F C.rm (C.gl h'.1.1.1) hm hb C.th (zY sa.pe sr.pa 227) hdb 227 (qH r p X.env)) λ σ H Q=>zb λ μ ρ h hr er q=>?_;unfold BO Bt;refine za (m:=a.ev cl) hr er q λ da h1 μ1 H1 y _ e1 r1 er1 qa p1=>?_;refine za (m:=r.ev cl) r1 er1 p1 λ ds h2 μ2 H2 ys _ e2 r2 er2 qb p2=>?_;intro b dx hb1 hb2 ne;have e3:Ext X.K μ2 H2 μ2 (upd H2 dx (.own b)):=zt hb2;have hb3:upd H2 dx (.own b) b=none:=by rw [zr (Ne.symm ne)];exact hb1
   have r3:HR X.K μ2 h2 (upd H2 dx (.own b)):=r2.tup hb2;have nb:b∉μ2:=r3.fresh hb3;have r4:=r3.alloc (o:=.obj x []) (u:=.ins Ca dx []) hb3 nb λ μ' _=>⟨Ca,dx,[],zC,CN,.nil⟩;have e4:Ext X.K μ2 H2 (μ2++[b]) (upd (upd H2 dx (.own b)) b (.ins Ca dx [])):=e3.trans ((zt hb3).add hb3);have lb:(μ2++[b])[h2.length]?=some b:=by rw [<- r2.len];simp
   have ne0:cl i (.loc h2.length::da::ds) (h2++[.obj x []])≠.no:=λ z=>by rw [z] at p2;exact p2
   have z:=hl _ _ ne0;refine ⟨by rw [Y09,Y09,<- qb.length,<- Y09 (a:=da),<- Y09 (a:=D.loc h2.length)];exact z,μ2++[b],h2++[.obj x []],.loc h2.length::da::ds,r4,.cons (.loc lb) (.cons ((qa.mono e2).mono e4) (qb.mono e4)),?_⟩;cases ec:cl i (.loc h2.length::da::ds) (h2++[.obj x []]) with
   | no=>exact absurd ec ne0
   | exc c h3 =>
    rw [ec] at p2;exact p2
   | ok d h3 =>
    rw [ec] at p2;cases d with
    | non =>
     intro μ3 H3 v e5 r5 q5;cases q5;exact ⟨rfl,p2 μ3 H3 (.ref b) (e4.trans e5) r5 (.loc (e5.loc _ _ lb))⟩
    | _=>exact p2.elim
  exact 135
 | .len a p0 p,X,Z,k,n,cv,cl,C,h=>by
  have h':gOf X.env.scope "len"=true/\a.ok X.env.scope n=true:=by have h:(_&&_)=true:=h;simpa using h
  have sa:=sE a X Z k n cv cl C h'.2;have pe:PE X ((E.len a p0 p).py n) (zL X.K cv 158 Z ((E.len a p0 p).ev cl)):=by
   refine PE.mono (wz (Ou (cv:=cv)) (C.gl h'.1) (C.bm _ 127) PySem.boot_len (zY sa.pe j9 227) 127 127 227 rfl) λ σ H Q=>zb λ μ ρ h hr er q=>?_;refine za (m:=a.ev cl) hr er q λ da h1 μ1 H1 x _ e1 r1 er1 qa p1=>?_;exact 263
  exact 135
 | .isi T a p0 p1 p,X,Z,k,n,cv,cl,C,h=>by
  have h':((gOf X.env.scope "isinstance"=true/\gOf X.env.scope (qF T)=true)/\T<6)/\a.ok X.env.scope n=true:=by have h:(_&&_)=true:=h;simpa using h
  have sa:=sE a X Z k n cv cl C h'.2;obtain ⟨b1,b2,b3,b4⟩:=z8s T h'.1.2;have pe:PE X ((E.isi T a p0 p1 p).py n) (zL X.K cv 158 Z ((E.isi T a p0 p1 p).ev cl)):=by
   refine PE.mono (wz (z0c (cv:=cv) T h'.1.2) (C.gl h'.1.1.1) (C.bm _ 127) PyProof.Rows.boot_isinstance (zY sa.pe (zY (z3f (v:=.ty (VG T)) (C.gl h'.1.1.2) (C.bm _ b4) b1 rfl b2 b3) j9) 227) 127 127 227 rfl) λ σ H Q=>zb λ μ ρ h hr er q=>?_;refine za (m:=a.ev cl) hr er q λ da h1 μ1 H1 x _ e1 r1 er1 qa p1=>?_;exact 263
  exact 135
 | .sub a i p,X,Z,k,n,cv,cl,C,h=>by
  have h':a.ok X.env.scope n=true/\i.ok X.env.scope n=true:=by have h:(_&&_)=true:=h;simpa using h
  have sa:=sE a X Z k n cv cl C h'.1;have sb:=sE i X Z k n cv cl C h'.2;have pe:PE X ((E.sub a i p).py n) (zL X.K cv 158 Z ((E.sub a i p).ev cl)):=by
   refine PE.mono (z6c (z4s (cv:=cv) (BA C.rm)) sa.pe sb.pe (Yu i)) λ σ H Q q=>?_;exact VN q
  exact 135
 | .tup es p,X,Z,k,n,cv,cl,C,h=>by
  have h':es.ok X.env.scope n=true:=by exact h
  have sr:=sEs es X Z k n cv cl C h';have pe:PE X ((E.tup es p).py n) (zL X.K cv 158 Z ((E.tup es p).ev cl)):=by
   refine PE.mono (Bu sr.pa) λ σ H Q=>zb λ μ ρ h hr er q=>?_;refine za (m:=es.ev cl) hr er q λ ds h1 μ1 H1 xs _ e1 r1 er1 qa p1=>?_;split at p1
   ·rename_i c;refine ⟨by rw [<- qa.length];exact Y21 (yq c),λ a ha=>?_⟩;exact p1 μ1 _ 202 (zt ha) (r1.tup ha) (.tup (SqT.of zC) (qa.mono (zt ha)))
   ·exact p1.elim
  exact 135
 | .ofL l,X,Z,k,n,cv,cl,C,h=>by
  have sl:=sL l X Z k n cv cl C (by exact h);refine ⟨?_,λ z=>nomatch z⟩;refine PE.mono sl λ σ H Q=>zb λ μ ρ h hr er q=>?_;refine jr (m:=l.ev cl) Ext.refl hr er q (λ _ _ z=>z) λ ds h1 μ1 H1 x _ e1 r1 er1 qa p1=>?_;obtain ⟨p,vs,rfl,g1,g2,g3,g4⟩:=qa;refine p1 (μ1++[p]) H1 _ (e1.add g4) (r1.add g3 λ μ' gr=>⟨vs,g1,g2.mono' gr⟩) (.loc ?_);rw [<- r1.len,Y0q 175,Y1z];rfl
 | .tupL l p0 p,X,Z,k,n,cv,cl,C,h=>by
  have h':gOf X.env.scope "tuple"=true/\l.ok X.env.scope n=true:=by have h:(_&&_)=true:=h;simpa using h
  have sl:=sL l X Z k n cv cl C h'.2;have pe:PE X ((E.tupL l p0 p).py n) (zL X.K cv 158 Z ((E.tupL l p0 p).ev cl)):=by
   refine PE.mono (jR qt (C.gl h'.1) (C.bm _ 127) PyProof.Rows.boot_tuple (zY sl j9 (L.py_star l _ _)) 127 127 (L.py_star l _ _) rfl) λ σ H Q=>zb λ μ ρ h hr er q=>?_;refine jr (m:=l.ev cl) Ext.refl hr er q (λ _ _ z=>z) λ ds h1 μ1 H1 x _ e1 r1 er1 qa p1=>?_;obtain ⟨b,vs,rfl,g1,g2,g3,g4⟩:=qa;exact ⟨b,vs,rfl,.inl ⟨SqL.of g1,λ a ha=>p1 μ1 _ _ (e1.trans (zt ha)) (r1.tup ha) (.tup (SqT.of zC) (g2.mono (zt ha)))⟩⟩
  exact 135
 | .tupE e p0 p,X,Z,k,n,cv,cl,C,h=>by
  have h':gOf X.env.scope "tuple"=true/\e.ok X.env.scope n=true:=by have h:(_&&_)=true:=h;simpa using h
  have se:=sE e X Z k n cv cl C h'.2;have pe:PE X ((E.tupE e p0 p).py n) (zL X.K cv 158 Z ((E.tupE e p0 p).ev cl)):=by
   refine PE.mono (jR (Ov (cv:=cv)) (C.gl h'.1) (C.bm _ 127) PyProof.Rows.boot_tuple (zY se.pe j9 (zi e _ _)) 127 127 (zi e _ _) rfl) λ σ H Q=>zb λ μ ρ h hr er q=>?_;refine za (m:=e.ev cl) hr er q λ da h1 μ1 H1 x _ e1 r1 er1 qa p1=>?_;exact 263
  exact 135
 | .listE e p0 p,X,Z,k,n,cv,cl,C,h=>by
  have h':gOf X.env.scope "list"=true/\e.ok X.env.scope n=true:=by have h:(_&&_)=true:=h;simpa using h
  have se:=sE e X Z k n cv cl C h'.2;have pe:PE X ((E.listE e p0 p).py n) (zL X.K cv 158 Z ((E.listE e p0 p).ev cl)):=by
   refine PE.mono (jR (UL (cv:=cv)) (C.gl h'.1) (C.bm _ 127) PyProof.Rows.boot_list (zY se.pe j9 (zi e _ _)) 127 127 (zi e _ _) rfl) λ σ H Q=>zb λ μ ρ h hr er q=>?_;refine za (m:=e.ev cl) hr er q λ da h1 μ1 H1 x _ e1 r1 er1 qa p1=>?_;exact 263
  exact 135
 | .dicP e p0 p,X,Z,k,n,cv,cl,C,h=>by
  have h':gOf X.env.scope "dict"=true/\e.ok X.env.scope n=true:=by have h:(_&&_)=true:=h;simpa using h
  have se:=sE e X Z k n cv cl C h'.2;have pe:PE X ((E.dicP e p0 p).py n) (zL X.K cv 158 Z ((E.dicP e p0 p).ev cl)):=by
   refine PE.mono (jR (UN (cv:=cv) C.cm) (C.gl h'.1) (C.bm _ 127) rfl (zY se.pe j9 (zi e _ _)) 127 127 (zi e _ _) rfl) λ σ H Q=>zb λ μ ρ h hr er q=>?_;refine za (m:=e.ev cl) hr er q λ da h1 μ1 H1 x _ e1 r1 er1 qa p1=>?_;exact 263
  exact 135
 | .cut a lo hi p2 p,X,Z,k,n,cv,cl,C,h=>by
  have h':(a.ok X.env.scope n=true/\lo.ok X.env.scope n=true)/\hi.ok X.env.scope n=true:=by have h:(_&&_)=true:=h;simpa using h
  have sa:=sE a X Z k n cv cl C h'.1.1;have sl:=sEo lo X Z k n cv cl C h'.1.2;have sh:=sEo hi X Z k n cv cl C h'.2;have pe:PE X ((E.cut a lo hi p2 p).py n) (zL X.K cv 158 Z ((E.cut a lo hi p2 p).ev cl)):=by
   refine PE.mono (Bw (z4x (cv:=cv)) sa.pe sl sh) λ σ H Q=>zb λ μ ρ h hr er q=>?_;refine za (m:=a.ev cl) hr er q λ da h1 μ1 H1 x _ e1 r1 er1 qa p1=>?_;refine za (m:=lo.ev cl) (R:=λ _ _ a b=>a=b) r1 er1 p1 λ l h2 μ2 H2 l' _ e2 r2 er2 ql p2=>?_;have ql':l=l':=ql;subst ql';refine za (m:=hi.ev cl) (R:=λ _ _ a b=>a=b) r2 er2 p2 λ u h3 μ3 H3 u' _ e3 r3 er3 qu p3=>?_;have qu':u=u':=qu;subst qu';exact ⟨μ3,h3,da,_,r3,(qa.mono e2).mono e3,p3⟩
  exact 135
 | .cutS a lo hi st p2 p,X,Z,k,n,cv,cl,C,h=>by
  have h':((a.ok X.env.scope n=true/\lo.ok X.env.scope n=true)/\hi.ok X.env.scope n=true)/\st.ok X.env.scope n=true:=by have h:(_&&_)=true:=h;simpa using h
  have sa:=sE a X Z k n cv cl C h'.1.1.1;have sl:=sEo lo X Z k n cv cl C h'.1.1.2;have sh:=sEo hi X Z k n cv cl C h'.1.2;have ss:=sE st X Z k n cv cl C h'.2;have pe:PE X ((E.cutS a lo hi st p2 p).py n) (zL X.K cv 158 Z ((E.cutS a lo hi st p2 p).ev cl)):=by
   refine PE.mono (z48 sa.pe sl sh ss.pe) λ σ H Q=>zb λ μ ρ h hr er q=>?_;refine za (m:=a.ev cl) hr er q λ da h1 μ1 H1 x _ e1 r1 er1 qa p1=>?_;refine za (m:=lo.ev cl) (R:=λ _ _ a b=>a=b) r1 er1 p1 λ l h2 μ2 H2 l' _ e2 r2 er2 ql p2=>?_;have ql':l=l':=ql;subst ql';refine za (m:=hi.ev cl) (R:=λ _ _ a b=>a=b) r2 er2 p2 λ u h3 μ3 H3 u' _ e3 r3 er3 qu p3=>?_;have qu':u=u':=qu;subst qu';refine za (m:=st.ev cl) r3 er3 p3 λ dy h4 μ4 H4 y _ e4 r4 er4 qy p4=>?_;have qa':=((qa.mono e2).mono e3).mono e4;unfold Wa at p4;cases qy with
   | int kk =>
    simp only at p4;split at p4
    ·rename_i c;cases qa' with
     | fl g1 g2=>exact ⟨kk,_,_,rfl,c,rfl,g1.sq,λ b hb=>p4 (μ4++[b]) _ _ ((zt hb).add hb) (r4.alloc hb (r4.fresh hb) λ μ' g=>⟨_,zC,((g2.mono (zt hb)).mono' g).cutS _ _ _⟩) (.loc (by rw [<- r4.len];simp))⟩
     | @loc nn b m =>
      cases e5:PI.rd h4 nn with
      | none=>simp only [e5] at p4;exact p4.elim
      | some ds =>
       simp only [e5] at p4;obtain ⟨vs,g1,g2⟩:=r4.rd e5 m;exact ⟨kk,_,_,rfl,c,rfl,g1,λ b hb=>p4 (μ4++[b]) _ _ ((zt hb).add hb) (r4.alloc hb (r4.fresh hb) λ μ' g=>⟨_,zC,((g2.mono (zt hb)).mono' g).cutS _ _ _⟩) (.loc (by rw [<- r4.len];simp))⟩
     | _=>exact p4.elim
    ·exact p4.elim
   | _=>exact p4.elim
  exact 135
 | .dic p,X,Z,k,n,cv,cl,C,h=>by
  refine ⟨?_,λ z=>nomatch z⟩;refine PE.mono BD λ σ H Q=>zb λ μ ρ h hr er q=>?_;intro b hb;refine q _ _ _ ((zt hb).add hb) (hr.alloc hb (hr.fresh hb) λ μ' g=>⟨_,zC,.nil⟩) (.loc ?_);rw [<- hr.len,Y0q 175,Y1z];rfl
 | .m0 m o p1 p,X,Z,k,n,cv,cl,C,h=>by
  have h':o.ok X.env.scope n=true/\p1.endLine=p.line:=by have h:(_&&_)=true:=h;simpa using h
  have so:=sE o X Z k n cv cl C h'.1;have hl:(p1.endLine==p.line)=true:=beq_iff_eq.mpr h'.2;have pe:PE X ((E.m0 m o p1 p).py n) (zL X.K cv 158 Z ((E.m0 m o p1 p).ev cl)):=by
   cases m with
   | pop =>
    refine PE.mono (z82 Y3d PySem.F.slot_list_pop PySem.F.type_list_pop (z4t (cv:=cv)) so.pe (wN o _ _) hl) λ σ H Q=>zb λ μ ρ h hr er q=>?_;refine za (m:=o.ev cl) hr er q λ da h1 μ1 H1 x _ e1 r1 er1 qa p1=>?_;exact ⟨zbp r1 qa λ z=>by rw [z] at p1;exact p1,rfl,μ1,h1,da,_,r1,qa,p1⟩
  exact 135
 | .m1 m o a p1 p,X,Z,k,n,cv,cl,C,h=>by
  have h':(o.ok X.env.scope n=true/\a.ok X.env.scope n=true)/\p1.endLine=p.line:=by have h:(_&&_)=true:=h;simpa using h
  have so:=sE o X Z k n cv cl C h'.1.1;have sa:=sE a X Z k n cv cl C h'.1.2;have hl:(p1.endLine==p.line)=true:=beq_iff_eq.mpr h'.2;have pe:PE X ((E.m1 m o a p1 p).py n) (zL X.K cv 158 Z ((E.m1 m o a p1 p).ev cl)):=by
   cases m with
   | append =>
    refine PE.mono (z6d Y3d PySem.F.slot_list_append PySem.F.type_list_append (UI (cv:=cv)) so.pe (zY sa.pe j9 227) (wN o _ _) (VR a _ _) hl 227 rfl) λ σ H Q=>zb λ μ ρ h hr er q=>?_;refine za (m:=o.ev cl) hr er q λ da h1 μ1 H1 x _ e1 r1 er1 qa p1=>?_;obtain ⟨ty,p1⟩:=z0k r1 qa p1;refine ⟨ty,?_⟩;refine za (m:=a.ev cl) r1 er1 p1 λ db h2 μ2 H2 y _ e2 r2 er2 qb p2=>?_;exact ⟨y,rfl,μ2,h2,da,db,_,r2,qa.mono e2,qb,p2⟩
   | extend =>
    refine PE.mono (z6d Y3d PySem.F.slot_list_extend PySem.F.type_list_extend (UK (cv:=cv)) so.pe (zY sa.pe j9 227) (wN o _ _) (VR a _ _) hl 227 rfl) λ σ H Q=>zb λ μ ρ h hr er q=>?_;refine za (m:=o.ev cl) hr er q λ da h1 μ1 H1 x _ e1 r1 er1 qa p1=>?_;obtain ⟨ty,p1⟩:=z0k r1 qa p1;refine ⟨ty,?_⟩;refine za (m:=a.ev cl) r1 er1 p1 λ db h2 μ2 H2 y _ e2 r2 er2 qb p2=>?_;exact ⟨y,rfl,μ2,h2,da,db,_,r2,qa.mono e2,qb,p2⟩
  exact 135
 | .max2 a b p0 p,X,Z,k,n,cv,cl,C,h=>by
  have h':(gOf X.env.scope "max"=true/\a.ok X.env.scope n=true)/\b.ok X.env.scope n=true:=by have h:(_&&_)=true:=h;simpa using h
  have sa:=sE a X Z k n cv cl C h'.1.2;have sb:=sE b X Z k n cv cl C h'.2;have pe:PE X ((E.max2 a b p0 p).py n) (zL X.K cv 158 Z ((E.max2 a b p0 p).ev cl)):=by
   refine PE.mono (wz (Ox (cv:=cv) C.cm) (C.gl h'.1.1) (C.bm _ 127) PyProof.Rows.boot_max (zY sa.pe (zY sb.pe j9 (zi b _ _)) 227) 127 127 227 (by rw [zi];rfl)) λ σ H Q=>zb λ μ ρ h hr er q=>?_;refine za (m:=a.ev cl) hr er q λ da h1 μ1 H1 x _ e1 r1 er1 qa p1=>?_;refine za (m:=b.ev cl) r1 er1 p1 λ db h2 μ2 H2 y _ e2 r2 er2 qb p2=>?_;exact ⟨x,y,rfl,μ2,h2,da,db,_,r2,qa.mono e2,qb,p2⟩
  exact 135
 | .gsub x kvs i p0 p,X,Z,k,n,cv,cl,C,h=>by
  have h':(gOf X.env.scope x=true/\(x,Cn.dic kvs)∈n.G)/\i.ok X.env.scope n=true:=by have h:(_&&_)=true:=h;simpa using h
  obtain ⟨hd,v,hm,ok⟩:=C.gc x _ h'.1.2;have si:=sE i X Z k n cv cl C h'.2;have pe:PE X ((E.gsub x kvs i p0 p).py n) (zL X.K cv 158 Z ((E.gsub x kvs i p0 p).ev cl)):=by
   have ok':=ok;obtain ⟨a,o,es,ep,vs,rfl,_⟩:=ok';refine PE.mono (z6c (z8m (kvs:=kvs)) (z3e (v:=.ref a) (C.gl h'.1.1) hm rfl hd) si.pe (Yu i)) λ σ H Q=>zb λ μ ρ h hr er q=>?_;refine za (m:=i.ev cl) hr er q λ d h1 μ1 H1 y _ e1 r1 er1 qa p1=>?_;unfold z4i at p1;cases qa with
   | str kk =>
    simp only at p1;split at p1
    ·rename_i xs l;split at p1
     ·exact p1.elim
     ·rename_i nf;exact ⟨a,kk,xs,rfl,rfl,ok,l,λ b tk=>p1.here r1 (tk.rep ((Bool.not_eq_true _).mp nf))⟩
    ·exact p1.elim
   | _=>exact p1.elim
  exact 135
 | .c1 f a p0 p,X,Z,k,n,cv,cl,C,h=>by
  have h':gOf X.env.scope f.name=true/\a.ok X.env.scope n=true:=by have h:(_&&_)=true:=h;simpa using h
  have sa:=sE a X Z k n cv cl C h'.2;have fin:∀ {σ H Q},zL X.K cv 158 Z ((E.c1 f a p0 p).ev cl) σ H Q->zL X.K cv 158 Z (a.ev cl) σ H λ x H1=>∃ y,[x]=[y]/\r1 X.K cv (c1D f) y H1 Q:=λ {σ H Q} ⟨μ,ρ,h,hr,er,q⟩=>by
   refine za (m:=a.ev cl) hr er q λ da h1 μ1 H1 x _ e1 r1 er1 qa p1=>?_;exact 263
  have pe:PE X ((E.c1 f a p0 p).py n) (zL X.K cv 158 Z ((E.c1 f a p0 p).ev cl)):=by
   cases f with
   | int=>exact PE.mono (jR (Oy (cv:=cv)) (C.gl h'.1) (C.bm _ 127) PyProof.Rows.boot_int (zY sa.pe j9 227) 127 127 227 rfl) λ σ H Q q=>fin q
   | all=>exact PE.mono (wz (Oz (cv:=cv) C.cm) (C.gl h'.1) (C.bm _ 127) PyProof.Rows.boot_all (zY sa.pe j9 227) 127 127 227 rfl) λ σ H Q q=>fin q
   | any=>exact PE.mono (wz (OA (cv:=cv) C.cm) (C.gl h'.1) (C.bm _ 127) PyProof.Rows.boot_any (zY sa.pe j9 227) 127 127 227 rfl) λ σ H Q q=>fin q
   | sum=>exact PE.mono (wz (OB (cv:=cv) C.cm) (C.gl h'.1) (C.bm _ 127) PyProof.Rows.boot_sum (zY sa.pe j9 227) 127 127 227 rfl) λ σ H Q q=>fin q
   | lks=>exact PE.mono (jR (OC (cv:=cv) C.cm) (C.gl h'.1) (C.bm _ 127) PyProof.Rows.boot_list (zY sa.pe j9 227) 127 127 227 rfl) λ σ H Q q=>fin q
  exact 135
 | .sset e p0 p1 p2 p,X,Z,k,n,cv,cl,C,h=>by
  have h':(gOf X.env.scope "sorted"=true/\gOf X.env.scope "set"=true)/\e.ok X.env.scope n=true:=by have h:(_&&_)=true:=h;simpa using h
  have se:=sE e X Z k n cv cl C h'.2;have pe:PE X ((E.sset e p0 p1 p2 p).py n) (zL X.K cv 158 Z ((E.sset e p0 p1 p2 p).ev cl)):=by
   refine PE.mono (z4g C.cm (C.gl h'.1.2) (C.bm _ 127) (C.gl h'.1.1) (C.bm _ 127) (zY se.pe j9 (zi e _ _)) (zi e _ _)) λ σ H Q=>zb λ μ ρ h hr er q=>?_;refine za (m:=e.ev cl) hr er q λ d h1 μ1 H1 x _ e1 r1 er1 qa p1=>?_;exact z54 r1 qa p1
  exact 135
 | .cmpN neg a p1 p,X,Z,k,n,cv,cl,C,h=>by
  have h':a.ok X.env.scope n=true:=by exact h
  have sa:=sE a X Z k n cv cl C h';have hu:X.A.units<cLine:=by have:=C.rm.units;omega
  have hop:OpR X (compareOp 295) (z42 X.K neg):=by cases neg with | true=>exact BN hu | false=>exact BM hu
  have hb:behindInMarks 295 (.List [] p1)=false:=by cases neg<;>rfl
  have fin:∀ {μ1:XZ}{h1:Hh}{H1:Hp}{x:V}{da:D}{Q:VK}{Z1:Value->Hp->Prop},HR X.K μ1 h1 H1->Rep X.K μ1 H1 da x->PostE X.K cv 158 μ1 H1 (Z9 neg da h1) Q Z1->∀ b,H1 b=none->z42 X.K neg x (.ref b) (upd H1 b (.lst [])) Q:=λ {μ1 h1 H1 x da Q Z1} r1 qa p1 b hb'=>by
   unfold Z9 at p1;have q2:=SqL.of (K:=X.K) (zC (H:=H1) (a:=b) (o:=.lst []));cases qa with
   | @fl ds vs a f r =>
    refine ⟨a,b,vs,rfl,rfl,((zt (μ:=μ1) hb').fz _ _ f).sq,q2,?_⟩;have z:=p1 μ1 (upd H1 b (.lst [])) _ (zt hb') (r1.tup hb') 262;rw [r.isEmpty] at z;exact z
   | @loc nn a m =>
    cases e2:PI.rd h1 nn with
    | none=>simp only [e2] at p1;exact p1.elim
    | some ds =>
     simp only [e2] at p1;obtain ⟨vs,q1,r⟩:=y8 r1 m e2;refine ⟨a,b,vs,rfl,rfl,SqL.of (by rw [zr (by intro z;rw [z,hb'] at q1;cases q1)];exact q1),q2,?_⟩;have z:=p1 μ1 (upd H1 b (.lst [])) _ (zt hb') (r1.tup hb') 262;rw [r.isEmpty] at z;exact z
   | _=>exact p1.elim
  have pe:PE X ((E.cmpN neg a p1 p).py n) (zL X.K cv 158 Z ((E.cmpN neg a p1 p).ev cl)):=by
   refine PE.mono (WH hop sa.pe (Um j9) hb) λ σ H Q=>zb λ μ ρ h hr er q=>?_;refine za (m:=a.ev cl) hr er q λ da h1 μ1 H1 x _ e1 r1 er1 qa p1=>?_;exact ⟨Y19 _,λ b hb'=>fin r1 qa p1 b hb'⟩
  refine ⟨pe,λ _=>?_⟩;refine PT.mono (WI hop sa.pe (Um j9) hb) λ σ H Q=>zb λ μ ρ h hr er q=>?_;have q:PostE X.K cv RB μ H (((a.ev cl ρ h).bind λ x h1=>Z9 neg x h1).bind toB) Q (Z σ):=q;rw [zx] at q;unfold Vr;refine za (m:=a.ev cl) hr er q λ da h1 μ1 H1 x _ e1 r1 er1 qa p1=>?_;refine ⟨Y19 _,λ b hb'=>fin (Z1:=Z σ) r1 qa ?_ b hb'⟩;cases e3:Z9 neg da h1 with
  | ok d h3 =>
   rw [e3] at p1;intro μ3 H3 v x1 x2 x3;unfold Res.bind toB at p1;cases x3 with
   | bl c=>exact ⟨c,rfl,p1 μ3 H3 c x1 x2 rfl⟩
   | _=>exact p1.elim
  | exc c h3=>rw [e3] at p1;exact p1
  | no=>rw [e3] at p1;exact p1
theorem sEo:∀ (e:Eo) (X:Cx) (Z:ZK) (k:Nat) (n:Nm) (cv:160) (cl:126),Kx X Z k n cv cl->e.ok X.env.scope n=true->PO X (e.py n) (zL X.K cv (λ _ _ a b=>a=b) Z (e.ev cl))
 | .none,X,Z,k,n,cv,cl,C,h=>by
  refine PO.mono z3q λ σ H Q=>zb λ μ ρ h hr er q=>?_;exact q.here hr rfl
 | .some e,X,Z,k,n,cv,cl,C,h=>by
  have se:=sE e X Z k n cv cl C (by exact h);refine PO.mono (z3r se.pe) λ σ H Q=>zb λ μ ρ h hr er q=>?_;refine za hr er q λ d h1 μ1 H1 x _ e1 r1 er1 qa p1=>?_;unfold zbg at p1;cases qa with
  | int i=>exact ⟨i,rfl,p1.here r1 rfl⟩
  | _=>exact p1.elim
theorem sL:∀ (l:L) (X:Cx) (Z:ZK) (k:Nat) (n:Nm) (cv:160) (cl:126),Kx X Z k n cv cl->l.ok X.env.scope n=true->PE X (l.py n) (z0h X.K cv Z (l.ev cl))
 | .disp es p,X,Z,k,n,cv,cl,C,h=>by
  have sr:=sEs es X Z k n cv cl C (by exact h);refine PE.mono (Um sr.pa) λ σ H Q=>zb λ μ ρ h hr er q=>?_;refine jr Ext.refl hr er q (λ _ _ z=>z) λ ds h1 μ1 H1 xs _ e1 r1 er1 qa p1=>?_;split at p1
  ·rename_i c;refine ⟨by rw [<- qa.length];exact Y21 (yq c),λ a ha=>?_⟩;have na:=r1.fresh ha;have n0:H a=none:=by
    cases e:H a with
    | none=>rfl
    | some o=>rw [e1.oth a o e λ z=>na (e1.sub z)] at ha;cases ha
   exact p1 μ1 _ _ (e1.trans (zt ha)) (r1.tup ha) ⟨a,xs,rfl,zC,qa.mono (zt ha),na,n0⟩
  ·exact p1.elim
 | .comp elt t it c NC cap csc p,X,Z,k,n,cv,cl,C,h=>by
  obtain ⟨k1,k2',k3,k4,k5,k6,k7,k8,k9⟩:=VS C h;have hit:=sI it X Z k n cv cl C k1.1 t k1.2 NC;exact z0j C.cm C.th hit k2' k5
   (λ Cc s H fp pn xe=>VU C.kd k2' k3 k5)
   (λ Cc s H fp pn xe Zc th=>by
    have Cc':=C.comp k2' k3 k4 th;cases c with
    | nil=>exact VT
    | cons e r =>
     cases r with
     | cons _ _=>cases k9
     | nil =>
      have se:=sE e _ Zc k 267 cv cl Cc' (by have k7:(_&&_)=true:=k7;simp at k7;exact k7.1);have ht:=se.pt (by have k8:(_&&_)=true:=k8;simp at k8;exact k8.1);exact BJ ht)
   (λ Cc s H fp pn xe Zc th=>(sE elt _ Zc k 267 cv cl (C.comp k2' k3 k4 th) k6).pe) (qI it)
theorem sI:∀ (it:I) (X:Cx) (Z:ZK) (k:Nat) (n:Nm) (cv:160) (cl:126),Kx X Z k n cv cl->it.ok X.env.scope n=true->∀ t:Tg,t.forI it=true->∀ N,L2.PI X (t.py N) (it.py n) (zL X.K cv (RJ X.K) Z (it.ev cl))
 | .seq e,X,Z,k,n,cv,cl,C,h=>λ t ht N=>by
  have se:=sE e X Z k n cv cl C (by exact h);refine PI.mono (z8p se.pe) λ σ H Q=>zb λ μ ρ h hr er q=>?_;refine za (m:=e.ev cl) hr er q λ d h1 μ1 H1 x _ e1 r1 er1 qa p1=>?_;cases qa with
  | tup g1 g2=>exact .inr ⟨_,rfl,⟨_,g1⟩,p1.here r1 (z50 g1 g2)⟩
  | fl g1 g2=>exact .inl ⟨_,rfl,⟨_,g1.sq⟩,p1.here r1 (z8o g1 g2)⟩
  | @loc nn a m =>
   cases e2:rd h1 nn with
   | none=>simp only [e2] at p1;exact p1.elim
   | some xs =>
    simp only [e2] at p1;obtain ⟨vs,hs1,rs⟩:=r1.rd e2 m;exact .inl ⟨_,rfl,⟨_,hs1⟩,p1.here r1 (z4y m)⟩
  | _=>exact p1.elim
 | .lst l,X,Z,k,n,cv,cl,C,h=>λ t ht N=>by
  have sl:=sL l X Z k n cv cl C (by exact h);refine PI.mono (z3k sl) λ σ H Q=>zb λ μ ρ h hr er q=>?_;refine jr (m:=l.ev cl) Ext.refl hr er q (λ _ _ z=>z) λ ds h1 μ1 H1 x _ e1 r1 er1 qa p1=>?_;obtain ⟨p,vs,rfl,g1,g2,g3,g4⟩:=qa;exact ⟨p,rfl,⟨vs,SqL.of g1⟩,p1 μ1 H1 _ e1 r1 (z4z g1 g3 g2)⟩
 | .rng a p0 p,X,Z,k,n,cv,cl,C,h=>λ t ht N=>by
  have h':gOf X.env.scope "range"=true/\a.ok X.env.scope n=true:=by have h:(_&&_)=true:=h;simpa using h
  have sa:=sE a X Z k n cv cl C h'.2;refine PI.mono (O2 (C.gl h'.1) (C.bm _ 127) (zY sa.pe j9 227) 227) λ σ H Q=>zb λ μ ρ h hr er q=>?_;refine za (m:=a.ev cl) hr er q λ d h1 μ1 H1 x _ e1 r1 er1 qa p1=>?_;cases qa with
  | int j =>
   simp only at p1;split at p1
   ·rename_i c;exact ⟨j,rfl,by have:=c.1;omega,by have:=c.2;omega,p1.here r1 (z51 j.toNat)⟩
   ·exact p1.elim
  | _=>exact p1.elim
 | .keys e,X,Z,k,n,cv,cl,C,h=>λ t ht N=>by
  have se:=sE e X Z k n cv cl C (by exact h);refine PI.mono (z49 se.pe) λ σ H Q=>zb λ μ ρ h hr er q=>?_;refine za (m:=e.ev cl) hr er q λ d h1 μ1 H1 x _ e1 r1 er1 qa p1=>?_;unfold ZP at p1;cases qa with
  | @loc nn a m =>
   cases g1:h1[nn]? with
   | none=>simp only [g1] at p1;exact p1.elim
   | some o =>
    have q:=r1.obj nn a o m g1;cases o with
    | dK kvs =>
     simp only [g1] at p1;obtain ⟨vs,q1,q2⟩:=q;refine ⟨a,vs,rfl,.inl ⟨q1,λ ob=>?_⟩⟩;obtain ⟨hr',ex⟩:=r1.chg (u:=.frz ob (.dK vs)) (o':=.fK kvs) g1 m λ H' ex e=>⟨ob,vs,e,q2.mono ex⟩;exact p1 μ1 _ _ ex hr' (Yv zC (q2.mono ex))
    | fK kvs =>
     simp only [g1] at p1;obtain ⟨ob,vs,q1,q2⟩:=q;exact ⟨a,vs,rfl,.inr ⟨ob,q1,p1.here r1 (Yv q1 q2)⟩⟩
    | lst _=>simp only [g1] at p1;exact p1.elim
    | dT _=>simp only [g1] at p1;exact p1.elim
    | obj _ _=>simp only [g1] at p1;exact p1.elim
  | _=>exact p1.elim
 | .items e p1 p,X,Z,k,n,cv,cl,C,h=>λ t ht N=>by
  cases t with
  | one i q=>cases ht
  | tup is q =>
   have h':e.ok X.env.scope n=true/\(p1.endLine==p.line)=true:=by have h:(_&&_)=true:=h;rwa [Y0l] at h
   have se:=sE e X Z k n cv cl C h'.1;refine PI.mono (BT se.pe (wN e _ _) h'.2) λ σ H Q=>zb λ μ ρ h hr er q=>?_;refine za (m:=e.ev cl) hr er q λ d h1 μ1 H1 x _ e1 r1 er1 qa p1=>?_;unfold ZQ at p1;cases qa with
   | @loc nn a m =>
    cases g1:h1[nn]? with
    | none=>simp only [g1] at p1;exact p1.elim
    | some o =>
     have q:=r1.obj nn a o m g1;cases o with
     | dK kvs =>
      simp only [g1] at p1;obtain ⟨vs,q1,q2⟩:=q;refine ⟨a,vs,rfl,.inl ⟨q1,λ ob=>?_⟩⟩;obtain ⟨hr',ex⟩:=r1.chg (u:=.frz ob (.dK vs)) (o':=.fK kvs) g1 m λ H' ex e=>⟨ob,vs,e,q2.mono ex⟩;exact p1 μ1 _ _ ex hr' (Wh zC (q2.mono ex))
     | fK kvs =>
      simp only [g1] at p1;obtain ⟨ob,vs,q1,q2⟩:=q;exact ⟨a,vs,rfl,.inr ⟨ob,q1,p1.here r1 (Wh q1 q2)⟩⟩
     | lst _=>simp only [g1] at p1;exact p1.elim
     | dT _=>simp only [g1] at p1;exact p1.elim
     | obj _ _=>simp only [g1] at p1;exact p1.elim
   | _=>exact p1.elim
theorem sEs:∀ (r:Es) (X:Cx) (Z:ZK) (k:Nat) (n:Nm) (cv:160) (cl:126),Kx X Z k n cv cl->r.ok X.env.scope n=true->SEs X Z n cv cl r
 | .nil,X,Z,k,n,cv,cl,C,_=>by
  refine ⟨?_,λ b p sb=>?_,λ b p sb hb _=>?_,λ b p sb=>?_,λ b p sb hb _=>?_,z8q⟩
  ·skip;refine PA.mono j9 λ σ H Q=>zb λ μ ρ h hr er q=>?_;exact q.here hr .nil
  ·skip;refine PE.mono (Bb sb.pe) λ σ H Q=>zb λ μ ρ h hr er q=>⟨μ,ρ,h,hr,er,?_⟩;have q:PostE X.K cv 158 μ H ((b.ev cl ρ h).bind λ a h1=>.ok a h1) Q (Z σ):=q
   rwa [jS] at q
  ·skip;refine PW.mono (z3g (sb.pt hb)) λ σ H Q=>zb λ μ ρ h hr er q=>⟨μ,ρ,h,hr,er,?_⟩;have q:PostE X.K cv RB μ H ((b.evT cl ρ h).bind λ a h1=>.ok a h1) Q (Z σ):=q
   rwa [jS] at q
  ·skip;refine PE.mono (Bb sb.pe) λ σ H Q=>zb λ μ ρ h hr er q=>⟨μ,ρ,h,hr,er,?_⟩;have q:PostE X.K cv 158 μ H ((b.ev cl ρ h).bind λ a h1=>.ok a h1) Q (Z σ):=q
   rwa [jS] at q
  ·skip;refine PW.mono (z7c (sb.pt hb)) λ σ H Q=>zb λ μ ρ h hr er q=>⟨μ,ρ,h,hr,er,?_⟩;have q:PostE X.K cv RB μ H ((b.evT cl ρ h).bind λ a h1=>.ok a h1) Q (Z σ):=q
   rwa [jS] at q
 | .cons e r,X,Z,k,n,cv,cl,C,h=>by
  have h':e.ok X.env.scope n=true/\r.ok X.env.scope n=true:=by have h:(_&&_)=true:=h;simpa using h
  have se:=sE e X Z k n cv cl C h'.1;have sr:=sEs r X Z k n cv cl C h'.2;refine ⟨?_,λ b p sb=>?_,λ b p sb hb hr'=>?_,λ b p sb=>?_,λ b p sb hb hr'=>?_,z52 se.pe sr.ps⟩
  ·skip;refine PA.mono (zY se.pe sr.pa (zi e _ _)) λ σ H Q=>zb λ μ ρ h hr er q=>?_;refine za hr er q λ da h1 μ1 H1 x _ e1 r1 er1 qa p1=>?_;refine za r1 er1 p1 λ ds h2 μ2 H2 xs _ e2 r2 er2 qb p2=>?_;exact p2.here r2 (.cons (qa.mono e2) qb)
  ·skip;refine PE.mono (Bc sb.pe (sr.an e p se)) λ σ H Q=>zb λ μ ρ h hr er q=>?_;refine za hr er q λ d h1 μ1 H1 x _ e1 r1 er1 qa p1=>?_;cases qa with
   | bl c =>
    refine ⟨c,rfl,?_⟩;cases c with
    | true=>exact Z6 174
    | false=>exact Z5 (p1.here r1 262)
   | _=>exact p1.elim
  ·skip;have hr2:e.okT=true/\r.okT=true:=by have hr':(_&&_)=true:=hr';simpa using hr'
   refine PW.mono (Ba (sb.pt hb) (sr.anT e p se hr2.1 hr2.2)) λ σ H Q=>zb λ μ ρ h hr er q=>?_;refine za hr er q λ c h1 μ1 H1 x _ e1 r1 er1 qa p1=>?_;have qa':=qa;subst qa';cases c with
   | true=>exact Z6 174
   | false=>exact Z5 (p1.here r1 rfl)
  ·skip;refine PE.mono (z69 sb.pe (sr.orr e p se)) λ σ H Q=>zb λ μ ρ h hr er q=>?_;refine za hr er q λ d h1 μ1 H1 x _ e1 r1 er1 qa p1=>?_;cases qa with
   | bl c =>
    refine ⟨c,rfl,?_⟩;cases c with
    | true=>exact Z6 (p1.here r1 262)
    | false=>exact Z5 174
   | _=>exact p1.elim
  ·skip;have hr2:e.okT=true/\r.okT=true:=by have hr':(_&&_)=true:=hr';simpa using hr'
   refine PW.mono (z68 (sb.pt hb) (sr.orT e p se hr2.1 hr2.2)) λ σ H Q=>zb λ μ ρ h hr er q=>?_;refine za hr er q λ c h1 μ1 H1 x _ e1 r1 er1 qa p1=>?_;have qa':=qa;subst qa';cases c with
   | true=>exact Z6 (p1.here r1 rfl)
   | false=>exact Z5 174
end
end
noncomputable def PostS (K:Y01)(cv:160)(μ:XZ)(H:Hp)(r:RS)(En:Ends)(Z:ZK):Prop :=
 match r with
 | .nx ρ h'=>∀ μ' H' σ',Ext K μ H μ' H'->HR K μ' h' H'->ER K μ' ρ σ' H'->En.nx σ' H'
 | .bk ρ h'=>∀ μ' H' σ',Ext K μ H μ' H'->HR K μ' h' H'->ER K μ' ρ σ' H'->En.bk σ' H'
 | .ct ρ h'=>∀ μ' H' σ',Ext K μ H μ' H'->HR K μ' h' H'->ER K μ' ρ σ' H'->En.ct σ' H'
 | .rt d h'=>∀ μ' H' v,Ext K μ H μ' H'->HR K μ' h' H'->Rep K μ' H' d v->En.rt v H'
 | .ex c ρ h'=>False
 | .no=>False
noncomputable def ZW (K:Y01)(cv:160)(Z:ZK)(m:En->Hh->RS):TS:=λ En σ H=>∃ μ ρ h,HR K μ h H/\ER K μ ρ σ H/\PostS K cv μ H (m ρ h) En Z
theorem zX {K:Y01}{cv:160}{Z:ZK}{m:En->Hh->RS}{En:Ends}{σ:St}{H:Hp}{G:Prop}(f:∀ μ ρ h,HR K μ h H->ER K μ ρ σ H->PostS K cv μ H (m ρ h) En Z->G)(x:ZW K cv Z m En σ H):G:=by
 obtain ⟨μ,ρ,h,hr,er,q⟩:=x;exact f μ ρ h hr er q
theorem PostS.ext {K:Y01}{H H1:Hp}{r:RS}{En:Ends}(p:PostS K cv μ H r En Z)(e:Ext K μ H μ1 H1):PostS K cv μ1 H1 r En Z:=by
 unfold PostS at p ⊢;cases r with
 | nx ρ h=>exact λ μ' H' σ' e1 r1 q1=>p μ' H' σ' (e.trans e1) r1 q1
 | bk ρ h=>exact λ μ' H' σ' e1 r1 q1=>p μ' H' σ' (e.trans e1) r1 q1
 | ct ρ h=>exact λ μ' H' σ' e1 r1 q1=>p μ' H' σ' (e.trans e1) r1 q1
 | rt d h=>exact λ μ' H' σ' e1 r1 q1=>p μ' H' σ' (e.trans e1) r1 q1
 | ex c ρ h=>exact p
 | no=>exact p
theorem zU {K:Y01}{cv:160}{ρ:En}{h:Hh}{σ:St}{H:Hp}{Z:ZK}{m:En->Hh->Res α}{f:α->Hh->RS}{En:Ends}{Q':β->Hp->Prop}
  (hr:HR K μ h H) (er:ER K μ ρ σ H) (p:PostS K cv μ H (j5 ρ (m ρ h) f) En Z)
  (go:∀ a h1 μ1 H1 x,m ρ h=.ok a h1->Ext K μ H μ1 H1->HR K μ1 h1 H1->ER K μ1 ρ σ H1->R μ1 H1 a x->PostS K cv μ1 H1 (f a h1) En Z->Q' x H1) :
  zL K cv R Z m σ H Q':=by
 refine ⟨μ,ρ,h,hr,er,?_⟩;unfold j5 at p;cases e:m ρ h with
 | ok a h1 =>
  rw [e] at p;exact λ μ1 H1 x e1 r1 q1=>go a h1 μ1 H1 x e e1 r1 (er.mono e1) q1 (PostS.ext p e1)
 | exc c h1 =>
  rw [e] at p;exact p
 | no=>rw [e] at p;exact p
noncomputable def Xt.ok (sc:Scope)(n:Nm)(t:Xt):Bool:=gOf sc t.x&&!(t.x==("__debug__":Str))&&(match t.d with
 | some d=>n.G.any λ q=>q.1==t.x&&(match q.2 with | .exc d' _=>d'==d | _=>false)
 | none=>t.x==("ValueError":Str))
noncomputable def Xv.ok (sc:Scope)(n:Nm):Xv->Bool
 | .and a b r _=>a.ok sc n&&b.ok sc n&&r.all (Xt.ok sc n)
 | .lst ts _=>ts.all (Xt.ok sc n)&&decide (ts.length<=1000)
 | .one t=>t.ok sc n
structure XK' (X:Cx)(n:Nm)(cv:160)(j:Nat):Prop where
 is:Gl X "isinstance"
 mi:X.mg "isinstance"=none
 mv:X.mg "ValueError"=none
 hj:X.N[j]?=some (n.N.getD j "")
 vi:Vis X.env.scope (n.N.getD j "")
 nd:(n.N.getD j ""==("__debug__":Str))=false
 nc:(n.N.getD j ""==("__classdict__":Str))=false
 gc:∀ x c u,(x,Cn.exc c u)∈n.G->∃ a,X.mg x=some 202/\cv c=.ref a
noncomputable def E.noT:E->Bool
 | .tup _ _=>false
 | .ofL _=>false
 | _=>true
noncomputable def E.noC:E->Bool
 | .ofL (.comp _ _ _ _ _ _ _ _)=>false
 | _=>true
noncomputable def Fp.ok (n:Nm):Fp->Bool
 | .c _ _=>true
 | .r i _ _=>decide (i<n.N.length)
 | .v i _ _=>decide (i<n.N.length)
noncomputable def Ms.ok (n:Nm):Ms->Bool
 | .s _ _=>true
 | .f a b r _=>a.ok n&&b.ok n&&r.all (λ q=>q.ok n)
mutual
noncomputable def S.ok (sc:Scope)(n:Nm):S->Bool
 | .set i e _ _=>decide (i<n.N.length)&&e.ok sc n
 | .ret e _=>e.ok sc n
 | .iff c a b _=>c.ok sc n&&c.okT&&a.ok sc n&&b.ok sc n
 | .ex e _=>e.ok sc n&&e.noC
 | .setF o f v _ _=>o.ok sc n&&v.ok sc n&&decide (f∈jq)&&v.noC
 | .put o i v _ _=>o.ok sc n&&i.ok sc n&&v.ok sc n
 | .putT o es v _ _ _=>o.ok sc n&&es.ok sc n&&v.ok sc n
 | .forr t it b _=>t.okS n.N&&(it.ok sc n&&t.forI it)&&b.ok sc n
 | .whil c b _=>c.ok sc n&&c.okT&&b.ok sc n
 | .setT is e p1 _=>(Tg.tup is p1).okS n.N&&e.ok sc n&&e.noT
noncomputable def Ss.ok (sc:Scope)(n:Nm):Ss->Bool
 | .nil=>true
 | .cons s r=>s.ok sc n&&r.ok sc n
end
theorem PS.mono (p:PS X e t)(h:∀ En σ H,t' En σ H->t En σ H):PS X e t':=λ pins s σ H En I q=>p pins s σ H En I (h En σ H q)
theorem PSs.mono (p:PSs X e t)(h:∀ En σ H,t' En σ H->t En σ H):PSs X e t':=λ pins s σ H En I q=>p pins s σ H En I (h En σ H q)
structure KxS (X:Cx)(Z:ZK)(k:Nat)(n:Nm)(cv:160)(cl:126):Prop extends Kx X Z k n cv cl where
 lo:∀ x∈n.N,Loc X.env.scope x/\(X.fn x=true\/X.env.scope.names.lookup x=some .local)
theorem KxS.wish (C:KxS X Z k n cv cl):KxS (X.wish (XE X Z)) Z k n cv cl :=
 ⟨⟨C.th.wished,C.rm,C.nN,C.nd,C.cm,C.kd,C.nm,C.bm,C.gc,C.fn,C.mc,C.xc⟩,C.lo⟩
section
variable {X:Cx}{Z:ZK}{k:Nat}{n:Nm}{cv:160}{cl:126}
theorem yX (e:E)(h:e.noC=true)(t:Option Expr)(l:Nat)(env:Env):swapsWith (e.py n) t l env=pure false:=by
 cases e with
 | ofL l =>
  cases l with
  | disp es p=>rfl
  | comp=>cases h
 | _=>rfl
theorem ZX (o i : E)(p1 : Pos)(env : Env) : ∀ v, assign (.Subscript (o.py n) (i.py n) p1) env v = (do
      let ov <- holding [v] (eval (o.py n) env)
      let iv <- holding [v,ov] (eval (i.py n) env)
      standAt p1
      holding [v,ov,iv] (setItem ov iv v)
      release [v,ov,iv] []):=by
  intro v;generalize o.py n=oo;cases i with
  | ofL l=>cases l<;>(rfl)
  | _=>rfl
theorem ZY (o i e:E)(p1:Pos)(l:Nat)(env:Env):swapsWithSole [.Subscript (o.py n) (i.py n) p1] (e.py n) l env=pure false:=by
 generalize o.py n=oo;generalize i.py n=ii;cases e with
 | ofL l=>cases l<;>(rfl)
 | _=>rfl
theorem ya (o i e:E)(p1:Pos)(env:Env):swappedStores [.Subscript (o.py n) (i.py n) p1] (e.py n) env=pure none:=by
 generalize o.py n=oo;generalize i.py n=ii;cases e with
 | ofL l=>cases l<;>(rfl)
 | _=>rfl
theorem z55 (ts:288)(e:E)(h:e.noT=true)(k:Nat)(p1:Pos)(l:Nat)(env:Env):swapsWithSole [.Tuple ts k p1] (e.py n) l env=pure false:=by
 cases e with
 | ofL l=>cases h
 | tup es p=>cases h
 | _=>rfl
theorem UO (e:E)(h:e.noC=true)(t:Option Expr)(l:Nat)(env:Env):swapsWith (e.py n) t l env=pure false:=by
 cases e with
 | ofL l=>cases l with
  | disp es p=>rfl
  | comp _ _ _ _ _ _ _ _=>cases h
 | _=>rfl
theorem OD (ts:288)(e:E)(h:e.noT=true)(k:Nat)(p1:Pos)(env:Env):swappedStores [.Tuple ts k p1] (e.py n) env=pure none:=by
 cases e with
 | ofL l=>cases h
 | tup es p=>cases h
 | _=>rfl
theorem UP {c:E}{p:Pos}{En:Ends}{σ:St}{H:Hp}{μ:XZ}{ρ:PI.En}{h:Hh}(hr:HR X.K μ h H)(er:ER X.K μ ρ σ H)(q:PostS X.K cv μ H ((S.whil c b p).run cl ρ h) En Z) :
  Ud (zL X.K cv RB Z (c.evT cl)) (ZW X.K cv Z (b.run cl)) En σ H:=by
 have q:PostS X.K cv μ H (whR 259 (λ ρ' h'=>b.run cl ρ' h') ρ h) En Z:=q;have nz:whR 259 (λ ρ' h'=>b.run cl ρ' h') ρ h≠.no:=λ z=>by rw [z] at q;exact q
 obtain ⟨n0,e0⟩:=Q1 nz;rw [<- e0] at q;refine ⟨λ m σ H=>∃ μ ρ h,HR X.K μ h H/\ER X.K μ ρ σ H/\PostS X.K cv μ H (whL 259 (λ ρ' h'=>b.run cl ρ' h') m ρ h) En Z,⟨n0,μ,ρ,h,hr,er,q⟩,?_⟩
 rintro m σ1 H1 ⟨μ1,ρ1,h1,hr1,er1,q1⟩
 cases m with
 | zero=>exact q1.elim
 | succ m =>
  rw [whL] at q1;refine ⟨μ1,ρ1,h1,hr1,er1,?_⟩;cases ec:c.evT cl ρ1 h1 with
  | ok t h2 =>
   rw [ec] at q1;intro μ2 H2 x e2 r2 hx;have hx':=hx;subst hx';cases t with
   | false=>exact Z5 (q1 μ2 H2 σ1 e2 r2 (er1.mono e2))
   | true =>
    refine Z6 ⟨λ σ' H'=>∃ μ ρ h,HR X.K μ h H'/\ER X.K μ ρ σ' H'/\PostS X.K cv μ H' (whL 259 (λ ρ' h'=>b.run cl ρ' h') m ρ h) En Z,λ σ' H' z=>⟨m,Y1p m,z⟩,μ2,ρ1,h2,r2,er1.mono e2,?_⟩;simp only at q1;have q2:=PostS.ext q1 e2;cases eb:b.run cl ρ1 h2 with
    | nx ρ4 h4=>simp only [eb] at q2;exact λ μ4 H4 σ4 e4 r4 er4=>⟨μ4,ρ4,h4,r4,er4,PostS.ext q2 e4⟩
    | ct ρ4 h4=>simp only [eb] at q2;exact λ μ4 H4 σ4 e4 r4 er4=>⟨μ4,ρ4,h4,r4,er4,PostS.ext q2 e4⟩
    | bk ρ4 h4=>simp only [eb] at q2;exact q2
    | rt d h4=>simp only [eb] at q2;exact q2
    | ex c' ρ4 h4=>simp only [eb] at q2;exact q2
    | no=>simp only [eb] at q2;exact q2
  | exc k h2 =>
   rw [ec] at q1;exact q1
  | no=>rw [ec] at q1;exact q1
theorem OE {c:Expr}{body:List Stmt}(th:Thr X Z)(hc:PT (X.wish (XE X Z)) c tc)(hb:PSs (X.wish (XE X Z)) body tb):PS X (.While c body [] pos) (Ud tc tb):=by
 intro pins s σ H D I h;refine wpAny_mono (Bm (W3 (Z:=Z) th.toXOk) hc hb pins s σ H D (I.wish _) h) (λ f s' q=>q.unwish) λ e s' x=>th.thr e s' x
theorem z0l {b:Ss}{En:Ends}{μ:XZ}{ρ:PI.En}{h:Hh}(hr:HR X.K μ h H)(er:ER X.K μ ρ σ H)(q:PostS X.K cv μ H ((S.forr t it b p).run cl ρ h) En Z) :
  z7j (zL X.K cv (RJ X.K) Z (it.ev cl)) (gB X.K t) (ZW X.K cv Z (b.run cl)) En σ H:=by
 refine zU (m:=it.ev cl) hr er q λ qq h1 μ1 H1 J _ e1 r1 er1 src p1=>?_;obtain ⟨c,ds⟩:=qq;refine ⟨λ i m σ' H'=>m=ds.length-i/\i<=ds.length/\∃ μ2 ρ2 h2,Ext X.K μ1 H1 μ2 H'/\HR X.K μ2 h2 H'/\ER X.K μ2 ρ2 σ' H'/\PostS X.K cv μ2 H' (zu c (zH t λ ρ' h'=>b.run cl ρ' h') (ds.drop i) ρ2 h2) En Z,
  ⟨ds.length,by simp,Y19 _,μ1,ρ,h1,Ext.refl,r1,er1,p1⟩,?_⟩
 rintro i m σ' H' ⟨rfl,hi,μ2,ρ2,h2,e2,r2,er2,p2⟩
 by_cases hlt:i<ds.length
 ·right;rw [Y38 hlt] at p2;unfold zu at p2;split at p2;rotate_left
  ·exact p2.elim
  rename_i st;obtain ⟨s1,s2⟩:=src μ2 h2 H' e2 r2 st;obtain ⟨g1,g2⟩:=s1 i ds[i] (Y06 hlt);refine ⟨g1,λ σ3 H3=>ds.length-(i+1)=ds.length-(i+1)/\i+1<=ds.length/\∃ μ3 ρ3 h3,Ext X.K μ1 H1 μ3 H3/\HR X.K μ3 h3 H3/\ER X.K μ3 ρ3 σ3 H3/\PostS X.K cv μ3 H3 (zu c (zH t λ ρ' h'=>b.run cl ρ' h') (ds.drop (i+1)) ρ3 h3) En Z,
   λ σ3 H3 z=>⟨ds.length-(i+1),by omega,z⟩,λ x H3 y=>?_⟩
  obtain ⟨e2',r2',rx⟩:=g2 x H3 y;replace p2:=PostS.ext p2 e2';replace e2:=e2.trans e2';replace r2:=r2';replace er2:=er2.mono e2';unfold zH at p2;cases eb:jm t ds[i] ρ2 with
  | none=>rw [eb] at p2;exact p2.elim
  | some ρ3 =>
   rw [eb] at p2;refine ⟨μ2,ρ2,ds[i],ρ3,h2,r2,er2,rx,eb,λ σ3 er3 _ _=>⟨μ2,ρ3,h2,r2,er3,?_⟩⟩;cases eo:b.run cl ρ3 h2 with
   | nx ρ4 h4 =>
    simp only [eo] at p2;exact λ μ4 H4 σ4 e4 r4 er4=>⟨rfl,hlt,μ4,ρ4,h4,e2.trans e4,r4,er4,PostS.ext p2 e4⟩
   | ct ρ4 h4 =>
    simp only [eo] at p2;exact λ μ4 H4 σ4 e4 r4 er4=>⟨rfl,hlt,μ4,ρ4,h4,e2.trans e4,r4,er4,PostS.ext p2 e4⟩
   | bk ρ4 h4=>simp only [eo] at p2;exact p2
   | rt d h4=>simp only [eo] at p2;exact p2
   | ex c' ρ4 h4=>simp only [eo] at p2;exact p2
   | no=>simp only [eo] at p2;exact p2
 ·left;have ei:i=ds.length:=by omega
  subst ei;rw [List.drop_length] at p2;unfold zu at p2;split at p2;rotate_left
  ·exact p2.elim
  rename_i st;exact ⟨(src μ2 h2 H' e2 r2 st).2,p2 μ2 H' σ' Ext.refl r2 er2⟩
mutual
theorem sS:∀ (s:S) (X:Cx) (Z:ZK) (k:Nat) (n:Nm) (cv:160) (cl:126),KxS X Z k n cv cl->s.ok X.env.scope n=true->PS X (s.py n) (ZW X.K cv Z (s.run cl))
 | .set i e p1 p,X,Z,k,n,cv,cl,C,h=>by
  have h':i<n.N.length/\e.ok X.env.scope n=true:=by have h:(_&&_)=true:=h;simpa using h
  have hm:=C.lo _ (y9 (d:=("":Str)) h'.1);have hN:X.N[i]?=some (n.N.getD i ""):=by rw [C.nN];exact getD_some h'.1
  have plain:swapsWith (e.py n) (some (.Name (n.N.getD i "") p1)) p.line X.env=pure false->PS X ((S.set i e p1 p).py n) (ZW X.K cv Z ((S.set i e p1 p).run cl)):=λ hs=>by
   have se:=sE e X Z k n cv cl C.toKx h'.2;refine PS.mono (z7i C.nd hN hm.1 se.pe hs hm.2) λ En σ H=>zX λ μ ρ h hr er q=>?_;refine zU hr er q λ d h1 μ1 H1 x _ e1 r1 er1 qa p1=>?_;exact p1 μ1 H1 _ Ext.refl r1 (er1.set qa i)
  cases hn:e.noC with
  | true=>exact plain (yX e hn _ _ _)
  | false =>
   cases e with
   | ofL l =>
    cases l with
    | disp es pp=>cases hn
    | comp elt t it c NC cap csc pp =>
     have hL:(L.comp elt t it c NC cap csc pp).ok X.env.scope n=true:=by exact h'.2
     obtain ⟨b,eb,hb⟩:∃ b,swapsWith ((E.ofL (.comp elt t it c NC cap csc pp)).py n) (some (.Name (n.N.getD i "") p1)) p.line X.env=pure b/\(b=true->X.env.scope.names.lookup (n.N.getD i "")=some .local):=by
      refine ⟨_,by rfl,λ z=>?_⟩;simp only [Y0l,beq_iff_eq] at z;exact z.1.1.2
     cases b with
     | false=>exact plain eb
     | true =>
      obtain ⟨k1,k2,k3,k4,k5,k6,k7,k8,k9⟩:=VS C.toKx hL;have hit:=sI it X Z k n cv cl C.toKx k1.1 t k1.2 NC;have hff:∀ Cc s H fp pn xe Zc,Thr (zJ X NC csc Cc s H fp pn xe) Zc->PF (zJ X NC csc Cc s H fp pn xe) (c.py 267) (zL X.K cv RB Zc (c.evC cl)):=λ Cc s H fp pn xe Zc th=>by
       have Cc':=C.toKx.comp k2 k3 k4 th;cases c with
       | nil=>exact VT
       | cons e r =>
        cases r with
        | cons _ _=>cases k9
        | nil =>
         have se:=sE e _ Zc k 267 cv cl Cc' (by have k7:(_&&_)=true:=k7;simp at k7;exact k7.1);have ht:=se.pt (by have k8:(_&&_)=true:=k8;simp at k8;exact k8.1);exact BJ ht
      have key:=z44 (te:=λ Zc=>zL X.K cv 158 Zc (elt.ev cl)) C.cm C.th hit k2 (λ Cc s H fp pn xe=>VU C.kd k2 k3 k5) hff
       (λ Cc s H fp pn xe Zc th=>(sE elt _ Zc k 267 cv cl (C.toKx.comp k2 k3 k4 th) k6).pe) (qI it) C.nd hN (hb rfl) eb
      refine PS.mono key λ En σ H=>zX λ μ ρ h hr er q=>Wj k2 k5 ⟨μ,ρ,h,hr,er,?_⟩;have q:PostS X.K cv μ H (j5 ρ (((L.comp elt t it c NC cap csc pp).ev cl ρ h).bind λ xs h1=>new 195 h1) λ d h1=>.nx (ρ.set i (some d)) h1) En Z:=q;show PostE X.K cv (RL X.K H) μ H ((L.comp elt t it c NC cap csc pp).ev cl ρ h) _ (Z σ);cases el:(L.comp elt t it c NC cap csc pp).ev cl ρ h with
      | ok ds h1 =>
       rw [el] at q;intro μ1 H1 x e1 r1 ⟨pa,vs,ex,g1,g2,g3,g4⟩;subst ex;have er1:ER X.K (μ1++[pa]) ρ σ H1:=er.mono (e1.add g4);refine q (μ1++[pa]) H1 _ (e1.add g4) (r1.add g3 λ μ' gr=>⟨vs,g1,g2.mono' gr⟩) (er1.set (.loc ?_) i);rw [<- r1.len,Y0q 175,Y1z];rfl
      | exc cc h1=>rw [el] at q;exact q
      | no=>rw [el] at q;exact q
   | _=>cases hn
 | .ret e p,X,Z,k,n,cv,cl,C,h=>by
  have se:=sE e X Z k n cv cl C.toKx (by exact h);refine PS.mono (z7f se.pe) λ En σ H=>zX λ μ ρ h hr er q=>?_;refine zU hr er q λ d h1 μ1 H1 x _ e1 r1 er1 qa p1=>?_;exact p1 μ1 H1 x Ext.refl r1 qa
 | .iff c a b p,X,Z,k,n,cv,cl,C,h=>by
  have h':((c.ok X.env.scope n=true/\c.okT=true)/\a.ok X.env.scope n=true)/\b.ok X.env.scope n=true:=by have h:(_&&_)=true:=h;simpa using h
  have sc:=sE c X Z k n cv cl C.toKx h'.1.1.1;have sa:=sSs a X Z k n cv cl C h'.1.2;have sb:=sSs b X Z k n cv cl C h'.2;refine PS.mono (zaq (sc.pt h'.1.1.2) sa sb) λ En σ H=>zX λ μ ρ h hr er q=>?_;refine zU hr er q λ t h1 μ1 H1 x _ e1 r1 er1 qa p1=>?_;have qa':t=x:=qa;subst qa';cases t with
  | true=>exact Z6 174
  | false=>exact Z5 174
 | .ex e p,X,Z,k,n,cv,cl,C,h=>by
  have h':e.ok X.env.scope n=true/\e.noC=true:=by have h:(_&&_)=true:=h;simpa using h
  have se:=sE e X Z k n cv cl C.toKx h'.1;refine PS.mono (z3i se.pe (yX e h'.2 _ _ _)) λ En σ H=>zX λ μ ρ h hr er q=>?_;refine zU hr er q λ d h1 μ1 H1 x _ e1 r1 er1 qa p1=>?_;exact p1 μ1 H1 _ Ext.refl r1 er1
 | .setF o f v p1 p,X,Z,k,n,cv,cl,C,h=>by
  have h':((o.ok X.env.scope n=true/\v.ok X.env.scope n=true)/\f∈jq)/\v.noC=true:=by have h:(_&&_)=true:=h;simpa using h
  have so:=sE o X Z k n cv cl C.toKx h'.1.1.1;have sv:=sE v X Z k n cv cl C.toKx h'.1.1.2;refine PS.mono (z7v so.pe sv.pe (UO v h'.2 _ _ _)) λ En σ H=>zX λ μ ρ h hr er q=>?_;refine zU hr er q λ z h1 μ1 H1 x _ e1 r1 er1 qz p1=>?_;refine zU r1 er1 p1 λ a h2 μ2 H2 y _ e2 r2 er2 qa p2=>?_;unfold y0 at p2;cases qa with
  | @loc nn b m =>
   cases e3:h2[nn]? with
   | none=>simp only [e3] at p2;exact p2.elim
   | some ob =>
    have q:=r2.obj nn b ob m e3;cases ob with
    | lst _=>simp only [e3] at p2;exact p2.elim
    | dK _=>simp only [e3] at p2;exact p2.elim
    | fK _=>simp only [e3] at p2;exact p2.elim
    | dT _=>simp only [e3] at p2;exact p2.elim
    | obj w fs =>
     simp only [e3] at p2;obtain ⟨Cc,dx,vs,q1,q2,q3⟩:=q;split at p2
     ·rename_i hlt e4;split at e4
      ·rename_i hl;cases e4;obtain ⟨hr',ex⟩:=r2.chg (u:=.ins Cc dx (wH f x vs)) (o':=.obj w (Yo f z fs)) e3 m λ H' ex e=>⟨Cc,dx,_,e,q2,(q3.mono ex).put ((qz.mono e2).mono ex)⟩;exact ⟨b,Cc,dx,vs,rfl,q1,q2.cl,q2.na f h'.1.2,by rw [<- q3.length];exact hl,p2 μ2 _ σ ex hr' (er2.mono ex)⟩
      ·cases e4
     ·exact p2.elim
  | _=>exact p2.elim
 | .put o i v p1 p,X,Z,k,n,cv,cl,C,h=>by
  have h':(o.ok X.env.scope n=true/\i.ok X.env.scope n=true)/\v.ok X.env.scope n=true:=by have h:(_&&_)=true:=h;simpa using h
  have so:=sE o X Z k n cv cl C.toKx h'.1.1;have si:=sE i X Z k n cv cl C.toKx h'.1.2;have sv:=sE v X Z k n cv cl C.toKx h'.2;refine PS.mono (Uc sv.pe (Bl so.pe si.pe (z0f (BA C.rm)) (ZX o i p1 _)) (ZY o i v p1 _ _) (ya o i v p1 _) rfl) λ En σ H=>zX λ μ ρ h hr er q=>?_;refine zU hr er q λ z h1 μ1 H1 x _ e1 r1 er1 qz p1=>?_;refine zU r1 er1 p1 λ a h2 μ2 H2 y _ e2 r2 er2 qa p2=>?_;refine zU r2 er2 p2 λ b h3 μ3 H3 w _ e3 r3 er3 qb p3=>?_;cases e:ZM a b z h3 with
  | none=>rw [e] at p3;exact p3.elim
  | some h4 =>
   rw [e] at p3;exact ⟨μ3,h3,a,b,z,h4,r3,qa.mono e3,qb,(qz.mono e2).mono e3,e,λ μ4 H4 e4 r4=>p3 μ4 H4 σ e4 r4 (er3.mono e4)⟩
 | .putT o es v p2 p1 p,X,Z,k,n,cv,cl,C,h=>by
  have h':(o.ok X.env.scope n=true/\es.ok X.env.scope n=true)/\v.ok X.env.scope n=true:=by have h:(_&&_)=true:=h;simpa using h
  have so:=sE o X Z k n cv cl C.toKx h'.1.1;have si:=sEs es X Z k n cv cl C.toKx h'.1.2;have sv:=sE v X Z k n cv cl C.toKx h'.2;refine PS.mono (Uc sv.pe (Bl so.pe (Bu si.pa) (z8n (BA C.rm)) (ZX o (.tup es p2) p1 _)) (ZY o (.tup es p2) v p1 _ _) (ya o (.tup es p2) v p1 _) rfl) λ En σ H=>zX λ μ ρ h hr er q=>?_;refine zU hr er q λ z h1 μ1 H1 x _ e1 r1 er1 qz p1=>?_;refine zU r1 er1 p1 λ a h2 μ2 H2 y _ e2 r2 er2 qa p2=>?_;refine zU r2 er2 p2 λ ds h3 μ3 H3 ws _ e3 r3 er3 qb p3=>?_;by_cases c:ds.length<1000
  ·rw [if_pos c] at p3;refine ⟨by rw [<- qb.length];exact Y21 (yq (Y21 c)),λ t ht=>?_⟩;cases e:putT a ds z h3 with
   | none=>rw [e] at p3;exact p3.elim
   | some h4 =>
    rw [e] at p3;obtain ⟨b,kvs,kk,eb,g,ev,hz,G⟩:=z0g r3 (qa.mono e3) qb ((qz.mono e2).mono e3) e;have nb:b≠t:=λ z=>by
     subst z;rcases g with g | ⟨g,_⟩<;>(rw [ht] at g;cases g)
    have g':DT (upd H3 t (.tup ws)) b kvs:=by
     rcases g with g | ⟨g,w⟩
     ·exact .inl (by rw [zr nb];exact g)
     ·exact .inr ⟨by rw [zr nb];exact g,w⟩
    obtain ⟨r4,e4⟩:=G _ (zt ht) (r3.tup ht) g';refine ⟨b,t,kvs,kk,eb,rfl,g',by rw [<- ev];exact zC,hz,?_⟩;exact p3 μ3 _ σ ((zt ht).trans e4) r4 (er3.mono ((zt ht).trans e4))
  ·rw [if_neg c] at p3;exact p3.elim
 | .forr t it b p,X,Z,k,n,cv,cl,C,h=>by
  have h':(t.okS n.N=true/\it.ok X.env.scope n=true/\t.forI it=true)/\b.ok X.env.scope n=true:=by have h:(_&&_)=true:=h;simpa using h
  have hi:=sI it _ Z k n cv cl C.wish.toKx h'.1.2.1 t h'.1.2.2 n.N;have hb:=sSs b _ Z k n cv cl C.wish h'.2;have hg:PG (X.wish (XE X Z)) (t.py n.N) (gB X.K t):=by
   have z:=zbm (X:=X.wish (XE X Z)) C.cm C.nd t λ i hi=>by
    have h1:=Y17.mp h'.1.1 i hi;have hl:i<n.N.length:=of_decide_eq_true h1;have hm:=C.lo _ (y9 (d:=("":Str)) hl);have eN:(X.wish (XE X Z)).N=n.N:=C.nN;rw [eN];exact ⟨hl,hm⟩
   rw [show (X.wish (XE X Z)).N=n.N from C.nN] at z;exact z
  exact PS.mono (z43 C.th C.cm hi hg hb (qI it)) λ En σ H=>zX λ μ ρ h hr er q=>z0l hr er q
 | .whil c b p,X,Z,k,n,cv,cl,C,h=>by
  have h':(c.ok X.env.scope n=true/\c.okT=true)/\b.ok X.env.scope n=true:=by have h:(_&&_)=true:=h;simpa using h
  have sc:=sE c _ Z k n cv cl C.wish.toKx h'.1.1;have hb:=sSs b _ Z k n cv cl C.wish h'.2;exact PS.mono (OE C.th (sc.pt h'.1.2) hb) λ En σ H=>zX λ μ ρ h hr er q=>UP hr er q
 | .setT is e p1 p,X,Z,k,n,cv,cl,C,h=>by
  have h':((Tg.tup is p1).okS n.N=true/\e.ok X.env.scope n=true)/\e.noT=true:=by have h:(_&&_)=true:=h;simpa using h
  have se:=sE e X Z k n cv cl C.toKx h'.1.2;have hg:PG X ((Tg.tup is p1).py n.N) 244:=by
   have z:=zbo C.cm C.nd is p1 λ i hi=>by
    have h1:=Y17.mp h'.1.1 i hi;have hl:i<n.N.length:=of_decide_eq_true h1;have hm:=C.lo _ (y9 (d:=("":Str)) hl);rw [C.nN];exact ⟨hl,hm⟩
   rw [C.nN] at z;exact z
  refine PS.mono (Uc se.pe hg (z55 _ e h'.2 _ _ _ _) (OD _ e h'.2 _ _ _) rfl) λ En σ H=>zX λ μ ρ h hr er q=>?_;refine zU hr er q λ d h1 μ1 H1 x _ e1 r1 er1 qa q1=>?_;cases eb:jm (.tup is p1) (Q2 d h1) ρ with
  | none=>rw [eb] at q1;exact q1.elim
  | some ρ' =>
   rw [eb] at q1;exact ⟨μ1,ρ,d,ρ',h1,r1,er1,qa,eb,λ σ' er'=>q1 μ1 H1 σ' Ext.refl r1 er'⟩
theorem sSs:∀ (s:Ss) (X:Cx) (Z:ZK) (k:Nat) (n:Nm) (cv:160) (cl:126),KxS X Z k n cv cl->s.ok X.env.scope n=true->PSs X (s.py n) (ZW X.K cv Z (s.run cl))
 | .nil,X,Z,k,n,cv,cl,C,_=>by
  refine PSs.mono z3h λ En σ H=>zX λ μ ρ h hr er q=>?_;exact q μ H σ Ext.refl hr er
 | .cons s r,X,Z,k,n,cv,cl,C,h=>by
  have h':s.ok X.env.scope n=true/\r.ok X.env.scope n=true:=by have h:(_&&_)=true:=h;simpa using h
  have ss:=sS s X Z k n cv cl C h'.1;have sr:=sSs r X Z k n cv cl C h'.2;refine PSs.mono (Bg ss sr) λ En σ H=>zX λ μ ρ h hr er q=>?_;have q:PostS X.K cv μ H (jP (s.run cl ρ h) λ ρ' h'=>r.run cl ρ' h') En Z:=q;refine ⟨μ,ρ,h,hr,er,?_⟩;cases e:s.run cl ρ h with
  | nx ρ' h1 =>
   rw [e] at q;exact λ μ1 H1 σ1 e1 r1 er1=>⟨μ1,ρ',h1,r1,er1,PostS.ext q e1⟩
  | bk ρ' h1=>rw [e] at q;exact q
  | ct ρ' h1=>rw [e] at q;exact q
  | rt d h1=>rw [e] at q;exact q
  | ex c ρ' h1=>rw [e] at q;exact q
  | no=>rw [e] at q;exact q
end
end
section
variable {X:Cx}{Z:ZK}{k:Nat}{n:Nm}{cv:160}{cl:126}
noncomputable def okD (b:Ss)(sc:Scope)(n:Nm)(ps:XQ):Bool:=b.ok sc n
end
structure DefOk (st:Stmt)(d:Df)(F:XQ)(G:List (Str×Cn))(nm q:Str):Prop where
 body:j3 st=d.body.py ⟨d.N,F,G⟩
 sc:FnScope d.N d.ps (zG st)
 ok:okD d.body (zG st) ⟨d.N,F,G⟩ d.ps=true
 nms:∀ x∈d.N,((zG st).names.lookup x=some .local\/(zG st).names.lookup x=some .cell)/\yW x=true
 bd:∀ (kV doc pm:Value) (an:Option Addr) (cdv ct:Value) (us:XV),us.length=d.ps.length ->
  bindArgs (PySem.W.fnOf nm q (jk st) (j3 st) (zG st) .none kV doc pm an cdv ct) ⟨us,[]⟩=pure (d.ps.zip us)
structure FunD (K:Y01)(x qual:Str)(st:Stmt)(f:Addr)(fd:FuncData)(ps:XQ)(b:Bool):Prop where
 ex:∃ (oc:Value) (od:Option Addr) (dV kV doc pm:Value) (an:Option Addr) (cdv ct:Value) (osl:211),
  fd=PySem.W.fnOf x qual (jk st) (j3 st) (zG st) dV kV doc pm an cdv ct/\K.lookup f=some ⟨oc,od,.func fd,osl⟩/\PySem.W.codeIn K cdv qual=true
 kp:PySem.W.keepIn K 269=true
 b0:Binds K fd ps []
 b1:b=true->Binds K fd ps [.none]
section
variable {P:204}{w:World}{K:Y01}{mg:XJ}{base:Heap}
theorem FunD.okX {x qual:Str}{st:Stmt}{f:Addr}{fd:FuncData}{N ps:XQ}{b:Bool}{k:Nat}{sp:Sp}(F:FunD K x qual st f fd ps b)(S:FnScope N ps (zG st))(len:∀ vs H Q E,sp vs H Q E->vs.length=ps.length)
  (hbody:∀ (cdv:Value) (A:296) (outer:List Env) (s:153) (H:Hp) (vs:193) (Q:VK) (E:XK),Room k (A.deeper (envOfC qual (zG st) s.heap.objs.size f cdv))->sp vs H Q E ->
   ∃ t,PSs (Uo (CXs P w) P w K mg base N qual (zG st) f cdv A outer s H E) (j3 st) t/\t { nx:=λ _ H'=>Q .non H',rt:=Q } (start N vs) H):FnOk P w K mg base (CXs P w) (k+1) f fd ps sp:=by
 obtain ⟨oc,od,dV,kV,doc,pm,an,cdv,ct,osl,rfl,lk,hcd⟩:=F.ex;exact zaz lk hcd S len λ A outer s H vs Q E hr hsp=>hbody cdv A outer s H vs Q E hr hsp
theorem _root_.L2.Fun.toD {st:Stmt}{f:Addr}{fd:FuncData}{d:Df}{F:XQ}{G:List (Str×Cn)}(e:Fun K x qual st f fd)(o:DefOk st d F G x qual):FunD K x qual st f fd d.ps false :=
 ⟨let ⟨oc,od,kV,doc,pm,an,cdv,ct,osl,h⟩:=e.ex;⟨oc,od,.none,kV,doc,pm,an,cdv,ct,osl,h⟩,e.kp,e.binds o.bd,λ z=>by cases z⟩
end
structure Tab (P:204)(w:World)(K:Y01)(mg:XJ)(ds:List Df)(G:List (Str×Cn)):Prop where
 bm:∀ x,x∈Q5->mg x=none
 gc:∀ x c,(x,c)∈G->159=false/\∃ v,mg x=some v/\z4q P w K v c
 fn:∀ (i:Nat) d,ds[i]?=some d->(G.any λ q=>decide (q.2=Cn.cls i))=false->(d.name==("__debug__":Str))=false/\∃ st f fd,mg d.name=some 269/\PySem.W.nsIn K mainGlobals d.name=some (some 269)/\FunD K d.name d.name st f fd d.ps (decide ((d.name,Cn.dfl)∈G))/\DefOk st d (ds.map (·.name)) G d.name d.name
 mc:∀ x i,(x,Cn.cls i)∈G->159=false/\∃ d st C f fd nm q,ds[i]?=some d/\mg x=some (.ref C)/\Mk K C f/\ClsN K x C/\Fun K nm q st f fd/\DefOk st d (ds.map (·.name)) G nm q
theorem z0m {K:Y01}{μ:XZ}{H:Hp}{as:181}{vs:193}(N:XQ)(r:Reps K μ H as vs):ER K μ (as.map some++List.replicate (N.length-as.length) none) (L2.start N vs) H:=by
 unfold L2.start;refine ⟨by simp [r.length],λ i d h=>?_⟩;rw [List.getElem?_append] at h ⊢;rw [Y07] at h ⊢;rw [<- r.length];split at h
 ·rename_i c;rw [if_pos c];rw [Y0r] at h ⊢;cases e:as[i]? with
  | none=>rw [e] at h;cases h
  | some a =>
   rw [e] at h;cases h;obtain ⟨v,e1,e2⟩:=r.get e;rw [e1];exact ⟨v,rfl,e2⟩
 ·exfalso
  rw [List.getElem?_replicate] at h;split at h<;>cases h
theorem Wl (hd:ds[i]?=some d):∀ as h,callI ds k i as h≠.no->as.length=d.ps.length:=by
 intro as h q;cases k with
 | zero=>exact absurd rfl q
 | succ k =>
  unfold callI at q;rw [hd] at q;by_cases c:as.length=d.ps.length
  ·exact c
  ·exact absurd (if_neg c) q
section
variable {P:204}{w:World}{K:Y01}{mg:XJ}{base:Heap}{ds:List Df}{G:List (Str×Cn)}{cv:160}
noncomputable def z6l (K:Y01)(mg:XJ)(cv:160)(G:List (Str×Cn)):Prop:=∀ x c u,(x,Cn.exc c u)∈G->mg x=some (cv c)/\(∀ D∈u,∃ a d,cv c=.ref a/\cv D=.ref d/\z6f K a d)/\∃ a,cv c=.ref a/\TstK K G cv a u
noncomputable def zbq:Cn->Bool
 | .exc _ _=>true
 | _=>false
theorem z8t (h:(G.all λ q=>!zbq q.2)=true):z6l K mg cv G:=λ x c u hm=>by
 have:=Y17.mp h _ hm
 cases this
theorem UQ (T:Tab P w K mg ds G)(XC:z6l K mg cv G):∀ (k i:Nat) (d:Df) (nm qn:Str) (st:Stmt) (f:Addr) (fd:FuncData) (b:Bool),ds[i]?=some d->FunD K nm qn st f fd d.ps b->DefOk st d (ds.map (·.name)) G nm qn ->
  FnOk P w K mg base (CXs P w) (2*k) f fd d.ps (spI K cv d.ps.length (callI ds k i))
 | 0,i,d,nm,qn,st,f,fd,b,hd,F,o=>by
  have no:∀ vs H Q E,¬ spI K cv d.ps.length (callI ds 0 i) vs H Q E:=λ vs H Q E ⟨_,_,_,_,_,_,z⟩=>z;exact ⟨λ vs H Q E h=>absurd h (no vs H Q E),λ A outer s H args us vs Q E _ _ _ _ h=>absurd h (no vs H Q E)⟩
 | k+1,i,d,nm,qn,st,f,fd,b,hd,F,o=>by
  have KC:∀ (cdv:Value) (A:296) (outer:List Env) (s:153) (H:Hp) (E:XK),Room (2*k+1) (A.deeper (envOfC qn (zG st) s.heap.objs.size f cdv))->KxS (Uo (CXs P w) P w K mg base d.N qn (zG st) f cdv A outer s H E) (λ _ C H'=>E C none H') k ⟨d.N,ds.map (·.name),G⟩ cv (callI ds k):=λ cdv A outer s H E hr=>by
   refine ⟨⟨z3y,hr,rfl,o.sc.nd,rfl,o.sc.kind,λ x hx=>⟨(o.nms x hx).1.elim .inl λ z=>.inr (.inl z),(o.nms x hx).2⟩,T.bm,T.gc,λ j x hj hnc=>?_,λ x j hx=>?_,λ x c u hm=>XC x c u hm⟩,λ x hx=>⟨(o.nms x hx).1,.inl rfl⟩⟩;rotate_left
   ·obtain ⟨h1,d',st',C',f',fd',nm',q',e',m',M',N',F',o'⟩:=T.mc x j hx;exact ⟨h1,C',f',fd',d'.ps,m',M',N',F'.binds o'.bd,Wl e',UQ T XC k j d' nm' q' st' f' fd' _ e' (F'.toD o') o'⟩
   have hj':(ds.map (·.name))[j]?=some x:=hj;rw [Y0r] at hj';cases e:ds[j]? with
   | none=>rw [e] at hj';cases hj'
   | some d' =>
    rw [e] at hj';cases hj';obtain ⟨h1,st',f',fd',m',s',F',o'⟩:=T.fn j d' e hnc;exact ⟨h1,f',fd',d'.ps,m',s',F'.kp,⟨F'.b0,λ z=>F'.b1 (decide_eq_true z)⟩,Wl e,UQ T XC k j d' _ _ st' f' fd' _ e F' o'⟩
  have fin:∀ {H:Hp}{vs:193}{Q:VK}{E:XK},spI K cv d.ps.length (callI ds (k+1) i) vs H Q E->ZW K cv (λ _ C H'=>E C none H') (d.body.run (callI ds k)) { nx:=λ _ H'=>Q .non H',rt:=Q } (L2.start d.N vs) H:=λ {H vs Q E} h=>by
   obtain ⟨hl,μ,h,as,hH,hv,p⟩:=h;refine ⟨μ,_,h,hH,z0m d.N hv,?_⟩;have c:as.length=d.ps.length:=by rw [hv.length];exact hl
   rw [z9 hd c] at p;have p1:=p;unfold Df.run w9 at p1;cases e:d.body.run (callI ds k) (as.map some++List.replicate (d.N.length-as.length) none) h with
   | nx ρ h1=>rw [e] at p1;exact λ μ1 H1 σ1 e1 r1 er1=>p1 μ1 H1 .non e1 r1 .non
   | rt v h1=>rw [e] at p1;exact p1
   | ex c ρ h1=>rw [e] at p1;exact p1
   | bk ρ h1=>rw [e] at p1;exact p1.elim
   | ct ρ h1=>rw [e] at p1;exact p1.elim
   | no=>rw [e] at p1;exact p1.elim
  exact F.okX o.sc (λ vs H Q E h=>h.1) λ cdv A outer s H vs Q E hr h=>⟨_,by rw [o.body];exact sSs d.body _ _ _ _ _ _ (KC cdv A outer s H E hr) o.ok,fin h⟩
end
noncomputable def Qa (w:World)(K:Y01):List DictEntry->List (Str×Cv)->Prop
 | [],[]=>True
 | e::r,kx::s=>(e.hash=hashStr w kx.1/\(∃ t,e.key=.str kx.1 t)/\CvOk K e.val kx.2)/\Qa w K r s
 | _,_=>False
theorem ZZ {P:204}{w:World}{K:Y01}:∀ {es:List DictEntry}{kvs:List (Str×Cv)},Qa w K es kvs->∃ vs,Pairs (zB P w) es vs/\DicV K kvs vs/\vs.map (·.1)=kvs.map (λ kx=>(Key.inr kx.1))/\∀ e∈es,∃ k,(zB P w).is k e.key=true/\e.hash=(zB P w).hash k
 | [],[],_=>⟨[],.nil,trivial,rfl,λ e h=>absurd h 130⟩
 | [],_::_,h=>h.elim
 | _::_,[],h=>h.elim
 | e::r,(k,xs)::s,⟨⟨h1,⟨t,h2⟩,h4⟩,h5⟩=>by
  obtain ⟨vs,p,d,n,ks⟩:=ZZ (P:=P) h5;have ik:(zB P w).is (.inr k) e.key=true:=yU (k:=.inr k) ⟨t,h2⟩;refine ⟨(.inr k,e.val)::vs,.cons ik rfl p,⟨rfl,h4,d⟩,by simp [n],λ e' he=>?_⟩;rcases Y08.mp he with rfl | he
  ·exact ⟨_,ik,h1⟩
  ·exact ks e' he
theorem z8u {P:204}{w:World}{K:Y01}{a:Addr}{es:Array DictEntry}{ep:Nat}{kvs:List (Str×Cv)} (l:K.lookup a=some { cls:=.type "dict",data:=.dict es ep }) (h:Qa w K es.toList kvs) (nd:(kvs.map (·.1)).Nodup) :
  z4q P w K 202 (.dic kvs):=by
 obtain ⟨vs,p,d,n,ks⟩:=ZZ (P:=P) h;refine ⟨a,_,es,ep,vs,rfl,l,⟨rfl,rfl,rfl⟩,rfl,λ e he=>ks e (by simpa using he),p,?_,d⟩;rw [n];have e:kvs.map (λ kx=>(Key.inr kx.1))=(kvs.map (·.1)).map λ k=>(Key.inr k):=by simp
 rw [e];exact List.Pairwise.map _ (λ x y hxy z=>hxy (Key.inr.inj z)) nd
theorem Wm:∀ {ns:179},PySem.W.WData.weightAll (ns.map PySem.W.WData.int)<=2 ^ 20->∀ n∈ns,Builtin.Int.intBits n<=2 ^ 20
 | [],_,n,hn=>absurd hn 130
 | m::r,h,n,hn=>by
  rw [Y0a,PySem.W.WData.weightAll] at h;rcases Y08.mp hn with rfl | hn
  ·have e:PySem.W.WData.weight (.int n)=Builtin.Int.intBits n:=by rw [PySem.W.WData.weight];rfl
   omega
  ·exact Wm 128 n hn
noncomputable def z0n (K:Y01)(cv:160)(c:List D->Hh->Res D):Sp:=spI K cv 1 c
theorem z8v {K:Y01}{cv:160}{c:List D->Hh->Res D}{H:Hp}{a:Addr}{ns:179}{h':Hh}(hO:z86 H)(hS:SqL K H a (ns.map V.int))(e:c [.fl (ns.map D.int)] []=.ok 214 h') :
  z0n K cv c [.ref a] H (λ v _=>v=.bl true) (λ _ _ _=>False):=by
 have rp:∀ ms:List Int,Reps K [] H (ms.map D.int) (ms.map V.int):=λ ms=>by
  induction ms with
  | nil=>exact .nil
  | cons m r ih=>exact .cons (.int m) ih
 have fz:Fz K H a (ns.map V.int):=by
  rcases hS with h | h
  ·left;rcases h with h | h
   ·rcases hO a with z | ⟨o,xs,z⟩
    ·rw [h] at z;cases z
    ·rw [h] at z;cases z
   ·exact h
  ·exact .inr λ H'=>.inr h
 refine ⟨rfl,[],[],[.fl (ns.map D.int)],⟨rfl,λ n m b e1=>by simp at e1,λ n b o e1=>by simp at e1⟩,.cons (.fl fz (rp ns)) .nil,?_⟩
 ·rw [e];intro μ1 H1 v e1 r1 q1;cases q1;rfl
theorem walk_ofB {l:PySem.W.OpenLaw}{k:Nat}{q:204}{loose:XQ}{XP:(Str->Option Value)->Heap->Prop}{YP:World->Heap->Prop}{d:DefRec}{K:Params->Y01}{c:List D->Hh->Res D}{x:Str}
  (hn:l.most=some 63) (hdf:d.params.defaults=[]) (hr:Room k callerA)
  (hY:∀ (w:World) (h:Heap),YP w h->(K w.params).In h)
  (F:∀ (w:World) (mg:XJ) (fa:Addr) (h:Heap),(K w.params).In h->h.Ns mainGlobals mg->mg d.name=some (.ref fa) ->
   ∃ (cv:160) (fd:FuncData),(∀ (s:153) (u:Value),BindsTo s fd ⟨[u],[]⟩ [(x,u)]) /\
    ∀ base:Heap,(K w.params).In base->base.Ns mainGlobals mg->FnOk l.prog w (K w.params) mg base (CXs l.prog w) k fa fd [x] (z0n (K w.params) cv c))
  (hc:∀ ns:List Int,ns.length<=63->(∀ n∈ns,Builtin.Int.intBits n<=2 ^ 20)->∃ h',c [.fl (ns.map D.int)] []=.ok 214 h') :
  PySem.W.WalkO q loose XP YP l.row.toRowW d [] (λ f vs=>PySem.call f vs):=by
 intro w s₀ s₁ mg mb G Y fa o pm cd doc dV kV ho hd hcd hD hmg hg args vals as hpre hlay hrd hwl hlo;obtain rfl:dV=.none:=PySem.W.Dflts.none hD hdf;obtain rfl:kV=.none:=PySem.W.Dflts.noKw hD;obtain ⟨a,vs,ns,rfl,rfl,hobj,hints,hlen⟩:=Att.script_of hn hpre hwl;have hbits:∀ n∈ns,Builtin.Int.intBits n<=2 ^ 20:=by
  have h1:PySem.W.WData.layable (.list (ns.map .int))=true:=by
   have:=hlay
   unfold PySem.W.WData.layableAll at this;simpa using this
  have h2:=(PySem.W.layableW_iff.mp h1).2.2;exact Wm (by simpa [PySem.W.WData.weight] using h2)
 have KX:=hY w _ Y;obtain ⟨cv,fd,hb,hF⟩:=F w mg fa _ KX G.T.g hmg;obtain ⟨h',e⟩:=hc ns hlen hbits;refine PySem.W.enter_call (codeAny_mono (Bz KX G.T.g G.T.b G.T.builtins G.T.nolimit hg hobj hints (Y0y hlen 127) hr hF hb (λ H hO hS=>z8v hO hS e) (λ H e' s' z=>False.elim z)) λ r s' hq=>?_);obtain ⟨rfl,h2,h3,h4⟩:=hq;exact ⟨.inl ⟨.bool true,.bool true,[],rfl,λ _=>rfl,.bool true,Att.post_true l _,λ _=>⟨List.Pairwise.nil,λ _ hm=>(nomatch hm)⟩⟩,h2,h3,h4⟩
end PI
namespace PI
open PySem L2
section
variable {cl:126}
theorem z56 {i z0 z1 h}:E.ev cl (.int i z0) z1 h=.ok 209 h:=rfl
theorem qJ {i z0 ρ h}:E.ev cl (.var i z0) ρ h=match ρ[i]? with | some (some d)=>.ok d h | _=>.no:=rfl
theorem z57 {op a b z0 ρ h}:E.ev cl (.bin op a b z0) ρ h=(a.ev cl ρ h).bind λ x h1=>(b.ev cl ρ h1).bind λ y h2=>jE op x y h2:=rfl
theorem zbr {op a b z0 ρ h}:E.ev cl (.cmp op a b z0) ρ h=(a.ev cl ρ h).bind λ x h1=>(b.ev cl ρ h1).bind λ y h2=>jv op x y h2:=rfl
theorem zbs {f a r z0 z1 ρ h}:E.ev cl (.call f a r z0 z1) ρ h=(a.ev cl ρ h).bind λ x h1=>(r.ev cl ρ h1).bind λ xs h2=>cl f (x::xs) h2:=rfl
theorem ze0 {a i z0 ρ h}:E.ev cl (.sub a i z0) ρ h=(a.ev cl ρ h).bind λ x h1=>(i.ev cl ρ h1).bind λ y h2=>jc x y h2:=rfl
theorem zbt {l ρ h}:E.ev cl (.ofL l) ρ h=(l.ev cl ρ h).bind λ xs h1=>new 195 h1:=rfl
theorem vm0 {m o z0 z1 ρ h}:E.ev cl (.m0 m o z0 z1) ρ h=(o.ev cl ρ h).bind λ x h1=>m0D m x h1:=rfl
theorem vm1 {m o a z0 z1 ρ h}:E.ev cl (.m1 m o a z0 z1) ρ h=(o.ev cl ρ h).bind λ x h1=>onL x h1 ((a.ev cl ρ h1).bind λ y h2=>m1D m x y h2):=rfl
theorem VW {neg a z0 z1 ρ h}:E.ev cl (.cmpN neg a z0 z1) ρ h=(a.ev cl ρ h).bind λ x h1=>Z9 neg x h1:=rfl
theorem z6m {es z0 ρ h}:L.ev cl (.disp es z0) ρ h=(es.ev cl ρ h).bind λ xs h1=>if xs.length<=1000 then .ok xs h1 else .no:=rfl
theorem ze1 {e ρ h}:I.ev cl (.seq e) ρ h=(e.ev cl ρ h).bind λ x h1=>match x with
  | .tup xs=>.ok ([],xs) h1
  | .fl xs=>.ok ([],xs) h1
  | .loc n=>match rd h1 n with | some xs=>.ok ([(n,xs)],xs) h1 | none=>.no
  | _=>.no:=rfl
theorem z6n {e ρ h}:I.ev cl (.keys e) ρ h=(e.ev cl ρ h).bind λ x h1=>ZP x h1:=rfl
theorem z8w {z0 h}:Es.ev cl .nil z0 h=.ok [] h:=rfl
theorem z6o {e r ρ h}:Es.ev cl (.cons e r) ρ h=(e.ev cl ρ h).bind λ x h1=>(r.ev cl ρ h1).bind λ xs h2=>.ok (x::xs) h2:=rfl
theorem OF {i e z0 z1 ρ h}:S.run cl (.set i e z0 z1) ρ h=j5 ρ (e.ev cl ρ h) λ d h1=>.nx (ρ.set i (some d)) h1:=rfl
theorem ze2 {e z0 ρ h}:S.run cl (.ret e z0) ρ h=j5 ρ (e.ev cl ρ h) λ d h1=>.rt d h1:=rfl
theorem zbu {c a b z0 ρ h}:S.run cl (.iff c a b z0) ρ h=j5 ρ (c.evT cl ρ h) λ t h1=>if t then a.run cl ρ h1 else b.run cl ρ h1:=rfl
theorem yex {e z0 ρ h}:S.run cl (.ex e z0) ρ h=j5 ρ (e.ev cl ρ h) λ _ h1=>.nx ρ h1:=rfl
theorem zbv {o i v z0 z1 ρ h}:S.run cl (.put o i v z0 z1) ρ h=j5 ρ (v.ev cl ρ h) λ z h1=>j5 ρ (o.ev cl ρ h1) λ x h2=>j5 ρ (i.ev cl ρ h2) λ y h3=>match ZM x y z h3 with | some h4=>.nx ρ h4 | none=>.no:=rfl
theorem zbw {o es v z0 z1 z2 ρ h}:S.run cl (.putT o es v z0 z1 z2) ρ h=j5 ρ (v.ev cl ρ h) λ z h1=>j5 ρ (o.ev cl ρ h1) λ x h2=>j5 ρ (es.ev cl ρ h2) λ ds h3=>if ds.length<1000 then (match putT x ds z h3 with | some h4=>.nx ρ h4 | none=>.no) else .no:=rfl
theorem z6p {c b z0 ρ h}:S.run cl (.whil c b z0) ρ h=whR 259 (λ ρ' h'=>b.run cl ρ' h') ρ h:=rfl
theorem z0o {o f v z0 z1 ρ h}:S.run cl (.setF o f v z0 z1) ρ h=j5 ρ (v.ev cl ρ h) λ z h1=>j5 ρ (o.ev cl ρ h1) λ x h2=>match y0 x f z h2 with | some h3=>.nx ρ h3 | none=>.no:=rfl
theorem JE {ρ h}:Ss.run cl .nil ρ h=.nx ρ h:=rfl
theorem jX {s r ρ h}:Ss.run cl (.cons s r) ρ h=jP (s.run cl ρ h) λ ρ' h'=>r.run cl ρ' h':=rfl
end
section
variable {h l:Hh}{o u:O}{n k:Nat}{xs:181}
theorem hx (h l:Hh)(k:Nat):(h++l)[h.length+k]?=l[k]?:=by
 rw [Y0q 128];congr 1;omega
theorem hx0 (h l:Hh):(h++l)[h.length]?=l[0]?:=hx h l 0
theorem zbx (h l:Hh)(k:Nat)(o:O):(h++l).set (h.length+k) o=h++l.set k o:=by
 rw [Y3n _ _ 128];congr 2;omega
theorem z0p (h l:Hh)(o:O):(h++l).set h.length o=h++l.set 0 o:=zbx h l 0 o
theorem rdx (h l:Hh)(k:Nat):rd (h++l) (h.length+k)=rd l k:=by unfold rd;rw [hx]
theorem ze3 (h l:Hh):rd (h++l) h.length=rd l 0:=rdx h l 0
theorem Vy (e:h[n]?=some 195):rd h n=some xs:=by unfold rd;rw [e]
theorem Qc (e:h[n]?=some o):(h++l)[n]?=some o:=by rw [Y10 (Y00.mp e).1];exact e
theorem ze:stay [] h:=by unfold stay;simp
theorem stay_one {n:Nat}{ds:181}{h:Hh}:stay [(n,ds)] h ↔ rd h n=some ds:=by unfold stay;simp
end
theorem Yw (n d:Nat)(i:Int)(h:0<=i):HT.sIx n d (some i)=min i.toNat n:=by
 unfold HT.sIx;exact if_neg 128
theorem Zr (n d:Nat):HT.sIx n d none=d:=rfl
theorem Vt {α:Type}{xs:List α}{k:Nat}:atI xs (k:Int)=xs[k]?:=by
 unfold atI ixN;rw [if_pos 128];by_cases h:k<xs.length
 ·rw [if_pos 128];simp
 ·rw [if_neg 128,Y1o 128];rfl
theorem wj {α:Type}{xs:List α}{i:Int}(h:0<=i):atI xs i=xs[i.toNat]?:=by
 have:i=(i.toNat:Int):=by omega
 rw [this,Vt];rfl
theorem eqS {a b:Str}{h:Hh}(ha:PyData.strOk a=true)(hb:PyData.strOk b=true):jv .Eq (.str a) (.str b) h=.ok (.bl (a==b)) h:=if_pos ⟨ha,hb,Y19 _⟩
theorem neS {a b:Str}{h:Hh}(ha:PyData.strOk a=true)(hb:PyData.strOk b=true):jv .NotEq (.str a) (.str b) h=.ok (.bl (!(a==b))) h:=if_pos ⟨ha,hb,Y19 _⟩
theorem eqI {a b:Int}{h:Hh}:jv .Eq (.int a) (.int b) h=.ok (.bl (a==b)) h:=rfl
theorem jB {i:Int}(h:i.natAbs<1048576):fits i=true:=by
 unfold fits Builtin.Int.intBits;refine decide_eq_true ?_
 split
 ·decide
 ·rename_i z;have hz:i.natAbs≠0:=by simpa using z
  have:i.natAbs.log2<20:=by
   rw [Nat.log2_lt hz];exact h
  omega
noncomputable def wD:Nat->Ss->Ss
 | 0,_=>.nil
 | _+1,.nil=>.nil
 | n+1,.cons s r=>.cons s (wD n r)
noncomputable def jC:Nat->Ss->Ss
 | 0,b=>b
 | _+1,.nil=>.nil
 | n+1,.cons _ r=>jC n r
theorem J0 (cl:126):∀ (n:Nat) (b:Ss) (ρ:En) (h:Hh),Ss.run cl b ρ h=jP (Ss.run cl (wD n b) ρ h) λ ρ' h'=>Ss.run cl (jC n b) ρ' h'
 | 0,b,ρ,h=>by simp [wD,jC,JE,jX]
 | n+1,.nil,ρ,h=>by simp [wD,jC,JE,jX]
 | n+1,.cons s r,ρ,h=>by
  simp only [wD,jC,JE,jX];cases S.run cl s ρ h with
  | nx ρ' h'=>simp only [seqS_nx];exact J0 cl n r ρ' h'
  | _=>rfl
noncomputable def jt (ns:179)(i:Int):Int:=ns.getD i.toNat 0
theorem z8x (ns:179)(i:Int)(hi:0<=i)(h:i<(ns.length:Int)):atI (ns.map D.int) i=some (.int (jt ns i)):=by
 rw [wj hi,jt,Y0r,Y0h,Y06 128];rfl
theorem z0q (ns:179)(i:Int)(h:¬ i<(ns.length:Int)):jt ns i=0:=by
 unfold jt;rw [Y0h,Y1o 128];rfl
abbrev scr (ns:179):D:=.fl (ns.map .int)
theorem VX:∀ (bs:List Bool),wQ (bs.map D.bl)=some bs
 | []=>rfl
 | b::r=>by simp [wQ,VX r]
noncomputable def cs (x:Str):List Nat:=x.cps.toList
noncomputable def mkS (l:List Nat):Str:=⟨l.toArray⟩
theorem zby (x:Str):mkS (cs x)=x:=by cases x;simp [cs,mkS]
theorem qk (x y:Str):cs (x++y)=cs x++cs y:=by
 show (x.cps++y.cps).toList=_;simp [cs]
theorem Qd (x:Str):x.length=(cs x).length:=by simp [cs,Str.length]
theorem zbz {l:List Nat}(h:∀ c∈l,c<1114112):PyData.strOk (mkS l)=true:=by
 unfold PyData.strOk mkS;simpa using h
theorem zc0 {x:Str}(h:∀ c∈cs x,c<1114112):PyData.strOk x=true:=by rw [<- zby x];exact zbz h
theorem Yx:∀ xs:List Str,qG (xs.map D.str)=some xs
 | []=>rfl
 | x::r=>by simp [qG,Yx r]
structure Wd (x:Str):Prop where
 ne:cs x≠[]
 len:(cs x).length<=20
 ch:∀ c∈cs x,c≠40/\c≠41/\c≠10/\c<1114112
section
variable {cl:126}{ρ ρ':En}{h h' h2 h3:Hh}{c e:E}{a b r:Ss}{p p0 p1 p2 p3:Pos}{d x:D}{i:Nat}
theorem zv {o:RS}(hc:c.evT cl ρ h=.ok false h')(k:Ss.run cl r ρ h'=o):Ss.run cl (.cons (.iff c a .nil p) r) ρ h=o:=by
 rw [<- k];show jP (j5 ρ (c.evT cl ρ h) λ t h1=>if t then a.run cl ρ h1 else Ss.nil.run cl ρ h1) 198=_;rw [hc];rfl
theorem z6q (hc:c.evT cl ρ h=.ok true h'):Ss.run cl (.cons (.iff c a b p) r) ρ h=jP (a.run cl ρ h') λ ρ' h'=>r.run cl ρ' h':=by
 show jP (j5 ρ (c.evT cl ρ h) λ t h1=>if t then a.run cl ρ h1 else b.run cl ρ h1) 198=_;rw [hc];rfl
theorem jd (hc:c.evT cl ρ h=.ok true h')(ha:a.run cl ρ h'=.rt d h2):Ss.run cl (.cons (.iff c a b p) r) ρ h=.rt d h2:=by rw [z6q hc,ha];rfl
theorem wm {o:RS}(hc:c.evT cl ρ h=.ok true h')(ha:a.run cl ρ h'=.nx ρ' h2)(k:Ss.run cl r ρ' h2=o):Ss.run cl (.cons (.iff c a b p) r) ρ h=o:=by rw [<- k,z6q hc,ha];rfl
theorem zo (he:e.ev cl ρ h=.ok d h'):Ss.run cl (.cons (.ret e p) r) ρ h=.rt d h':=by
 show jP (j5 ρ (e.ev cl ρ h) λ d h1=>.rt d h1) 198=_;rw [he];rfl
theorem zf {o:RS}(he:e.ev cl ρ h=.ok d h')(k:Ss.run cl r (ρ.set i (some d)) h'=o):Ss.run cl (.cons (.set i e p1 p) r) ρ h=o:=by
 rw [<- k];show jP (j5 ρ (e.ev cl ρ h) λ d h1=>.nx (ρ.set i (some d)) h1) 198=_;rw [he];rfl
theorem J2 {o:RS}(he:e.ev cl ρ h=.ok d h')(k:Ss.run cl r ρ h'=o):Ss.run cl (.cons (.ex e p) r) ρ h=o:=by
 rw [<- k];show jP (j5 ρ (e.ev cl ρ h) λ d h1=>.nx ρ h1) 198=_;rw [he];rfl
theorem z8y {o:RS}{is:List (Nat×Pos)}(he:e.ev cl ρ h=.ok d h')(hb:jm (.tup is p1) (Q2 d h') ρ=some ρ')(k:Ss.run cl r ρ' h'=o):Ss.run cl (.cons (.setT is e p1 p) r) ρ h=o:=by
 rw [<- k];show jP (j5 ρ (e.ev cl ρ h) λ d h1=>match jm (.tup is p1) (Q2 d h1) ρ with | some ρ'=>.nx ρ' h1 | none=>.no) 198=_
 rw [he,andS_ok,hb];rfl
theorem zg {o:RS}(q:o=.rt d h):w9 o=.ok d h:=by rw [q];rfl
theorem z8z {o:RS}(q:o=.nx ρ h):w9 o=.ok .non h:=by rw [q];rfl
theorem bnd {α β:Type}{m:Res α}{f:α->Hh->Res β}{x:α}{y:Res β}(q:m=.ok x h)(g:f x h=y):m.bind f=y:=by rw [q];exact g
theorem jD {b:Bool}(q:e.evT cl ρ h=.ok b h'):e.ev cl ρ h=.ok (.bl b) h':=by
 have q:((e.ev cl ρ h).bind λ d h1=>match d with | .bl b=>.ok b h1 | _=>.no)=Res.ok b h':=q
 cases m:e.ev cl ρ h with
 | ok d h1 =>
  rw [m] at q;cases d with
  | bl b'=>cases q;rfl
  | _=>cases q
 | exc c h1=>rw [m] at q;cases q
 | no=>rw [m] at q;cases q
theorem jY {e':E}{r:Es}(ha:e.evT cl ρ h=.ok false h'):(E.and e e' r p).evT cl ρ h=.ok false h':=bnd (bnd (jD ha) rfl) rfl
theorem ji {e':E}{t:Bool}(ha:e.evT cl ρ h=.ok true h')(hb:e'.evT cl ρ h'=.ok t h2):(E.and e e' .nil p).evT cl ρ h=.ok t h2:=bnd (bnd (jD ha) (bnd (jD hb) rfl)) rfl
theorem zm {a' b':E}{x y:D}{op:CmpOp}{t:Bool}(ha:a'.ev cl ρ h=.ok x h')(hb:b'.ev cl ρ h'=.ok y h2)(hc:jv op x y h2=.ok (.bl t) h3):E.evT cl (.cmp op a' b' p) ρ h=.ok t h3:=bnd (bnd ha (bnd hb hc)) rfl
theorem z90 {e':E}{t:Bool}(ha:e.evT cl ρ h=.ok true h')(hb:e'.evT cl ρ h'=.ok true h2)(hc:c.evT cl ρ h2=.ok t h3):(E.and e e' (.cons c .nil) p).evT cl ρ h=.ok t h3:=bnd (bnd (jD ha) (bnd (jD hb) (bnd (jD hc) rfl))) rfl
theorem zT {o:RS}{tg:Tg}{it:I}{q:Ck×List D}(hi:it.ev cl ρ h=.ok q h')(hf:zu q.1 (zH tg λ ρ' h'=>a.run cl ρ' h') q.2 ρ h'=.nx ρ' h2)(k:Ss.run cl r ρ' h2=o):Ss.run cl (.cons (.forr tg it a p) r) ρ h=o:=by
 rw [<- k];show jP (j5 ρ (it.ev cl ρ h) λ q h1=>zu q.1 (zH tg λ ρ' h'=>a.run cl ρ' h') q.2 ρ h1) 198=_;rw [hi,andS_ok,hf];rfl
theorem z91 {tg:Tg}{it:I}{q:Ck×List D}(hi:it.ev cl ρ h=.ok q h')(hf:zu q.1 (zH tg λ ρ' h'=>a.run cl ρ' h') q.2 ρ h'=.rt d h2):Ss.run cl (.cons (.forr tg it a p) r) ρ h=.rt d h2:=by
 show jP (j5 ρ (it.ev cl ρ h) λ q h1=>zu q.1 (zH tg λ ρ' h'=>a.run cl ρ' h') q.2 ρ h1) 198=_;rw [hi,andS_ok,hf];rfl
theorem Wn {o:RS}{oe ie ve:E}{x y z:D}{h4:Hh}(hv:ve.ev cl ρ h=.ok z h')(ho:oe.ev cl ρ h'=.ok x h2)(hi:ie.ev cl ρ h2=.ok y h3)(hp:ZM x y z h3=some h4)(k:Ss.run cl r ρ h4=o):Ss.run cl (.cons (.put oe ie ve p1 p) r) ρ h=o:=by
 rw [<- k];show jP (j5 ρ (ve.ev cl ρ h) λ z h1=>j5 ρ (oe.ev cl ρ h1) λ x h2=>j5 ρ (ie.ev cl ρ h2) λ y h3=>match ZM x y z h3 with | some h4=>.nx ρ h4 | none=>.no) 198=_
 rw [hv,andS_ok,ho,andS_ok,hi,andS_ok,hp];rfl
theorem ju {o:RS}{ck:Ck}{f:D->En->Hh->RS}{l:181}(hs:stay ck h)(hf:f x ρ h=.nx ρ' h')(k:zu ck f l ρ' h'=o):zu ck f (x::l) ρ h=o:=by
 rw [zu,if_pos hs,hf];exact k
theorem z0r {n:Nat}{l:181}(g:h[n]?=some (.lst l))(m:Res D):onL 151 h m=m:=by
 show (match h[n]? with | some (.lst _)=>m | _=>.no)=m
 rw [g]
theorem fdk {i k:Int}(hk:0<k/\k<1073741824:=by decide):jE .FloorDiv 209 (.int k) h=.ok (.int (i/k)) h:=if_pos ⟨hk.1,by omega⟩
theorem mdk {i k:Int}(hk:0<k:=by decide):jE .Mod 209 (.int k) h=.ok (.int (i%k)) h:=if_pos hk
theorem yY {j:Int}(ha:e.ev cl ρ h=.ok (.int j) h')(hj:-1000000<=j/\j<=1000000):I.ev cl (.rng e p1 p2) ρ h=.ok ([],(List.range j.toNat).map λ k=>.int (k:Nat)) h':=bnd ha (if_pos hj)
theorem OG {e':E}{t:Bool}(ha:e.evT cl ρ h=.ok false h')(hb:e'.evT cl ρ h'=.ok t h2):(E.or e e' .nil p).evT cl ρ h=.ok t h2:=bnd (bnd (jD ha) (bnd (jD hb) rfl)) rfl
theorem UR {xs:181}(he:e.ev cl ρ h=.ok x h')(hs:qx x h'=some xs):E.ev cl (.tupE e p p1) ρ h=.ok 241 h':=bnd he (by
 show (match qx x h' with | some xs=>Res.ok (D.tup xs) h' | none=>.no)=_
 rw [hs])
theorem ja {tg:Tg}{ct:En->Hh->Res Bool}{ce:En->Hh->Res D}(hb:jm tg x ρ=some ρ')(hc:ct ρ' h=.ok true h')(he:ce ρ' h'=.ok d h2):j1 tg ρ ct ce x h=.ok (some d) h2:=by
 show 279=_
 rw [hb];exact bnd hc (bnd he rfl)
theorem z58 {n:Nat}{xs:181}(he:e.ev cl ρ h=.ok 151 h')(hr:rd h' n=some xs):I.ev cl (.seq e) ρ h=.ok ([(n,xs)],xs) h':=bnd he (by
 show (match rd h' n with | some xs=>Res.ok (([(n,xs)],xs):Ck×List D) h' | none=>.no)=_
 rw [hr])
theorem zO {elt:E}{tg:Tg}{it:I}{ct:Es}{ns:XQ}{cap:249}{sc:Scope}{q:Ck×List D}{xs:181}(hi:it.ev cl ρ h=.ok q h')(hl:q.2.length<=1000000)(hc:192):E.ev cl (.ofL (.comp elt tg it ct ns cap sc p)) ρ h=.ok (.loc h2.length) (h2++[.lst xs]):=bnd (bnd hi ((if_pos hl).trans hc)) rfl
theorem wv {i:Int}(he:e.ev cl ρ h=.ok 209 h'):Eo.ev cl (.some e) ρ h=.ok (some i) h':=bnd he rfl
theorem mlm {i j:Int}(hi:Yl i=true)(hj:Yl j=true):jE .Mult 209 (.int j) h=.ok (.int (i*j)) h:=if_pos ⟨hi,hj⟩
theorem mlk {i j:Int}(hi:fits i=true)(hj:fits j=true):jE .Mult 209 (.int j) h=.ok (.int (i*j)) h:=mlm (Q0 hi) (Q0 hj)
end
inductive Kd where
 | num (n:Int) | var (x:Str) | op (s:Str) | lett (x:Str) | ite | call (f:Str) (g:XX) | doo (d:Str) | handle (h:Str) | go | guard
inductive G where
 | nd (k:Kd) (ps:260)
noncomputable def Kd.tag:Kd->Str
 | .num _=>"num" | .var _=>"var" | .op _=>"op" | .lett _=>"let" | .ite=>"if" | .call _ _=>"call" | .doo _=>"do" | .handle _=>"handle" | .go=>"go" | .guard=>"guard"
noncomputable def Kd.isGo:Kd->Bool
 | .go=>true
 | _=>false
noncomputable def Kd.isIf:Kd->Bool
 | .ite=>true
 | _=>false
noncomputable def zV:Option Str->D
 | none=>.non
 | some g=>.str g
noncomputable def Kd.enc:Kd->List D->D
 | .num n,ps=>.tup (.str "num"::.int n::ps)
 | .var x,ps=>.tup (.str "var"::.str x::ps)
 | .op s,ps=>.tup (.str "op"::.str s::ps)
 | .lett x,ps=>.tup (.str "let"::.str x::ps)
 | .ite,ps=>.tup (.str "if"::ps)
 | .call f g,ps=>.tup [.str "call",.str f,zV g,.tup ps]
 | .doo d,ps=>.tup (.str "do"::.str d::ps)
 | .handle h,ps=>.tup (.str "handle"::.str h::ps)
 | .go,ps=>.tup (.str "go"::ps)
 | .guard,ps=>.tup (.str "guard"::ps)
mutual
noncomputable def G.d:G->D
 | .nd k ps=>k.enc 240
noncomputable def G.ds:List G->List D
 | []=>[]
 | g::r=>g.d::G.ds r
end
mutual
noncomputable def G.size:G->Nat
 | .nd _ ps=>1+G.sizes ps
noncomputable def G.sizes:List G->Nat
 | []=>0
 | g::r=>g.size+G.sizes r
end
noncomputable def Kd.ok (k:Kd)(n:Nat):Bool:=match k with
 | .num _ | .var _=>n==0
 | .op _ | .lett _ | .handle _ | .go | .guard=>n==2
 | .ite=>n==3
 | .doo _=>n==1
 | .call _ _=>true
mutual
noncomputable def G.ok:G->Bool
 | .nd k ps=>k.ok ps.length&&G.oks ps
noncomputable def G.oks:List G->Bool
 | []=>true
 | g::r=>g.ok&&G.oks r
end
theorem ds_map:∀ gs:List G,G.ds gs=gs.map G.d
 | []=>by rw [G.ds];rfl
 | g::r=>by rw [G.ds,ds_map r];rfl
theorem yF (a b:260):G.ds (a++b)=G.ds a++G.ds b:=by simp [ds_map]
theorem Qf (a:260):(G.ds a).length=a.length:=by simp [ds_map]
theorem wO:∀ (a b:260),G.sizes (a++b)=G.sizes a+G.sizes b
 | [],b=>by rw [Y0n];simp [G.sizes]
 | g::r,b=>by rw [Y2i,G.sizes,G.sizes,wO r b];omega
theorem so:∀ x∈(["num","var","op","let","if","call","do","handle","go","guard","never","jump","once","many"]:List Str),PyData.strOk x=true:=by decide +kernel
theorem wn:PyData.strOk "call"=true:=so _ 130
theorem j7 (k:Kd):PyData.strOk k.tag=true:=by cases k<;>exact so _ (by simp [Kd.tag])
noncomputable def Kd.isCall:Kd->Bool
 | .call _ _=>true
 | _=>false
noncomputable def Kd.isGuard:Kd->Bool
 | .guard=>true
 | _=>false
theorem Yy (k:Kd):(k.tag==("call":Str))=k.isCall:=by cases k<;>rfl
theorem zc1 (k:Kd)(ps:181):∃ r,k.enc ps=.tup (.str k.tag::r):=by cases k<;>exact 146
theorem J3 (k:Kd)(ps:181)(h:Hh):jc (k.enc ps) (.int 0) h=.ok (.str k.tag) h:=by
 obtain ⟨r,e⟩:=zc1 k ps;rw [e,sub_tup,wj 127];rfl
theorem zc2 (a b:D)(ps:181)(h:Hh):yz (.tup (a::b::ps)) (some 2) none h=.ok (.tup ps) h:=by
 simp only [yz,jU];rw [Yw _ _ _ 127,Zr];have e:min (2:Int).toNat (a::b::ps).length=2:=by simp
 rw [e,if_neg 130];simp
theorem zc3 (a:D)(ps:181)(h:Hh):yz (.tup (a::ps)) (some 1) none h=.ok (.tup ps) h:=by
 simp only [yz,jU];rw [Yw _ _ _ 127,Zr];have e:min (1:Int).toNat (a::ps).length=1:=by simp
 rw [e,if_neg 130];simp
end PI
namespace KB
open PySem
noncomputable def tb (x:Int)(k:Nat):Bool:=decide (x/2 ^ k%2=1)
theorem jf (x:Int):tb x 0=decide (x%2=1):=by
 unfold tb;simp
theorem j6 (x:Int)(k:Nat):tb x (k+1)=tb (x/2) k:=by
 unfold tb;have e:x/2 ^ (k+1)=x/2/2 ^ k:=by
  rw [Int.ediv_ediv_of_nonneg 127,Y28,Y42]
 rw [e]
theorem pw_pos (n:Nat):(0:Int)<2 ^ n:=Int.pow_pos 127
theorem z92 {x y:Int}(h:∀ k,tb x k=tb y k):∀ n:Nat,x%2 ^ n=y%2 ^ n:=by
 intro n
 induction n generalizing x y with
 | zero=>simp [Int.emod_one]
 | succ n ih =>
  have h0:=h 0;rw [jf,jf] at h0;have hs:∀ k,tb (x/2) k=tb (y/2) k:=by
   intro k;rw [<- j6,<- j6];exact h (k+1)
  have ihh:=ih hs;have h0':x%2=y%2:=by
   have:=decide_eq_decide.mp h0
   omega
  have e:∀ z:Int,z%2 ^ (n+1)=2*(z/2%2 ^ n)+z%2:=by
   intro z;have p:=pw_pos n;have hz:z=2*(z/2)+z%2:=by omega
   have hd:=Int.emod_add_mul_ediv (z/2) (2 ^ n);have l0:=Y34 (z/2) (Int.ne_of_gt p);have l1:=Y36 (z/2) p;have p1:(2:Int) ^ (n+1)=2*2 ^ n:=by rw [Y28,Y42]
   have key:z=(2*(z/2%2 ^ n)+z%2)+2 ^ (n+1)*(z/2/2 ^ n):=by
    rw [p1,Int.mul_assoc];omega
   have:=((Int.ediv_emod_unique (a:=z) (b:=2 ^ (n+1)) (r:=2*(z/2%2 ^ n)+z%2) (q:=z/2/2 ^ n) (by rw [p1];omega)).mpr ⟨key.symm,by omega,by rw [p1];omega⟩).2
   exact this
  rw [e x,e y,ihh,h0']
theorem yG {x y:Int}(h:∀ k,tb x k=tb y k):x=y:=by
 have hl:=z92 h;obtain ⟨n,hn⟩:∃ n:Nat,x.natAbs<2 ^ n/\y.natAbs<2 ^ n :=
  ⟨x.natAbs+y.natAbs,Y26 (Nat.le_add_right _ _) Nat.lt_two_pow_self,
   Y26 (Nat.le_add_left _ _) Nat.lt_two_pow_self⟩
 have h1:=hl (n+1);have p1:(2:Int) ^ (n+1)=2*2 ^ n:=by rw [Y28,Y42]
 have pc:((2 ^ n:Nat):Int)=(2:Int) ^ n:=by simp
 have hd:(2 ^ (n+1):Int) ∣ (x-y):=Int.dvd_of_emod_eq_zero (by
  rw [Int.sub_emod,h1,Int.sub_self];simp)
 obtain ⟨c,hc⟩:=hd;rw [p1,Int.mul_assoc] at hc;generalize hP:(2:Int) ^ n=P at *
 have hc0:c=0:=by
  have b1:x-y<2*P:=by omega
  have b2:-(2*P)<x-y:=by omega
  have pp:0<P:=by have:=pw_pos n;omega
  by_cases h:1<=c
  ·have:P*1<=P*c:=Y30 h 128
   omega
  ·by_cases h':c<=-1
   ·have:P*c<=P*(-1):=Y30 h' 128
    omega
   ·omega
 subst hc0;omega
theorem Qj (x:Int)(k:Nat):tb (Builtin.bitNot x) k=!tb x k:=by
 induction k generalizing x with
 | zero =>
  rw [jf,jf]
  have:Builtin.bitNot x%2=1 ↔ ¬ x%2=1:=by unfold Builtin.bitNot;omega
  by_cases h:x%2=1<;>simp [h,this]
 | succ k ih =>
  rw [j6,j6]
  have:Builtin.bitNot x/2=Builtin.bitNot (x/2):=by unfold Builtin.bitNot;omega
  rw [this,ih]
theorem US (x y:Int)(k:Nat):tb (Builtin.bitAnd x y) k=(tb x k&&tb y k):=by
 induction k generalizing x y with
 | zero =>
  rw [jf,jf,jf,PySem.W.kbt_halves];by_cases h:x%2=1<;>by_cases h':y%2=1<;>simp [h,h']<;>omega
 | succ k ih =>
  rw [j6,j6,j6]
  have:Builtin.bitAnd x y/2=Builtin.bitAnd (x/2) (y/2):=by
   rw [PySem.W.kbt_halves x y]
   split<;>omega
  rw [this,ih]
theorem qA (x y:Int)(k:Nat):tb (Builtin.bitOr x y) k=(tb x k||tb y k):=by
 unfold Builtin.bitOr;rw [Qj,US,Qj,Qj];cases tb x k<;>cases tb y k<;>rfl
theorem zA (k:Nat):tb 0 k=false:=by unfold tb;simp
end KB
set_option synthInstance.maxHeartbeats 4000000
set_option synthInstance.maxSize 100000
namespace K32
open PySem L2 PI
abbrev Z (l a b:Nat):PySem.Pos:=⟨l,a,l,b⟩
noncomputable instance (n:Nat):OfNat PySem.Pos n:=⟨⟨n/100000,n/100%1000,n/100000,n/100%1000+n%100⟩⟩
noncomputable def g_FIRST_PART:List (Str×Cv):=[("num",.int 2),("var",.int 2),("op",.int 2),("let",.int 2),("if",.int 1),("do",.int 2),("handle",.int 2),("go",.int 1),("guard",.int 1)]
noncomputable abbrev zj:List (Str×Cn):=[("FIRST_PART",(.dic g_FIRST_PART)),("Rest",(.cls 51)),("Found",(.cls 52))]
noncomputable abbrev FN:List Str:="parts_of"::"all_within"::"bodies_of"::"own_block"::"deeds_of"::"bits_by_deed"::"row_by"::"told"::"less"::"opened"::"filled"::"joined"::"without"::"within"::"rests_of"::"clause_rows"::"rest_of"::"inner"::"open_rows"::"fits"::"found_rows"::"asked_rows"::"bodies_row"::"use_row"::"_law_cell"::"_law_name"::"_law_names"::"_law_beside"::"_law_call"::"_law_grown"::"_law_body"::"_law_go"::"_law_clause"::"_law_handler"::"_law_of"::"_law_many"::"_law_item"::"_law_program"::"_law_parts"::"_law_bodies"::"_law_answers"::"_law_done"::"_law_deeds"::"_law_call_level"::"_law_level"::"_law_item_level"::"_law_fit"::"_law_names_told"::"_law_formed"::"_law_levels"::"law"::"__init__"::"__init__"::[]
noncomputable def top (i:Nat):Stmt:=PySem.Challenge.pw_deedwright_k32_the_found_table_fits.main.body.getD i (.Pass 138)
class Ix (x:Str) (N:XQ) (i:outParam Nat):Prop
instance [Ix x N i]:Ix x (y::N) (i+1):=⟨⟩
instance:Ix x (x::N) 0:=⟨⟩
class Gx (x:Str) (g:List (Str×Cn)) (c:outParam Cn):Prop
instance [Gx x g c]:Gx x (y::g) c:=⟨⟩
instance:Gx x ((x,c)::g) c:=⟨⟩
class Qe (n:Nm) (e:Expr) (o:outParam E):Prop
class Qs (n:Nm) (e:List Expr) (o:outParam Es):Prop
class Qo (n:Nm) (e:Option Expr) (o:outParam Eo):Prop
class Ql (n:Nm) (e:Expr) (o:outParam L):Prop
class Qi (n:Nm) (e:Expr) (o:outParam I):Prop
class Qt (n:Nm) (e:Stmt) (o:outParam S):Prop
class Qb (n:Nm) (e:List Stmt) (o:outParam Ss):Prop
class Qg (N:XQ) (e:Expr) (o:outParam Tg):Prop
instance [Ix x N i]:Qg N (.Name x p) (.one i p):=⟨⟩
class Qh (N:XQ) (e:List Expr) (o:outParam (List (Nat×Pos))):Prop
instance:Qh N [] []:=⟨⟩
instance [Ix x N i] [Qh N r r']:Qh N (.Name x p::r) ((i,p)::r'):=⟨⟩
instance [Qh N e o]:Qg N (.Tuple e 0 p) (.tup o p):=⟨⟩
instance:Qs n [] .nil:=⟨⟩
instance [Qe n a a'] [Qs n r r']:Qs n (a::r) (.cons a' r'):=⟨⟩
instance:Qo n none .none:=⟨⟩
instance [Qe n a a']:Qo n (some a) (.some a'):=⟨⟩
instance:Qb n [] .nil:=⟨⟩
instance [Qt n a a'] [Qb n r r']:Qb n (a::r) (.cons a' r'):=⟨⟩
class Sn (N:XQ) (s:List (Str×NameKind)) (M:outParam (List Str)) (k:outParam (List (Option Nat))):Prop
instance:Sn N [] [] []:=⟨⟩
instance [Sn N s M k]:Sn N ((x,.local)::s) (x::M) (none::k):=⟨⟩
instance [Sn N s M k]:Sn N ((".0",.local)::s) M k:=⟨⟩
instance [Sn N s M k]:Sn N ((x,.cell)::s) (x::M) (none::k):=⟨⟩
instance [Sn N s M k]:Sn N ((x,.globalImplicit)::s) M k:=⟨⟩
instance [Ix x N i] [Sn N s M k]:Sn N ((x,.free)::s) (x::M) (some i::k):=⟨⟩
instance:Qe n (.Constant .none 0 p) (.non p):=⟨⟩
instance:Qe n (.Constant (.bool i) 0 p) (.bl i p):=⟨⟩
instance:Qe n (.Constant (.int i) 0 p) (.int i p):=⟨⟩
instance:Qe n (.Constant (.str i) 0 p) (.str i p):=⟨⟩
instance [Ix x N i]:Qe ⟨N,F,g⟩ (.Name x p) (.var i p):=⟨⟩
instance [Qe n a a'] [Qe n b b']:Qe n (.BinOp a o b p) (.bin o a' b' p):=⟨⟩
instance [Qe n a a']:Qe n (.UnaryOp o a p) (.un o a' p):=⟨⟩
instance [Qe n a a'] [Qe n b b']:Qe n (.Compare a [o] [b] p) (.cmp o a' b' p):=⟨⟩
instance [Qe n a a']:Qe n (.Compare a [.NotEq] [.List [] q] p) (.cmpN true a' q p):=⟨⟩
instance [Qe n a a'] [Qe n b b'] [Qs n r r']:Qe n (.BoolOp .And (a::b::r) p) (.and a' b' r' p):=⟨⟩
instance [Qe n a a'] [Qe n b b'] [Qs n r r']:Qe n (.BoolOp .Or (a::b::r) p) (.or a' b' r' p):=⟨⟩
instance [Qe n c c'] [Qe n a a'] [Qe n b b']:Qe n (.IfExp c a b p) (.ite c' a' b' p):=⟨⟩
instance [Ix x F i] [Qe ⟨N,F,g⟩ a a'] [Qs ⟨N,F,g⟩ r r']:Qe ⟨N,F,g⟩ (.Call (.Name x q) (a::r) [] p) (.call i a' r' q p):=⟨⟩
instance [Qe n a a']:Qe n (.Call (.Name "len" q) [a] [] p) (.len a' q p):=⟨⟩
instance [Qe n a a'] [Qe n b b']:Qe n (.Call (.Name "max" q) [a,b] [] p) (.max2 a' b' q p):=⟨⟩
instance [Qe n a a']:Qe n (.Call (.Name "isinstance" q) [a,.Name "str" u] [] p) (.isi 2 a' q u p):=⟨⟩
instance [Qe n a a']:Qe n (.Call (.Name "isinstance" q) [a,.Name "tuple" u] [] p) (.isi 3 a' q u p):=⟨⟩
instance [Qe n a a']:Qe n (.Call (.Name "isinstance" q) [a,.Name "list" u] [] p) (.isi 4 a' q u p):=⟨⟩
instance [Qe n a a']:Qe n (.Call (.Name "isinstance" q) [a,.Name "dict" u] [] p) (.isi 5 a' q u p):=⟨⟩
instance [Qe n a a'] [Qe n b b']:Qe n (.Subscript a b p) (.sub a' b' p):=⟨⟩
instance [Qe n a a'] [Qo n b b'] [Qo n c c']:Qe n (.Subscript a (.Slice b c none q) p) (.cut a' b' c' q p):=⟨⟩
instance [Gx x g (.dic k)] [Qe ⟨N,F,g⟩ b b']:Qe ⟨N,F,g⟩ (.Subscript (.Name x q) b p) (.gsub x k b' q p):=⟨⟩
instance [Qs n a a']:Qe n (.Tuple a 0 p) (.tup a' p):=⟨⟩
instance [Ql n (.List a p) l]:Qe n (.List a p) (.ofL l):=⟨⟩
instance [Ql n (.ListComp a b c p) l]:Qe n (.ListComp a b c p) (.ofL l):=⟨⟩
instance [Qe n a a']:Qe n (.Call (.Name "tuple" q) [a] [] p) (.tupE a' q p):=⟨⟩
instance [Ql n a a']:Qe n (.Call (.Name "tuple" q) [a] [] p) (.tupL a' q p):=⟨⟩
instance [Qe n a a']:Qe n (.Call (.Name "list" q) [a] [] p) (.listE a' q p):=⟨⟩
instance [Qe n a a']:Qe n (.Call (.Name "dict" q) [a] [] p) (.dicP a' q p):=⟨⟩
instance:Qe n (.Dict [] [] p) (.dic p):=⟨⟩
instance [Qe n o o']:Qe n (.Call (.Attribute o "pop" q) [] [] p) (.m0 .pop o' q p):=⟨⟩
instance [Qe n o o'] [Qe n a a']:Qe n (.Call (.Attribute o "append" q) [a] [] p) (.m1 .append o' a' q p):=⟨⟩
instance [Qe n o o'] [Qe n a a']:Qe n (.Call (.Attribute o "extend" q) [a] [] p) (.m1 .extend o' a' q p):=⟨⟩
instance [Qe n a a']:Qe n (.Call (.Name "int" q) [a] [] p) (.c1 .int a' q p):=⟨⟩
instance [Qe n a a']:Qe n (.Call (.Name "all" q) [a] [] p) (.c1 .all a' q p):=⟨⟩
instance [Qe n a a']:Qe n (.Call (.Name "any" q) [a] [] p) (.c1 .any a' q p):=⟨⟩
instance [Qe n a a']:Qe n (.Call (.Name "sum" q) [a] [] p) (.c1 .sum a' q p):=⟨⟩
instance [Qe n a a'] [Qo n b b'] [Qo n c c'] [Qe n d d']:Qe n (.Subscript a (.Slice b c (some d) q) p) (.cutS a' b' c' d' q p):=⟨⟩
instance [Qe n a a']:Qe n (.Call (.Name "sorted" q) [.Call (.Name "set" u) [a] [] v] [] p) (.sset a' q u v p):=⟨⟩
instance [Qe n (.Name "rests" u) a']:Qe n (.Call (.Name "list" q) [.Name "rests" u] [] p) (.c1 .lks a' q p):=⟨⟩
instance [Qe n (.Attribute (.Name "found" v) "rows" u) a']:Qe n (.Call (.Name "list" q) [.Attribute (.Name "found" v) "rows" u] [] p) (.c1 .lks a' q p):=⟨⟩
instance [Qe n (.Name "asked" u) a']:Qe n (.Call (.Name "list" q) [.Name "asked" u] [] p) (.c1 .lks a' q p):=⟨⟩
instance [Qe n (.Name "rows" u) a']:Qe n (.Call (.Name "list" q) [.Name "rows" u] [] p) (.c1 .lks a' q p):=⟨⟩
instance [Qe n (.Name "table" u) a']:Qe n (.Call (.Name "list" q) [.Name "table" u] [] p) (.c1 .lks a' q p):=⟨⟩
instance [Qe n (.Name "_law_found" u) a']:Qe n (.Call (.Name "list" q) [.Name "_law_found" u] [] p) (.c1 .lks a' q p):=⟨⟩
instance [Qe n (.Call (.Name "open_rows" u) x [] v) a']:Qe n (.Call (.Name "list" q) [.Call (.Name "open_rows" u) x [] v] [] p) (.c1 .lks a' q p):=⟨⟩
instance [Qe n (.Call (.Name "_law_levels" u) x [] v) a']:Qe n (.Call (.Name "list" q) [.Call (.Name "_law_levels" u) x [] v] [] p) (.c1 .lks a' q p):=⟨⟩
instance [Qe n (.Name "_law_levels_here" u) a']:Qe n (.Call (.Name "list" q) [.Name "_law_levels_here" u] [] p) (.c1 .lks a' q p):=⟨⟩
instance [Qe n (.Name "rests" u) a'] [Qe n b b']:Qe n (.Compare (.Name "rests" u) [.NotEq] [b] p) (.neK true a' b' p):=⟨⟩
instance [Qe n (.Attribute (.Name "found" v) "rows" u) a'] [Qe n b b']:Qe n (.Compare (.Attribute (.Name "found" v) "rows" u) [.NotEq] [b] p) (.neK true a' b' p):=⟨⟩
instance [Qe n (.Name "asked" u) a'] [Qe n b b']:Qe n (.Compare (.Name "asked" u) [.NotEq] [b] p) (.neK true a' b' p):=⟨⟩
instance [Qe n (.Name "rows" u) a'] [Qe n b b']:Qe n (.Compare (.Name "rows" u) [.NotEq] [b] p) (.neK true a' b' p):=⟨⟩
instance [Qe n (.Name "table" u) a'] [Qe n b b']:Qe n (.Compare (.Name "table" u) [.NotEq] [b] p) (.neK true a' b' p):=⟨⟩
instance [Qe n (.Name "_law_found" u) a'] [Qe n b b']:Qe n (.Compare (.Name "_law_found" u) [.NotEq] [b] p) (.neK true a' b' p):=⟨⟩
instance [Qe n (.Call (.Name "open_rows" u) x [] v) a'] [Qe n b b']:Qe n (.Compare (.Call (.Name "open_rows" u) x [] v) [.NotEq] [b] p) (.neK true a' b' p):=⟨⟩
instance [Qe n (.Call (.Name "_law_levels" u) x [] v) a'] [Qe n b b']:Qe n (.Compare (.Call (.Name "_law_levels" u) x [] v) [.NotEq] [b] p) (.neK true a' b' p):=⟨⟩
instance [Qe n (.Name "_law_levels_here" u) a'] [Qe n b b']:Qe n (.Compare (.Name "_law_levels_here" u) [.NotEq] [b] p) (.neK true a' b' p):=⟨⟩
instance [Qe n (.Name "rests" u) a'] [Qe n b b']:Qe n (.Compare (.Name "rests" u) [.Eq] [b] p) (.neK false a' b' p):=⟨⟩
instance [Qe n (.Attribute (.Name "found" v) "rows" u) a'] [Qe n b b']:Qe n (.Compare (.Attribute (.Name "found" v) "rows" u) [.Eq] [b] p) (.neK false a' b' p):=⟨⟩
instance [Qe n (.Name "asked" u) a'] [Qe n b b']:Qe n (.Compare (.Name "asked" u) [.Eq] [b] p) (.neK false a' b' p):=⟨⟩
instance [Qe n (.Name "rows" u) a'] [Qe n b b']:Qe n (.Compare (.Name "rows" u) [.Eq] [b] p) (.neK false a' b' p):=⟨⟩
instance [Qe n (.Name "table" u) a'] [Qe n b b']:Qe n (.Compare (.Name "table" u) [.Eq] [b] p) (.neK false a' b' p):=⟨⟩
instance [Qe n (.Name "_law_found" u) a'] [Qe n b b']:Qe n (.Compare (.Name "_law_found" u) [.Eq] [b] p) (.neK false a' b' p):=⟨⟩
instance [Qe n (.Call (.Name "open_rows" u) x [] v) a'] [Qe n b b']:Qe n (.Compare (.Call (.Name "open_rows" u) x [] v) [.Eq] [b] p) (.neK false a' b' p):=⟨⟩
instance [Qe n (.Call (.Name "_law_levels" u) x [] v) a'] [Qe n b b']:Qe n (.Compare (.Call (.Name "_law_levels" u) x [] v) [.Eq] [b] p) (.neK false a' b' p):=⟨⟩
instance [Qe n (.Name "_law_levels_here" u) a'] [Qe n b b']:Qe n (.Compare (.Name "_law_levels_here" u) [.Eq] [b] p) (.neK false a' b' p):=⟨⟩
instance [Qe n a a']:Qe n (.Attribute a x p) (.fld a' x p):=⟨⟩
instance [Gx x g (.cls i)] [Qe ⟨N,F,g⟩ a a'] [Qs ⟨N,F,g⟩ r r']:Qe ⟨N,F,g⟩ (.Call (.Name x q) (a::r) [] p) (.mk i x a' r' q p):=⟨⟩
instance [Qe n o o'] [Qe n a a']:Qt n (.Assign [.Attribute o x q] a p) (.setF o' x a' q p):=⟨⟩
instance [Qs n a a']:Ql n (.List a p) (.disp a' p):=⟨⟩
instance [Sn N s M k] [Qe ⟨M,F,g⟩ a a'] [Qg M b b'] [Qi ⟨N,F,g⟩ i i'] [Qs ⟨M,F,g⟩ c c']:Ql ⟨N,F,g⟩ (.ListComp a [⟨b,i,c,0⟩] ⟨u,s,false,false,[]⟩ p) (.comp a' b' i' c' M k ⟨u,s,false,false,[]⟩ p):=⟨⟩
instance [Qe n a a']:Qi n a (.seq a'):=⟨⟩
instance [Qe n a a']:Qi n (.Call (.Name "range" q) [a] [] p) (.rng a' q p):=⟨⟩
instance [Qe n a a']:Qi n (.Call (.Attribute a "items" q) [] [] p) (.items a' q p):=⟨⟩
instance [Qe n (.Name "rests" u) a']:Qi n (.Name "rests" u) (.keys a'):=⟨⟩
instance [Qe n (.Attribute (.Name "found" v) "rows" u) a']:Qi n (.Attribute (.Name "found" v) "rows" u) (.keys a'):=⟨⟩
instance [Qe n (.Name "asked" u) a']:Qi n (.Name "asked" u) (.keys a'):=⟨⟩
instance [Qe n (.Name "rows" u) a']:Qi n (.Name "rows" u) (.keys a'):=⟨⟩
instance [Qe n (.Name "table" u) a']:Qi n (.Name "table" u) (.keys a'):=⟨⟩
instance [Qe n (.Name "_law_found" u) a']:Qi n (.Name "_law_found" u) (.keys a'):=⟨⟩
instance [Qe n (.Call (.Name "open_rows" u) x [] v) a']:Qi n (.Call (.Name "open_rows" u) x [] v) (.keys a'):=⟨⟩
instance [Qe n (.Call (.Name "_law_levels" u) x [] v) a']:Qi n (.Call (.Name "_law_levels" u) x [] v) (.keys a'):=⟨⟩
instance [Qe n (.Name "_law_levels_here" u) a']:Qi n (.Name "_law_levels_here" u) (.keys a'):=⟨⟩
instance [Qe n a a']:Qt n (.Return (some a) p) (.ret a' p):=⟨⟩
instance [Qe n a a']:Qt n (.Expr a p) (.ex a' p):=⟨⟩
instance [Qe n c c'] [Qb n a a'] [Qb n b b']:Qt n (.If c a b p) (.iff c' a' b' p):=⟨⟩
instance [Ix x N i] [Qe ⟨N,F,g⟩ a a']:Qt ⟨N,F,g⟩ (.Assign [.Name x q] a p) (.set i a' q p):=⟨⟩
instance [Qe n o o'] [Qe n i i'] [Qe n a a']:Qt n (.Assign [.Subscript o i q] a p) (.put o' i' a' q p):=⟨⟩
instance [Qe n o o'] [Qs n i i'] [Qe n a a']:Qt n (.Assign [.Subscript o (.Tuple i 0 u) q] a p) (.putT o' i' a' u q p):=⟨⟩
instance [Qg N (.Tuple b 0 q) (.tup i q)] [Qe ⟨N,F,g⟩ a a']:Qt ⟨N,F,g⟩ (.Assign [.Tuple b 0 q] a p) (.setT i a' q p):=⟨⟩
instance [Qg N t t'] [Qi ⟨N,F,g⟩ i i'] [Qb ⟨N,F,g⟩ b b']:Qt ⟨N,F,g⟩ (.For t i b [] p) (.forr t' i' b' p):=⟨⟩
instance [Qe n c c'] [Qb n b b']:Qt n (.While c b [] p) (.whil c' b' p):=⟨⟩
def Bd (n:Nm)(b:List Stmt):Type:=Ss
abbrev Gg (n:Nm)(b:List Stmt):Type:=(o:Ss)->Qb n b o->Bd n b
noncomputable def mkD (i:Nat)(x:Str)(k:Nat)(N:XQ)(q:Bd ⟨N,FN,zj⟩ (j3 (top i)):=by (change Bd _ (_::_));refine (?g:Gg _ _) _ inferInstance;exact λ o _=>o):Df:=⟨x,N.take k,N,q⟩
noncomputable def z6:Ss->Ss
 | .cons _ a=>a
 | _=>.nil
noncomputable def z8:Ss->S
 | .cons a _=>a
 | _=>.ret (.non 138) 138
noncomputable def J4:S->E
 | .whil a _ _=>a
 | _=>.non 138
noncomputable def J5:S->Ss
 | .whil _ a _=>a
 | _=>.nil
noncomputable def zZ:S->E
 | .ret a _=>a
 | _=>.non 138
noncomputable def Zk:E->E
 | .bin _ a _ _=>a
 | _=>.non 138
noncomputable def Yz:E->L
 | .tupL a _ _=>a
 | _=>.disp .nil 138
noncomputable def zP:L->E
 | .comp a _ _ _ _ _ _ _=>a
 | _=>.non 138
noncomputable def zQ:L->Tg
 | .comp _ a _ _ _ _ _ _=>a
 | _=>.one 0 138
noncomputable def qK:S->E
 | .ex a _=>a
 | _=>.non 138
noncomputable def qL:E->E
 | .m1 _ _ a _ _=>a
 | _=>.non 138
noncomputable def zq:E->L
 | .ofL a=>a
 | _=>.disp .nil 138
noncomputable def wZ:L->Es
 | .comp _ _ _ a _ _ _ _=>a
 | _=>.nil
noncomputable def zE:S->Tg
 | .forr a _ _ _=>a
 | _=>.one 0 138
noncomputable def zF:S->Ss
 | .forr _ _ a _=>a
 | _=>.nil
noncomputable def wo:S->Ss
 | .iff _ a _ _=>a
 | _=>.nil
noncomputable def VY:S->E
 | .put _ _ a _ _=>a
 | _=>.non 138
noncomputable def ww:E->E
 | .c1 _ a _ _=>a
 | _=>.non 138
noncomputable def jJ:S->E
 | .set _ a _ _=>a
 | _=>.non 138
noncomputable def YA:E->E
 | .dicP a _ _=>a
 | _=>.non 138
noncomputable def Zl:E->E
 | .cmp _ _ a _=>a
 | _=>.non 138
noncomputable def VZ:E->E
 | .and _ a _ _=>a
 | _=>.non 138
noncomputable def qm:S->E
 | .iff a _ _ _=>a
 | _=>.non 138
noncomputable def Qk:E->E
 | .or _ a _ _=>a
 | _=>.non 138
def z0s:E->E
 | .un _ a _=>a
 | _=>.non 138
def d_parts_of:=mkD 2 "parts_of" 1 ["tree"]
def d_all_within:=mkD 3 "all_within" 1 ["tree","found","waiting","one"]
def d_bodies_of:=mkD 4 "bodies_of" 1 ["item"]
def d_own_block:=mkD 5 "own_block" 1 ["item"]
def d_deeds_of:=mkD 7 "deeds_of" 1 ["program","found","item","body"]
def d_bits_by_deed:=mkD 8 "bits_by_deed" 1 ["deeds","bits","bit","deed"]
def d_row_by:=mkD 9 "row_by" 2 ["some","deeds","bits","row","deed"]
def d_told:=mkD 10 "told" 2 ["row","deeds","found","left","deed"]
def d_less:=mkD 11 "less" 2 ["row","other"]
def d_opened:=mkD 13 "opened" 2 ["own","lets"]
def d_filled:=mkD 14 "filled" 2 ["one","r"]
def d_joined:=mkD 15 "joined" 2 ["one","other"]
def d_without:=mkD 16 "without" 2 ["one","row"]
def d_within:=mkD 17 "within" 2 ["one","other","lacks_own","lacks_lets"]
def d_rests_of:=mkD 20 "rests_of" 2 ["program","deeds","bits","clauses","rests","item"]
def d_clause_rows:=mkD 21 "clause_rows" 2 ["program","bits","rows","item"]
def d_rest_of:=mkD 22 "rest_of" 4 ["bodies","block","clauses","bits","rest","waiting","looked","tree","answered"]
def d_inner:=mkD 23 "inner" 3 ["tree","answered","clauses"]
def d_open_rows:=mkD 26 "open_rows" 1 ["program","found","table","name","row"]
def d_fits:=mkD 27 "fits" 2 ["program","table","deeds","rows","name","asked"]
def d_found_rows:=mkD 28 "found_rows" 2 ["program","deeds","rests","every","rows","asked"]
def d_asked_rows:=mkD 29 "asked_rows" 3 ["rests","rows","every","asked","name"]
def d_bodies_row:=mkD 30 "bodies_row" 3 ["rest","rows","every","row","tree","answered"]
def d_use_row:=mkD 31 "use_row" 4 ["tree","block","rows","every","called","handed"]
def d_law_cell:=mkD 33 "_law_cell" 2 ["_law_script","_law_k"]
def d_law_name:=mkD 34 "_law_name" 2 ["_law_k","_law_cell_here","_law_size","_law_at","_law_fill"]
def d_law_names:=mkD 35 "_law_names" 2 ["_law_many_here","_law_cell_here"]
def d_law_beside:=mkD 36 "_law_beside" 3 ["_law_form","_law_tree","_law_do","_law_some"]
def d_law_call:=mkD 37 "_law_call" 4 ["_law_cell_here","_law_tree","_law_names_here","_law_block","_law_callee","_law_handed","_law_name_here","_law_many_here"]
def d_law_grown:=mkD 38 "_law_grown" 5 ["_law_cell_here","_law_tree","_law_names_here","_law_block","_law_gone","_law_deed","_law_rest","_law_h"]
def d_law_body:=mkD 39 "_law_body" 3 ["_law_cells","_law_names_here","_law_block","_law_tree","_law_cell_here"]
def d_law_go:=mkD 40 "_law_go" 3 ["_law_cell_here","_law_tree","_law_names_here","_law_do","_law_some"]
def d_law_clause:=mkD 41 "_law_clause" 3 ["_law_cell_here","_law_cells","_law_names_here","_law_number","_law_at","_law_tree","_law_k"]
def d_law_handler:=mkD 42 "_law_handler" 4 ["_law_name_here","_law_cell_here","_law_cells","_law_names_here","_law_some","_law_clauses","_law_j","_law_end"]
def d_law_of:=mkD 43 "_law_of" 3 ["_law_said","_law_kinds","_law_kind"]
def d_law_many:=mkD 44 "_law_many" 2 ["_law_script","_law_k"]
def d_law_item:=mkD 45 "_law_item" 6 ["_law_script","_law_k","_law_name_here","_law_kind","_law_names_here","_law_cells","_law_block"]
def d_law_program:=mkD 46 "_law_program" 2 ["_law_script","_law_deeds_here","_law_kinds","_law_k","_law_said","_law_some","_law_names_here","_law_items","_law_at"]
def d_law_parts:=mkD 47 "_law_parts" 1 ["_law_tree"]
def d_law_bodies:=mkD 48 "_law_bodies" 1 ["_law_item_here"]
def d_law_answers:=mkD 49 "_law_answers" 3 ["_law_program_here","_law_name_here","_law_deed","_law_item_here"]
def d_law_done:=mkD 50 "_law_done" 1 ["_law_tree","_law_some","_law_part"]
def d_law_deeds:=mkD 51 "_law_deeds" 1 ["_law_program_here","_law_some","_law_item_here","_law_body_here"]
def d_law_call_level:=mkD 52 "_law_call_level" 4 ["_law_tree","_law_deed","_law_levels_here","_law_block","_law_level_here"]
def d_law_level:=mkD 53 "_law_level" 5 ["_law_tree","_law_deed","_law_levels_here","_law_block","_law_program_here","_law_best","_law_parts_here","_law_part"]
def d_law_item_level:=mkD 54 "_law_item_level" 4 ["_law_item_here","_law_deed","_law_levels_here","_law_program_here","_law_block","_law_best","_law_body_here"]
def d_law_fit:=mkD 55 "_law_fit" 3 ["_law_levels_here","_law_program_here","_law_deeds_here","_law_item_here","_law_deed"]
def d_law_names_told:=mkD 56 "_law_names_told" 2 ["_law_some","_law_deeds_here"]
def d_law_formed:=mkD 57 "_law_formed" 3 ["_law_found","_law_program_here","_law_deeds_here","_law_item_here","_law_pair"]
def d_law_levels:=mkD 58 "_law_levels" 2 ["_law_table","_law_deeds_here","_law_levels_here","_law_name_here","_law_pair","_law_deed"]
def d_law:=mkD 59 "law" 1 ["_law_script","_law_program_here","_law_deeds_here","_law_found","_law_levels_here"]
def d_init_Rest:Df:=⟨"__init__",["self","block"],["self","block"],(.cons (.setF (.var 0 7000804) "block" (.var 1 7002105) 7000810 7000818) (.cons (.setF (.var 0 7100804) "done" (.int 0 7102001) 7100809 7100813) (.cons (.setF (.var 0 7200804) "uses" (.ofL (.disp .nil 7202002)) 7200809 7200814) .nil)))⟩
def d_init_Found:Df:=⟨"__init__",["self","program"],["self","program"],(.cons (.setF (.var 0 10700804) "deeds" (.call 4 (.var 1 10703007) .nil 10702108 10702117) 10700810 10700830) (.cons (.setF (.var 0 10800804) "every" (.call 6 (.fld (.var 0 10802804) "deeds" 10802810) (.cons (.fld (.var 0 10804004) "deeds" 10804010) .nil) 10802106 10802130) 10800810 10800843) (.cons (.setF (.var 0 10900804) "clauses" (.call 15 (.var 1 10903507) (.cons (.call 5 (.fld (.var 0 10905704) "deeds" 10905710) .nil 10904412 10904424) .nil) 10902311 10902346) 10900812 10900861) (.cons (.setF (.var 0 11000804) "rows" (.call 20 (.var 1 11003107) (.cons (.fld (.var 0 11004004) "deeds" 11004010) .nil) 11002010 11002031) 11000809 11000843) .nil))))⟩
def w_all_within_1:E:=(J4 (z8 (z6 (z6 d_all_within.body))))
def b_all_within_1:Ss:=(J5 (z8 (z6 (z6 d_all_within.body))))
def e_bodies_of_1:E:=(zP (Yz (Zk (zZ (z8 (z6 d_bodies_of.body))))))
def c_bodies_of_1:Es:=.nil
def JF:Tg:=(zQ (Yz (Zk (zZ (z8 (z6 d_bodies_of.body))))))
def c_deeds_of_4:Es:=.nil
def Qm:Tg:=(zE (z8 (z6 d_deeds_of.body)))
def b_deeds_of_1:Ss:=(zF (z8 (z6 d_deeds_of.body)))
def wE:Tg:=(zE (z8 (z6 (z6 d_bits_by_deed.body))))
def b_bits_by_deed_1:Ss:=(zF (z8 (z6 (z6 d_bits_by_deed.body))))
def J6:Tg:=(zE (z8 (z6 (z6 d_row_by.body))))
def b_row_by_1:Ss:=(zF (z8 (z6 (z6 d_row_by.body))))
def YB:Tg:=(zE (z8 (z6 (z6 d_told.body))))
def b_told_1:Ss:=(zF (z8 (z6 (z6 d_told.body))))
def yb:Tg:=(zE (z8 (z6 (z6 (z6 d_rests_of.body)))))
def b_rests_of_1:Ss:=(zF (z8 (z6 (z6 (z6 d_rests_of.body)))))
def c_clause_rows_2:Es:=.nil
def wR:Tg:=(zE (z8 (z6 d_clause_rows.body)))
def b_clause_rows_1:Ss:=(zF (z8 (z6 d_clause_rows.body)))
def w_rest_of_1:E:=(J4 (z8 (z6 (z6 d_rest_of.body))))
def b_rest_of_1:Ss:=(J5 (z8 (z6 (z6 d_rest_of.body))))
def e_rest_of_2:E:=(zP (zq (jJ (z8 (z6 d_rest_of.body)))))
def c_rest_of_2:Es:=.nil
def YC:Tg:=(zQ (zq (jJ (z8 (z6 d_rest_of.body)))))
def e_inner_1:E:=(zP (zq (zZ (z8 (z6 d_inner.body)))))
def c_inner_1:Es:=.nil
def OH:Tg:=(zQ (zq (zZ (z8 (z6 d_inner.body)))))
def qB:Tg:=(zE (z8 (z6 (z6 d_open_rows.body))))
def b_open_rows_1:Ss:=(zF (z8 (z6 (z6 d_open_rows.body))))
def e_fits_1:E:=(zP (zq (ww (zZ (z8 (z6 (z6 (z6 (z6 d_fits.body)))))))))
def c_fits_1:Es:=.nil
def z0t:Tg:=(zQ (zq (ww (zZ (z8 (z6 (z6 (z6 (z6 d_fits.body)))))))))
def YD:Tg:=(zE (z8 (z6 (z6 d_fits.body))))
def b_fits_2:Ss:=(zF (z8 (z6 (z6 d_fits.body))))
def w_found_rows_1:E:=(J4 (z8 (z6 (z6 (z6 (z6 d_found_rows.body))))))
def b_found_rows_1:Ss:=(J5 (z8 (z6 (z6 (z6 (z6 d_found_rows.body))))))
def e_found_rows_2:E:=(zP (zq (YA (jJ (z8 (z6 (z6 d_found_rows.body)))))))
def c_found_rows_2:Es:=.nil
def J7:Tg:=(zQ (zq (YA (jJ (z8 (z6 (z6 d_found_rows.body)))))))
def qc:Tg:=(zE (z8 (z6 d_asked_rows.body)))
def b_asked_rows_1:Ss:=(zF (z8 (z6 d_asked_rows.body)))
def qe:Tg:=(zE (z8 (z6 d_bodies_row.body)))
def b_bodies_row_1:Ss:=(zF (z8 (z6 d_bodies_row.body)))
def e_law_names_1:E:=(zP (zq (zZ (z8 d_law_names.body))))
def c_law_names_1:Es:=.nil
def JG:Tg:=(zQ (zq (zZ (z8 d_law_names.body))))
def Qn:Tg:=(zE (z8 (z6 d_law_body.body)))
def b_law_body_1:Ss:=(zF (z8 (z6 d_law_body.body)))
def J8:Tg:=(zE (z8 (z6 (z6 (z6 (z6 d_law_clause.body))))))
def b_law_clause_1:Ss:=(zF (z8 (z6 (z6 (z6 (z6 d_law_clause.body))))))
def Zb:Tg:=(zE (z8 (z6 (z6 d_law_handler.body))))
def b_law_handler_1:Ss:=(zF (z8 (z6 (z6 d_law_handler.body))))
def e_law_handler_2:E:=(zP (zq (jJ (z8 d_law_handler.body))))
def c_law_handler_2:Es:=(wZ (zq (jJ (z8 d_law_handler.body))))
def Zd:Tg:=(zQ (zq (jJ (z8 d_law_handler.body))))
def e_law_of_1:E:=(zP (zq (zZ (z8 d_law_of.body))))
def c_law_of_1:Es:=(wZ (zq (zZ (z8 d_law_of.body))))
def UT:Tg:=(zQ (zq (zZ (z8 d_law_of.body))))
def Ze:Tg:=(zE (z8 (z6 (z6 (z6 (z6 (z6 (z6 d_law_program.body))))))))
def b_law_program_1:Ss:=(zF (z8 (z6 (z6 (z6 (z6 (z6 (z6 d_law_program.body))))))))
def e_law_program_2:E:=(zP (zq (jJ (z8 (z6 (z6 (z6 d_law_program.body)))))))
def c_law_program_2:Es:=(wZ (zq (jJ (z8 (z6 (z6 (z6 d_law_program.body)))))))
def Zf:Tg:=(zQ (zq (jJ (z8 (z6 (z6 (z6 d_law_program.body)))))))
def Zg:Tg:=(zE (z8 (z6 d_law_program.body)))
def b_law_program_3:Ss:=(zF (z8 (z6 d_law_program.body)))
def e_law_parts_1:E:=(zP (zq (zZ (z8 (z6 d_law_parts.body)))))
def c_law_parts_1:Es:=(wZ (zq (zZ (z8 (z6 d_law_parts.body)))))
def JH:Tg:=(zQ (zq (zZ (z8 (z6 d_law_parts.body)))))
def e_law_bodies_1:E:=(zP (zq (Zk (zZ (z8 (z6 d_law_bodies.body))))))
def c_law_bodies_1:Es:=.nil
def J9:Tg:=(zQ (zq (Zk (zZ (z8 (z6 d_law_bodies.body))))))
def c_law_answers_2:Es:=.nil
def je:Tg:=(zE (z8 d_law_answers.body))
def b_law_answers_1:Ss:=(zF (z8 d_law_answers.body))
def Qp:Tg:=(zE (z8 (z6 (z6 d_law_done.body))))
def b_law_done_1:Ss:=(zF (z8 (z6 (z6 d_law_done.body))))
def c_law_deeds_3:Es:=.nil
def JI:Tg:=(zE (z8 (z6 d_law_deeds.body)))
def b_law_deeds_1:Ss:=(zF (z8 (z6 d_law_deeds.body)))
def JJ:Tg:=(zE (z8 (z6 (z6 (z6 (z6 (z6 d_law_level.body)))))))
def b_law_level_1:Ss:=(zF (z8 (z6 (z6 (z6 (z6 (z6 d_law_level.body)))))))
def qM:Tg:=(zE (z8 (z6 (z6 (z6 d_law_item_level.body)))))
def b_law_item_level_1:Ss:=(zF (z8 (z6 (z6 (z6 d_law_item_level.body)))))
def yZ:Tg:=(zE (z8 d_law_fit.body))
def b_law_fit_1:Ss:=(zF (z8 d_law_fit.body))
def e_law_names_told_1:E:=(zP (zq (ww (VZ (zZ (z8 (z6 d_law_names_told.body)))))))
def c_law_names_told_1:Es:=.nil
def qN:Tg:=(zQ (zq (ww (VZ (zZ (z8 (z6 d_law_names_told.body)))))))
def e_law_names_told_2:E:=(zP (zq (ww (z0s (Qk (qm (z8 d_law_names_told.body)))))))
def c_law_names_told_2:Es:=.nil
def qO:Tg:=(zQ (zq (ww (z0s (Qk (qm (z8 d_law_names_told.body)))))))
def c_law_formed_2:Es:=.nil
def Ja:Tg:=(zE (z8 (z6 d_law_formed.body)))
def b_law_formed_1:Ss:=(zF (z8 (z6 d_law_formed.body)))
def e_law_formed_3:E:=(zP (zq (Zl (Qk (qm (z8 d_law_formed.body))))))
def c_law_formed_3:Es:=.nil
def Jb:Tg:=(zQ (zq (Zl (Qk (qm (z8 d_law_formed.body))))))
def Jc:Tg:=(zE (z8 (z6 d_law_levels.body)))
def b_law_levels_1:Ss:=(zF (z8 (z6 d_law_levels.body)))
noncomputable def Qq:Tg:=(zE (z8 (z6 b_deeds_of_1)))
def b_deeds_of_2:Ss:=(zF (z8 (z6 b_deeds_of_1)))
def e_deeds_of_4:E:=(zP (zq (qL (qK (z8 (wo (z8 b_deeds_of_1)))))))
noncomputable def Qr:Tg:=(zQ (zq (qL (qK (z8 (wo (z8 b_deeds_of_1)))))))
def e_clause_rows_2:E:=(zP (zq (ww (VY (z8 (wo (z8 b_clause_rows_1)))))))
noncomputable def wS:Tg:=(zQ (zq (ww (VY (z8 (wo (z8 b_clause_rows_1)))))))
def e_law_answers_2:E:=(zP (zq (Zl (zZ (z8 (wo (z8 b_law_answers_1)))))))
noncomputable def Zh:Tg:=(zQ (zq (Zl (zZ (z8 (wo (z8 b_law_answers_1)))))))
noncomputable def JK:Tg:=(zE (z8 (z6 b_law_deeds_1)))
def b_law_deeds_2:Ss:=(zF (z8 (z6 b_law_deeds_1)))
def e_law_deeds_3:E:=(zP (zq (qL (qK (z8 (wo (z8 b_law_deeds_1)))))))
noncomputable def JL:Tg:=(zQ (zq (qL (qK (z8 (wo (z8 b_law_deeds_1)))))))
noncomputable def YE:Tg:=(zE (z8 b_law_fit_1))
def b_law_fit_2:Ss:=(zF (z8 b_law_fit_1))
def e_law_formed_2:E:=(zP (zq (ww (qm (z8 (z6 (z6 (z6 b_law_formed_1))))))))
noncomputable def Jd:Tg:=(zQ (zq (ww (qm (z8 (z6 (z6 (z6 b_law_formed_1))))))))
noncomputable def Je:Tg:=(zE (z8 b_law_levels_1))
def b_law_levels_2:Ss:=(zF (z8 b_law_levels_1))
def e_deeds_of_3:E:=(zP (zq (qL (qK (z8 b_deeds_of_2)))))
def c_deeds_of_3:Es:=(wZ (zq (qL (qK (z8 b_deeds_of_2)))))
noncomputable def yc:Tg:=(zQ (zq (qL (qK (z8 b_deeds_of_2)))))
def defs:List Df:=[d_parts_of,d_all_within,d_bodies_of,d_own_block,d_deeds_of,d_bits_by_deed,d_row_by,d_told,d_less,d_opened,d_filled,d_joined,d_without,d_within,d_rests_of,d_clause_rows,d_rest_of,d_inner,d_open_rows,d_fits,d_found_rows,d_asked_rows,d_bodies_row,d_use_row,d_law_cell,d_law_name,d_law_names,d_law_beside,d_law_call,d_law_grown,d_law_body,d_law_go,d_law_clause,d_law_handler,d_law_of,d_law_many,d_law_item,d_law_program,d_law_parts,d_law_bodies,d_law_answers,d_law_done,d_law_deeds,d_law_call_level,d_law_level,d_law_item_level,d_law_fit,d_law_names_told,d_law_formed,d_law_levels,d_law,d_init_Rest,d_init_Found]
mutual
def pre:G->List G
 | .nd k ps=>.nd k ps::pres ps
def pres:List G->List G
 | []=>[]
 | g::r=>pres r++pre g
end
theorem qf:∀ (a b:260),pres (a++b)=pres b++pres a
 | [],b=>by rw [Y0n];simp [pres]
 | g::r,b=>by rw [Y2i,pres,pres,qf r b,Y0i]
theorem Jf (g:G):0<g.size:=by cases g;rw [G.size];omega
mutual
theorem Qu:∀ g:G,(pre g).length=g.size
 | .nd k ps=>by rw [pre,G.size,Y09,pres_len ps];omega
theorem pres_len:∀ gs:List G,(pres gs).length=G.sizes gs
 | []=>by rw [pres,G.sizes];rfl
 | g::r=>by rw [pres,G.sizes,Y05,Qu g,pres_len r];omega
end
theorem z0u (k:Kd)(hk:∀ f g,k≠.call f g):g_FIRST_PART.lookup k.tag=some (.int (if k.isIf||k.isGo||k.isGuard then 1 else 2)):=by
 cases k<;>first | (exact absurd rfl (hk _ _)) | rfl
theorem z59 (cl:126)(k:Kd)(ps:260)(h:Hh):d_parts_of.run cl [(G.nd k ps).d] h=.ok (.tup 240) h:=by
 have e0:=J3 k 240 h;have e1:=eqS (h:=h) (j7 k) wn;rw [G.d];by_cases hk:∃ f g,k=.call f g
 ·obtain ⟨f,g,rfl⟩:=hk;rw [Yy] at e1;exact zg (jd (zm 208 rfl e1) (zo 129))
 ·have hk':=λ f g z=>hk ⟨f,g,z⟩;have lk:=z0u k hk';have ht:k.isCall=false:=by cases k<;>first | exact absurd rfl (hk' _ _) | rfl
  rw [Yy,ht] at e1;refine zg (zv (zm 208 rfl e1) (zo (bnd rfl (bnd (wv (h':=h) (i:=if k.isIf||k.isGo||k.isGuard then 1 else 2) (bnd 208 ?_)) (bnd rfl ?_)))))
  ·show z4i _ _ _=_;unfold z4i;dsimp only;rw [lk];rfl
  ·cases k<;>first | (exact absurd rfl (hk' _ _)) | (simp [Kd.isIf,Kd.isGo,Kd.isGuard,Kd.enc,zc3,zc2])
def Zm (cl:126)(i:Nat):Prop:=∀ k ps h,cl i [(G.nd k ps).d] h=.ok (.tup 240) h
theorem wl:∀ W:List G,W.length<=G.sizes W
 | []=>by simp
 | g::r=>by have:=Jf g;have:=wl r;rw [G.sizes,Y09];omega
theorem z5a (cl:126)(C:Zm cl 0)(t:D)(h:Hh):∀ (n:Nat) (W:260) (F:181) (one:168),G.sizes W<=n->F.length+G.sizes W<=1000000 ->
  ∃ one',whR (λ ρ h=>w_all_within_1.evT cl ρ h) (λ ρ h=>b_all_within_1.run cl ρ h) [some t,some 136,some (.loc (h.length+1)),one] (h++[.lst F,.lst (G.ds W)]) =
   .nx [some t,some 136,some (.loc (h.length+1)),one'] (h++[.lst (F++G.ds (pres W)),.lst []]):=by
 intro n
 induction n with
 | zero =>
  intro W F one hn hl
  have:W=[]:=by
   cases W with
   | nil=>rfl
   | cons g r=>have:=Jf g;rw [G.sizes] at hn;omega
  subst this;refine ⟨one,?_⟩;rw [qZ (h1:=h++[.lst F,.lst (G.ds [])])]
  ·simp [pres,G.ds]
  ·show E.evT cl (.cmpN true (.var 2 _) _ _) _ _=_;simp [E.evT,VW,qJ,Z9,rdx,rd,G.ds,hx]
 | succ n ih =>
  intro W F one hn hl;rcases List.eq_nil_or_concat W with rfl | ⟨W',g,rfl⟩
  ·refine ⟨one,?_⟩;rw [qZ (h1:=h++[.lst F,.lst (G.ds [])])]
   ·simp [pres,G.ds]
   ·show E.evT cl (.cmpN true (.var 2 _) _ _) _ _=_;simp [E.evT,VW,qJ,Z9,rdx,rd,G.ds,hx]
  ·obtain ⟨k,ps⟩:=g;rw [List.concat_eq_append] at *
   have es:G.sizes (W'++[.nd k ps])=G.sizes W'+1+G.sizes ps:=by rw [wO,G.sizes,G.sizes,G.size];omega
   have es2:G.sizes (W'++ps)=G.sizes W'+G.sizes ps:=wO _ _;obtain ⟨one',e⟩:=ih (W'++ps) (F++[(G.nd k ps).d]) (some (G.nd k ps).d) 128 154;refine ⟨one',?_⟩;have l1:=wl W';have l2:=wl ps;rw [ZO (h1:=h++[.lst F,.lst (G.ds (W'++[.nd k ps]))]),e]
   ·have ee:F++[(G.nd k ps).d]++G.ds (pres (W'++ps))=F++G.ds (pres (W'++[.nd k ps])):=by
     rw [qf,qf,pres,pres,pre,Y0n,Y0i]
     congr 1
    rw [ee]
   ·show E.evT cl (.cmpN true (.var 2 _) _ _) _ _=_;simp [E.evT,VW,qJ,Z9,rdx,rd,G.ds,hx,yF]
   ·have c:=C k ps;have f1:F.length<1000000:=by omega
    have f2:W'.length+ps.length<=1000000:=by omega
    show Ss.run cl (.cons (.set 3 (.m0 .pop (.var 2 _) _ _) _ _) (.cons (.ex (.m1 .append (.var 1 _) (.var 3 _) _ _) _) (.cons (.ex (.m1 .extend (.var 2 _) (.call 0 (.var 3 _) .nil _ _) _ _) _) .nil))) _ _=_;simp [jX,JE,OF,yex,vm0,vm1,qJ,zbs,z6o,z8w,m0D,m1D,onL,hx,hx0,zbx,z0p,yF,G.ds,c,f1,f2,Qf]
theorem z0v (cl:126)(C:Zm cl 0)(g:G)(h:Hh)(hs:g.size<=1000000) :
  d_all_within.run cl [g.d] h=.ok 136 (h++[.lst (G.ds (pre g)),.lst []]):=by
 obtain ⟨o,e⟩:=z5a cl C g.d h g.size [g] [] none (by rw [G.sizes,G.sizes];omega) (by rw [G.sizes,G.sizes];simpa using hs);have e1:pres [g]=pre g:=by rw [pres,pres];rfl
 rw [e1] at e;simp [G.ds] at e;show w9 (Ss.run cl (.cons (.set 1 (.ofL (.disp .nil _)) _ _) (.cons (.set 2 (.ofL (.disp (.cons (.var 0 _) .nil) _)) _ _) (.cons (.whil w_all_within_1 b_all_within_1 _) (.cons (.ret (.var 1 _) _) .nil)))) [some g.d,none,none,none] h)=_;simp [jX,JE,OF,z6p,ze2,zbt,qJ,z6m,z6o,z8w,new,e,w9]
def wF (cl:126)(i:Nat):Prop:=∀ (g:G) h,g.size<=1000000->cl i [g.d] h=.ok 136 (h++[.lst (G.ds (pre g)),.lst []])
inductive It where
 | df (nm ps o:D) (b:G)
 | hd (nm:D) (cs:List (Str×G)) (e:G)
def clD (c:Str×G):D:=.tup [.str c.1,.str "x",.str "y",c.2.d]
noncomputable def It.d:It->D
 | .df nm ps o b=>.tup [.str "def",nm,ps,o,b.d]
 | .hd nm cs e=>.tup [.str "handler",nm,.tup (cs.map clD),.tup [.str "x",.str "y",e.d]]
noncomputable def It.bods:It->List G
 | .df _ _ _ b=>[b]
 | .hd _ cs e=>cs.map (·.2)++[e]
noncomputable def It.heads:It->List Str
 | .df _ _ _ _=>[]
 | .hd _ cs _=>cs.map (·.1)
theorem jj:PyData.strOk "def"=true:=by decide +kernel
theorem jg:PyData.strOk "handler"=true:=by decide +kernel
theorem qC:PyData.strOk "do"=true:=by decide +kernel
theorem zM (φ:α->D)(st:stay c h)(g:α->Option D):∀ (xs:List α) (acc:181),(∀ x∈xs,f (φ x) h=.ok (g x) h)->jV c f (xs.map φ) acc h=.ok (acc++xs.filterMap g) h
 | [],acc,_=>by simp [jV,st]
 | x::r,acc,e=>by
  have e1:=e x (Y04 ..);have ih:=zM φ st g r (z01 acc (g x)) λ y hy=>e y (Y02 _ hy);rw [Y0a];unfold jV;rw [if_pos st,e1,bind_ok,ih,Y1l];cases g x<;>simp
theorem jb (f:α->β)(l:List α):l.filterMap (λ x=>some (f x))=l.map f:=by
 induction l with
 | nil=>rfl
 | cons x r ih=>rw [Y1l,Y0a,ih]
theorem OI (hi:it.ev cl ρ h=.ok q h')(hl:q.2.length<=1000000)(hc:192):E.ev cl (.tupL (.comp elt tg it ct ns cap sc p) p1 p2) ρ h=.ok 241 h2:=bnd (bnd hi ((if_pos hl).trans hc)) rfl
theorem z0w (cl:126)(it:It)(h:Hh)(hn:it.bods.length<=1000000):d_bodies_of.run cl [it.d] h=.ok (.tup (it.bods.map G.d)) h:=by
 cases it with
 | df nm ps o b=>exact zg (jd (zm 129 rfl (eqS jj jj)) (zo (bnd (bnd 129 rfl) rfl)))
 | hd nm cs e =>
  have hl:cs.length+1<=1000000:=by simpa [It.bods] using hn
  have key:=zM clD (f:=j1 JF (jz [none] [some (It.hd nm cs e).d]) (λ ρ' h2=>c_bodies_of_1.evC cl ρ' h2) (λ ρ' h2=>e_bodies_of_1.ev cl ρ' h2)) (h:=h) ze (λ x=>some x.2.d) cs [] (λ x _=>ja rfl rfl 129);rw [jb,Y0n] at key;refine zg (zv (zm 129 rfl ((eqS jg jj).trans (by rfl))) (zo (bnd (OI (bnd 129 rfl) 154 key) (bnd (bnd (bnd (bnd 129 133) rfl) rfl) ?_))));show (if _ then _ else _)=_;rw [if_pos 154];simp [It.bods]
def Wp (cl:126)(i:Nat):Prop:=∀ (it:It) h,it.bods.length<=1000000->cl i [it.d] h=.ok (.tup (it.bods.map G.d)) h
def dd1:G->Option Str
 | .nd (.doo d) _=>some d
 | _=>none
def gdd (g:G):List Str:=(pre g).filterMap dd1
noncomputable def It.dds (it:It):List Str:=it.heads++it.bods.flatMap gdd
theorem G0 (g:G):(gdd g).length<=g.size:=by
 unfold gdd;exact Y0y (List.length_filterMap_le _ _) (Y41 (Qu g))
theorem zc4 (k:Kd)(ps:260)(h:Hh):(jv .Eq (.str k.tag) (.str "do") h)=.ok (.bl (dd1 (.nd k ps)).isSome) h:=by
 rw [eqS (j7 k) qC];cases k<;>rfl
theorem ze4 (cl:126)(g:G)(h:Hh):j1 yc [none] (λ ρ' h2=>c_deeds_of_3.evC cl ρ' h2) (λ ρ' h2=>e_deeds_of_3.ev cl ρ' h2) g.d h=.ok ((dd1 g).map D.str) h:=by
 obtain ⟨k,ps⟩:=g;have e0:=J3 k 240 h;have e1:=zc4 k ps h;rw [G.d];cases hk:dd1 (.nd k ps) with
 | none =>
  rw [hk] at e1;show (match jm yc (k.enc 240) [none] with | some ρ'=>(c_deeds_of_3.evC cl ρ' h).bind λ b h1=>if b then (e_deeds_of_3.ev cl ρ' h1).bind λ d h2=>.ok (some d) h2 else .ok none h1 | none=>.no)=_
  exact bnd (bnd (bnd 208 (bnd rfl e1)) rfl) rfl
 | some d =>
  rw [hk] at e1;cases k with
  | doo d' =>
   cases hk;exact ja rfl (bnd (bnd 208 (bnd rfl e1)) rfl) (bnd rfl (bnd rfl (by rw [Kd.enc,sub_tup,wj 127];rfl)))
  | _=>cases hk
theorem Wq (ho:o.ev cl ρ h0=.ok 151 h)(g0:∃ l,h[n]?=some (.lst l))(ha:a.ev cl ρ h=.ok (.loc m) h1)(g1:h1[n]?=some 195)(g2:h1[m]?=some (.lst ys))(hl:xs.length+ys.length<=1000000) :
  E.ev cl (.m1 .extend o a p1 p) ρ h0=.ok .non (h1.set n (.lst (xs++ys))):=by
 obtain ⟨l,g0⟩:=g0;refine bnd ho ?_;show onL 151 h _=_;rw [z0r g0];refine bnd ha ?_;show m1D .extend 151 (.loc m) h1=_;unfold m1D;dsimp only;rw [g1];dsimp only;rw [g2];exact if_pos hl
theorem g_0 (h:Hh)(o:O)(J:Hh):(h++o::J)[h.length]?=some o:=by rw [hx0];rfl
theorem s_0 (h:Hh)(o o':O)(J:Hh):(h++o::J).set h.length o'=h++o'::J:=by rw [z0p];rfl
theorem z0x (cl:126)(W:wF cl 1)(g:G)(h:Hh)(F:XQ)(J:Hh)(a b:168)(hs:g.size<=100000)(hF:F.length<=100000) :
  ∃ J',b_deeds_of_2.run cl [a,some 136,b,some g.d] (h++.lst (F.map .str)::J)=.nx [a,some 136,b,some g.d] (h++.lst ((F++gdd g).map .str)::J'):=by
 have c:=W g (h++.lst (F.map .str)::J) 128;have l1:(G.ds (pre g)).length<=1000000:=by rw [Qf,Qu];omega
 have lg:=G0 g;generalize hh1:(h++O.lst (F.map .str)::J)++[.lst (G.ds (pre g)),.lst []]=h1 at c;have r1:rd h1 (h++O.lst (F.map .str)::J).length=some (G.ds (pre g)):=by rw [<- hh1,ze3];rfl
 have r2:h1[h.length]?=some (.lst (F.map .str)):=by rw [<- hh1];exact Qc (g_0 _ _ _)
 have key:=zM G.d (stay_one.mpr r1) (λ x=>(dd1 x).map D.str) (pre g) [] (λ x _=>ze4 cl x h1);rw [Y0n,<- List.map_filterMap,<- ds_map] at key;refine ⟨J++[.lst (G.ds (pre g)),.lst []]++[.lst ((gdd g).map .str)],J2 (Wq rfl ⟨_,g_0 _ _ _⟩ (zO (z58 (bnd rfl (bnd rfl c)) r1) l1 key) (Qc r2) (by rw [hx0];rfl) (by unfold gdd at lg;simp only [Y07];omega)) ?_⟩;rw [<- hh1];show RS.nx _ _=_;simp only [Y0i,Y2i,Y0o];rw [s_0];rfl
theorem Wr (cl:126)(W:wF cl 1)(h:Hh)(a b:168):∀ (gs:260) (F:XQ) (J:Hh) (c:168),(∀ g∈gs,g.size<=1000)->F.length+(gs.flatMap gdd).length<=100000 ->
  ∃ c' J',zu [] (zH Qq λ ρ' h'=>b_deeds_of_2.run cl ρ' h') (gs.map G.d) [a,some 136,b,c] (h++.lst (F.map .str)::J)=.nx [a,some 136,b,c'] (h++.lst ((F++gs.flatMap gdd).map .str)::J')
 | [],F,J,c,_,_=>⟨c,J,by rw [Y0u,zu,if_pos ze];simp⟩
 | g::gs,F,J,c,hs,hF=>by
  rw [Y1c,Y05] at hF;obtain ⟨J1,e1⟩:=z0x cl W g h F J a b (by have:=hs g (Y04 ..);omega) 128;obtain ⟨c',J',e2⟩:=Wr cl W h a b gs (F++gdd g) J1 (some g.d) (λ x hx=>hs x (Y02 _ hx)) (by rw [Y05];omega);refine ⟨c',J',ju ze e1 (e2.trans ?_)⟩;rw [Y1c,Y0i]
structure It.Ok (it:It):Prop where
 sz:∀ g∈it.bods,g.size<=1000
 nb:it.bods.length<=1000
theorem z0y (cl:126)(W:wF cl 1)(B:Wp cl 2)(it:It)(h:Hh)(F:XQ)(J:Hh)(a c:168)(ok:it.Ok)(hF:F.length+it.dds.length<=100000) :
  ∃ c' J',b_deeds_of_1.run cl [a,some 136,some it.d,c] (h++.lst (F.map .str)::J)=.nx [a,some 136,some it.d,c'] (h++.lst ((F++it.dds).map .str)::J'):=by
 have nb:=ok.nb;unfold It.dds at hF ⊢;rw [Y05] at hF;have tl:∀ (J:Hh),∃ c' J',Ss.run cl (jC 1 b_deeds_of_1) [a,some 136,some it.d,c] (h++.lst ((F++it.heads).map .str)::J)=.nx [a,some 136,some it.d,c'] (h++.lst ((F++(it.heads++it.bods.flatMap gdd)).map .str)::J'):=by
  intro J;obtain ⟨c',J',e⟩:=Wr cl W h a (some it.d) it.bods (F++it.heads) J c ok.sz (by rw [Y05];omega);refine ⟨c',J',zT (bnd (bnd rfl (bnd rfl (B it _ 128))) rfl) e ?_⟩;rw [<- Y0i];rfl
 cases it with
 | df nm ps o b =>
  obtain ⟨c',J',e⟩:=tl J;refine ⟨c',J',zv 252 ?_⟩;rw [show (F++(It.df nm ps o b).heads)=F from Y0v _] at e;exact e
 | hd nm cs g =>
  obtain ⟨c',J',e⟩:=tl (J++[.lst (((It.hd nm cs g).heads).map .str)]);have hl0:cs.length+1<=1000:=by simpa [It.bods] using nb
  have hl:cs.length<=1000:=by omega
  have key:=zM clD (f:=j1 Qr [none] (λ ρ' h2=>c_deeds_of_4.evC cl ρ' h2) (λ ρ' h2=>e_deeds_of_4.ev cl ρ' h2)) (h:=h++.lst (F.map .str)::J) ze (λ x=>some (.str x.1)) cs [] (λ x _=>ja rfl rfl 129);rw [jb,Y0n] at key;have hl2:(It.hd nm cs g).heads.length=cs.length:=by simp [It.heads]
  refine ⟨c',J',wm (zm 129 rfl (eqS jg jg)) (J2 (Wq rfl ⟨_,g_0 _ _ _⟩ (zO (bnd 129 rfl) 154 key) (Qc (g_0 _ _ _)) (by rw [hx0];rfl) 154) rfl) ?_⟩;rw [<- e]
  congr 1
  rw [Y0i,Y2i,s_0];simp [It.heads]
theorem Jg (cl:126)(W:wF cl 1)(B:Wp cl 2)(h:Hh)(a:168):∀ (its:List It) (F:XQ) (J:Hh) (b c:168),(∀ it∈its,it.Ok)->F.length+(its.flatMap It.dds).length<=100000 ->
  ∃ b' c' J',zu [] (zH Qm λ ρ' h'=>b_deeds_of_1.run cl ρ' h') (its.map It.d) [a,some 136,b,c] (h++.lst (F.map .str)::J)=.nx [a,some 136,b',c'] (h++.lst ((F++its.flatMap It.dds).map .str)::J')
 | [],F,J,b,c,_,_=>⟨b,c,J,by rw [Y0u,zu,if_pos ze];simp⟩
 | it::its,F,J,b,c,hs,hF=>by
  rw [Y1c,Y05] at hF;obtain ⟨c1,J1,e1⟩:=z0y cl W B it h F J a c (hs it (Y04 ..)) 128;obtain ⟨b',c',J',e2⟩:=Jg cl W B h a its (F++it.dds) J1 (some it.d) c1 (λ x hx=>hs x (Y02 _ hx)) (by rw [Y05];omega);refine ⟨b',c',J',ju ze e1 (e2.trans ?_)⟩;rw [Y1c,Y0i]
theorem z93 (he:e.ev cl ρ h=.ok 151 h')(hr:h'[n]?=some (.lst (F.map .str)))(hl:F.length<=4000)(h64:(jO F).length<64) :
  E.ev cl (.sset e p0 p1 p2 p) ρ h=.ok (.loc h'.length) (h'++[.lst ((jO F).map .str)]):=bnd he (by
 show ssD 151 h'=_;unfold ssD;dsimp only;rw [Vy hr];dsimp only;rw [Yx];exact if_pos ⟨hl,h64⟩)
theorem z5b (cl:126)(W:wF cl 1)(B:Wp cl 2)(its:List It)(h:Hh)(ok:∀ it∈its,it.Ok)(hF:(its.flatMap It.dds).length<=4000)(h64:(jO (its.flatMap It.dds)).length<64) :
  ∃ J,d_deeds_of.run cl [.tup (its.map It.d)] h=.ok (.loc (h++J).length) (h++J++[.lst ((jO (its.flatMap It.dds)).map .str)]):=by
 obtain ⟨b',c',J',e⟩:=Jg cl W B h (some (.tup (its.map It.d))) its [] [] none none ok (by rw [Y3o];omega);refine ⟨.lst ((its.flatMap It.dds).map .str)::J',zg (zf rfl (zT 133 e (zo (z93 rfl (g_0 _ _ _) hF h64))))⟩
def txs (xs:XQ):List D:=xs.map .str
@[simp] theorem txs_len (xs:XQ):(txs xs).length=xs.length:=by simp [txs]
theorem YF {h:Hh}(e:h[n]?=some o):h.set n o=h:=by
 apply List.ext_getElem?;intro i;by_cases hi:n=i
 ·subst hi
  have:=(Y00.mp e).1
  rw [Y1i this,e]
 ·rw [Y13 hi]
theorem zN (e:h[n]?=some 195):rd h n=some xs:=by unfold rd;rw [e]
theorem z0z (hn:n≠m):rd (h.set m o) n=rd h n:=by unfold rd;rw [Y13 (Ne.symm hn)]
theorem stay1:stay [(n,ds)] h ↔ rd h n=some ds:=by
 unfold stay;simp
theorem zc5 (x:Int):Builtin.bitAnd x 1=x%2:=by
 have:=PySem.W.kbt_mask x 1
 simpa using this
def zI:Int->List Str->List Str
 | _,[]=>[]
 | L,x::r=>if L%2=1 then x::zI (L/2) r else zI (L/2) r
theorem OJ (cl:126)(R:D)(nd nf:Nat)(L:Int)(d:Str)(x:168)(h:Hh)(acc:XQ)(h3:h[nf]?=some (.lst (txs acc)))(hl:acc.length<1000000) :
  zH YB (λ ρ' h'=>b_told_1.run cl ρ' h') 184 [some R,some 161,some (.loc nf),some (.int L),x] h=.nx [some R,some 161,some (.loc nf),some (.int (L/2)),some 184] (if L%2=1 then h.set nf (.lst (txs acc++[.str d])) else h):=by
 show Ss.run cl (.cons (.iff (.cmp .Eq (.bin .BitAnd (.var 3 _) (.int 1 _) _) (.int 1 _) _) (.cons (.ex (.m1 .append (.var 2 _) (.var 4 _) _ _) _) .nil) .nil _) (.cons (.set 3 (.bin .RShift (.var 3 _) (.int 1 _) _) _ _) .nil)) [some R,some 161,some (.loc nf),some (.int L),some 184] h=_;by_cases c:L%2=1
 ·simp [txs,jX,JE,OF,zbu,yex,zbr,z57,qJ,z56,vm1,E.evT,onL,m1D,zc5,c,PyData.canLay0,PyData.depth,PyData.eqv,hl] at h3 ⊢;simp [h3,hl]
 ·simp [txs,jX,JE,OF,zbu,yex,zbr,z57,qJ,z56,vm1,E.evT,onL,m1D,zc5,c,PyData.canLay0,PyData.depth,PyData.eqv,hl] at h3 ⊢
theorem yH (cl:126)(nd nf:Nat)(R:D)(all:181):∀ (rest acc:XQ) (L:Int) (x:168) (h:Hh),rd h nd=some all->nd≠nf->h[nf]?=some (.lst (txs acc))->acc.length+rest.length<=1000 ->
  ∃ x',zu [(nd,all)] (zH YB λ ρ' h'=>b_told_1.run cl ρ' h') (txs rest) [some R,some 161,some (.loc nf),some (.int L),x] h =
   .nx [some R,some 161,some (.loc nf),some (.int (L/2 ^ rest.length)),x'] (h.set nf (.lst (txs (acc++zI L rest))))
 | [],acc,L,x,h,h1,h2,h3,h4=>by
  refine ⟨x,?_⟩;have st:stay [(nd,all)] h:=stay1.mpr h1;simp [txs,zu,st,zI] at h3 ⊢;exact (YF h3).symm
 | d::rest,acc,L,x,h,h1,h2,h3,h4=>by
  have st:=stay1.mpr h1;have hl:acc.length<1000000:=by simp at h4;omega
  have hn:=(Y00.mp h3).1;have sp:=OJ cl R nd nf L d x h acc h3 hl;have e1:L/2/2 ^ rest.length=L/2 ^ (rest.length+1):=by rw [Int.ediv_ediv_of_nonneg 127,Y28,Y42]
  by_cases c:L%2=1
  ·obtain ⟨x',ih⟩:=yH cl nd nf R all rest (acc++[d]) (L/2) (some 184) (h.set nf (.lst (txs (acc++[d])))) (by rw [z0z h2];exact h1) h2 (by rw [Y1i hn]) (by simp at h4 ⊢;omega);refine ⟨x',?_⟩;rw [List.set_set,e1] at ih;have e2:acc++zI L (d::rest)=acc++[d]++zI (L/2) rest:=by simp [zI,c]
   rw [e2,Y09,<- ih];have e3:txs (acc++[d])=txs acc++[.str d]:=by simp [txs]
   rw [e3];show zu _ _ (.str d::txs rest) _ _=_;rw [zu,if_pos st,sp,if_pos c]
  ·obtain ⟨x',ih⟩:=yH cl nd nf R all rest acc (L/2) (some 184) h h1 h2 h3 (by simp at h4 ⊢;omega);refine ⟨x',?_⟩;rw [e1] at ih;have e2:acc++zI L (d::rest)=acc++zI (L/2) rest:=by simp [zI,c]
   rw [e2,Y09,<- ih];show zu _ _ (.str d::txs rest) _ _=_;rw [zu,if_pos st,sp,if_neg c]
theorem zc (h:Hh)(o:O):(h++[o])[h.length]?=some o:=by rw [Y0q 175,Y1z];rfl
theorem UU {n:Nat}(e:h[n]?=some u):(h++[o])[n]?=some u:=by rw [Y10 (Y00.mp e).1];exact e
theorem Qw (h:Hh)(o u:O):(h++[o]).set h.length u=h++[u]:=by
 rw [Y3n _ _ 175,Y1z];rfl
theorem jZ (he:199)(g:h1[n]?=some 195):(I.seq e).ev cl ρ h=.ok ([(n,xs)],xs) h1:=by
 rw [ze1,he];simp [zN g]
theorem z94 (cl:126)(h:Hh)(nd:Nat)(R:Int)(ds:XQ)(e:h[nd]?=some 149)(hl:ds.length<=1000) :
  d_told.run cl [.int R,.loc nd] h=.ok 136 (h++[.lst (txs (zI R ds))]):=by
 have hn:=(Y00.mp e).1;have e0:=UU (o:=.lst []) e;obtain ⟨x',lp⟩:=yH cl nd h.length (.int R) (txs ds) ds [] R none (h++[.lst []]) (zN e0) 128 188 (by simpa using hl);rw [Qw] at lp;exact zg (zf rfl (zf rfl (zT (q:=([(nd,txs ds)],txs ds)) (jZ rfl e0) lp 285)))
theorem z10 (j:Nat)(h:j<=1000):fits (2 ^ j)=true:=by
 unfold fits Builtin.Int.intBits;have e:((2:Int) ^ j).natAbs=2 ^ j:=by
  rw [Int.natAbs_pow];rfl
 rw [if_neg (by have:=KB.pw_pos j;simp;omega),e,Nat.log2_two_pow];exact decide_eq_true 128
noncomputable def zw:Nat->List Str->List (Key×D)
 | _,[]=>[]
 | j,x::r=>(.inr x,.int (2 ^ j))::zw (j+1) r
theorem Qx {k:Key}(h:∀ p∈kvs,p.1≠k):qY kvs k v=kvs++[(k,v)]:=by
 unfold qY;rw [if_neg];rw [Bool.not_eq_true,Y3c];exact λ p hp=>by simpa using h p hp
theorem OK (cl:126)(nd nb j:Nat)(d:Str)(x:168)(h:Hh)(kvs:157)(h3:h[nb]?=some 177)(hl:kvs.length<1000000)(hj:j<=1000)(hp:qY kvs (.inr d) (.int (2 ^ j))=kvs++[(.inr d,.int (2 ^ j))]) :
  zH wE (λ ρ' h'=>b_bits_by_deed_1.run cl ρ' h') 184 [some 161,some 234,some (.int (2 ^ j)),x] h=.nx [some 161,some 234,some (.int (2 ^ (j+1))),some 184] (h.set nb (.dK (kvs++[(.inr d,.int (2 ^ j))]))):=by
 have hf:=z10 j hj;have e3:(2:Int) ^ j*2=2 ^ (j+1):=by rw [Y28]
 show Ss.run cl (.cons (.put (.var 1 _) (.var 3 _) (.var 2 _) _ _) (.cons (.set 2 (.bin .LShift (.var 2 _) (.int 1 _) _) _ _) .nil)) [some 161,some 234,some (.int (2 ^ j)),some 184] h=_;simp [jX,JE,OF,zbv,z57,qJ,z56,ZM,jG,h3,hl,hp,hf,e3]
theorem Ws (cl:126)(nd nb:Nat)(all:181):∀ (rest:XQ) (kvs:157) (j:Nat) (x:168) (h:Hh),rd h nd=some all->nd≠nb->h[nb]?=some 177->kvs.length+rest.length<=1000->j+rest.length<=1000 ->
  (∀ y∈rest,∀ p∈kvs,p.1≠.inr y)->rest.Nodup ->
  ∃ x',zu [(nd,all)] (zH wE λ ρ' h'=>b_bits_by_deed_1.run cl ρ' h') (txs rest) [some 161,some 234,some (.int (2 ^ j)),x] h =
   .nx [some 161,some 234,some (.int (2 ^ (j+rest.length))),x'] (h.set nb (.dK (kvs++zw j rest)))
 | [],kvs,j,x,h,h1,h2,h3,h4,h5,h6,h7=>by
  refine ⟨x,?_⟩;have st:=stay1.mpr h1;simp [txs,zu,st,zw];exact (YF h3).symm
 | d::rest,kvs,j,x,h,h1,h2,h3,h4,h5,h6,h7=>by
  have st:=stay1.mpr h1;have hl:kvs.length<1000000:=by simp at h4;omega
  have hn:nb<h.length:=(Y00.mp h3).1;have hp:qY kvs (.inr d) (.int (2 ^ j))=kvs++[(.inr d,.int (2 ^ j))]:=Qx λ p hp=>h6 d (Y04 ..) p hp;have sp:=OK cl nd nb j d x h kvs h3 hl (by simp at h5;omega) hp;obtain ⟨h71,h72⟩:=Y12.mp h7;obtain ⟨x',ih⟩:=Ws cl nd nb all rest (kvs++[(.inr d,.int (2 ^ j))]) (j+1) (some 184) (h.set nb (.dK (kvs++[(.inr d,.int (2 ^ j))]))) (by rw [z0z h2];exact h1) h2 (by rw [Y1i hn]) (by simp at h4 ⊢;omega) (by simp at h5 ⊢;omega)
   (λ y hy p hp'=>by
    rcases Y0j.mp hp' with z | z
    ·exact h6 y (Y02 _ hy) p z
    ·rw [Y0d.mp z];intro q
     have:d=y:=Key.inr.inj q
     exact h71 (this▸hy)) h72
  refine ⟨x',?_⟩;have e1:(2:Int) ^ (j+1+rest.length)=2 ^ (j+(rest.length+1)):=by congr 1;omega
  rw [List.set_set,e1] at ih;have e2:kvs++zw j (d::rest)=kvs++[(.inr d,.int (2 ^ j))]++zw (j+1) rest:=by simp [zw]
  rw [e2,Y09,<- ih];show zu _ _ (.str d::txs rest) _ _=_;rw [zu,if_pos st,sp]
theorem z95 (cl:126)(h:Hh)(nd:Nat)(ds:XQ)(e:h[nd]?=some 149)(hl:ds.length<=1000)(nd':ds.Nodup) :
  d_bits_by_deed.run cl [.loc nd] h=.ok 136 (h++[.dK (zw 0 ds)]):=by
 have hn:=(Y00.mp e).1;have e0:=UU (o:=.dK []) e;obtain ⟨x',lp⟩:=Ws cl nd h.length (txs ds) ds [] 0 none (h++[.dK []]) (zN e0) 128 188 (by simpa using hl) (by simpa using hl) (λ _ _ p hp=>absurd hp 130) nd';rw [Qw] at lp;simp at lp;exact zg (zf rfl (zf rfl (zT (jZ rfl e0) lp 285)))
theorem z11 (cl:126)(ns nd nb:Nat)(acc:Int)(d:Str)(x:168)(h:Hh)(kvs:157)(f:Int)(h3:h[nb]?=some 177)(hv:zK kvs (.inr d)=some (.int f)) :
  zH J6 (λ ρ' h'=>b_row_by_1.run cl ρ' h') 184 [some (.loc ns),some 161,some 234,some (.int acc),x] h=.nx [some (.loc ns),some 161,some 234,some (.int (Builtin.bitOr acc f)),some 184] h:=by
 show Ss.run cl (.cons (.set 3 (.bin .BitOr (.var 3 _) (.sub (.var 2 _) (.var 4 _) _) _) _ _) .nil) [some (.loc ns),some 161,some 234,some (.int acc),some 184] h=_;simp [jX,JE,OF,z57,qJ,ze0,VI,jc,jG,h3,hv]
theorem YG (cl:126)(ns nd nb:Nat)(all:181)(kvs:157)(f:XY):∀ (rest:XQ) (acc:Int) (x:168) (h:Hh),rd h ns=some all->h[nb]?=some 177->(∀ y∈rest,zK kvs (.inr y)=some (.int (f y))) ->
  ∃ x',zu [(ns,all)] (zH J6 λ ρ' h'=>b_row_by_1.run cl ρ' h') (txs rest) [some (.loc ns),some 161,some 234,some (.int acc),x] h =
   .nx [some (.loc ns),some 161,some 234,some (.int (rest.foldl (λ a y=>Builtin.bitOr a (f y)) acc)),x'] h
 | [],acc,x,h,h1,h3,h6=>by
  refine ⟨x,?_⟩;have st:=stay1.mpr h1;simp [txs,zu,st]
 | d::rest,acc,x,h,h1,h3,h6=>by
  have st:=stay1.mpr h1;obtain ⟨x',ih⟩:=YG cl ns nd nb all kvs f rest (Builtin.bitOr acc (f d)) (some 184) h h1 h3 (λ y hy=>h6 y (Y02 _ hy));refine ⟨x',?_⟩;rw [Y1g,<- ih];show zu _ _ (.str d::txs rest) _ _=_;rw [zu,if_pos st,z11 cl ns nd nb acc d x h kvs (f d) h3 (h6 d (Y04 ..))]
theorem z12 (cl:126)(h:Hh)(nm nd:Nat)(xs ds:XQ)(f:XY)(em:h[nm]?=some (.lst (txs xs)))(hb:cl 5 [.loc nd] h=.ok 136 (h++[.dK (zw 0 ds)]))(hf:∀ y∈xs,zK (zw 0 ds) (.inr y)=some (.int (f y))) :
  d_row_by.run cl [.loc nm,.loc nd] h=.ok (.int (xs.foldl (λ a y=>Builtin.bitOr a (f y)) 0)) (h++[.dK (zw 0 ds)]):=by
 have e0:=UU (o:=.dK (zw 0 ds)) em;obtain ⟨x',lp⟩:=YG cl nm nd h.length (txs xs) (zw 0 ds) f xs 0 none _ (zN e0) 188 hf;exact zg (zf (bnd rfl (bnd rfl hb)) (zf rfl (zT (jZ rfl e0) lp 285)))
noncomputable def lsI (x y:Int):Int:=Builtin.bitAnd x (Builtin.bitNot y)
noncomputable def opI (x y:Int):D:=.tup [.int x,.int (lsI y x)]
theorem z96 (cl:126)(h:Hh)(x y:Int):d_less.run cl [.int x,.int y] h=.ok (.int (lsI x y)) h:=zg 285
theorem z13 (cl:126)(h:Hh)(x y:Int)(hl:∀ x y,cl 8 [.int x,.int y] h=.ok (.int (lsI x y)) h):d_opened.run cl [.int x,.int y] h=.ok (opI x y) h :=
 zg (zo (bnd (bnd rfl (bnd (bnd (bnd rfl (bnd 133 (hl y x))) rfl) rfl)) rfl))
theorem z14 (cl:126)(h:Hh)(a b r:Int):d_filled.run cl [.tup [.int a,.int b],.int r] h=.ok (.int (Builtin.bitOr a (Builtin.bitAnd b r))) h:=zg 285
theorem z15 (cl:126)(h:Hh)(a b x y:Int)(ho:∀ x y,cl 9 [.int x,.int y] h=.ok (opI x y) h):d_joined.run cl [.tup [.int a,.int b],.tup [.int x,.int y]] h=.ok (opI (Builtin.bitOr a x) (Builtin.bitOr b y)) h :=
 zg (zo (bnd rfl (bnd 133 (ho _ _))))
theorem OL (cl:126)(h:Hh)(a b r:Int)(hl:∀ x y,cl 8 [.int x,.int y] h=.ok (.int (lsI x y)) h)(ho:∀ x y,cl 9 [.int x,.int y] h=.ok (opI x y) h):d_without.run cl [.tup [.int a,.int b],.int r] h=.ok (opI (lsI a r) (lsI b r)) h :=
 zg (zo (bnd (bnd rfl (bnd 133 (hl _ _))) (bnd (bnd (bnd rfl (bnd 133 (hl _ _))) rfl) (ho _ _))))
theorem zO (hi:it.ev cl ρ h=.ok q h')(hl:q.2.length<=1000000)(hc:192):E.ev cl (.ofL (.comp elt tg it ct ns cap sc p)) ρ h=.ok (.loc h2.length) (h2++[.lst xs]):=bnd (bnd hi ((if_pos hl).trans hc)) rfl
section
variable {cl:126}{ρ:En}{h h1 h2:Hh}{e:E}{r es:Es}{x:D}{xs:181}{p p1:Pos}
theorem cns (he:e.ev cl ρ h=.ok x h1)(hr:r.ev cl ρ h1=.ok xs h2):Es.ev cl (.cons e r) ρ h=.ok (x::xs) h2:=bnd he (bnd hr rfl)
theorem we (he:es.ev cl ρ h=.ok xs h1)(hl:xs.length<=1000):E.ev cl (.tup es p) ρ h=.ok 241 h1:=bnd he (if_pos hl)
theorem z16 (he:es.ev cl ρ h=.ok xs h1)(hl:xs.length<=1000):E.ev cl (.ofL (.disp es p)) ρ h=.ok (.loc h1.length) (h1++[O.lst xs]):=bnd (bnd he (if_pos hl)) rfl
end
abbrev Pa:=G×Int
def pD (p:Pa):D:=.tup [p.1.d,.int p.2]
def _root_.PI.Kd.hnd:Kd->Option Str
 | .handle x=>some x
 | _=>none
def OM (cr:XY)(k:Kd)(a:Int)(n:Nat):List Int:=match k with
 | .handle x=>[a,Builtin.bitOr a (cr x)]
 | _=>List.replicate n a
def chI (cr:XY)(k:Kd)(ps:260)(a:Int):List Pa:=ps.zip (OM cr k a ps.length)
theorem yI:PyData.strOk "handle"=true:=by decide +kernel
theorem G1 (k:Kd):(k.tag==("handle":Str))=k.hnd.isSome:=by cases k<;>rfl
theorem ds_map:∀ gs:List G,G.ds gs=gs.map G.d
 | []=>by rw [G.ds];rfl
 | g::r=>by rw [G.ds,ds_map r];rfl
theorem z17 (cr:XY)(k:Kd)(hk:k.hnd=none)(ps:260)(a:Int):chI cr k ps a=ps.map λ g=>(g,a):=by
 have e:OM cr k a ps.length=List.replicate ps.length a:=by cases k<;>first | rfl | cases hk
 unfold chI;rw [e]
 induction ps with
 | nil=>rfl
 | cons g r ih=>rw [Y09,Y14,List.zip_cons_cons,ih (by cases k<;>first | rfl | cases hk)];rfl
def Cr (h:Hh)(nc:Nat)(cr:XY)(ns:XQ):Prop:=∃ kvs,h[nc]?=some 177/\∀ x∈ns,zK kvs (.inr x)=some (.int (cr x))
theorem Jh (g:h[n]?=some 177)(v:zK kvs (.inr x)=some d):jc 151 172 h=.ok d h:=by
 simp [jc,g,jG,v]
theorem z5c (cl:126)(C:Zm cl 0)(k:Kd)(ps:260)(a:Int)(h:Hh)(nc:Nat)(cr:XY)(ns:XQ)(hc:Cr h nc cr ns)(ok:k.hnd=none\/ps.length=2)(hk:∀ x,k.hnd=some x->x∈ns)(hl:ps.length<=1000000) :
  d_inner.run cl [(G.nd k ps).d,.int a,.loc nc] h=.ok 136 (h++[.lst ((chI cr k ps a).map pD)]):=by
 have e0:=J3 k 240 h;have e1:=eqS (h:=h) (j7 k) yI;rw [G1] at e1;rw [G.d];cases q:k.hnd with
 | none =>
  rw [q] at e1;have key:=zM (λ g:G=>g.d) (f:=j1 OH (jz [none,some 1] [some (k.enc 240),some (.int a),some 253]) (λ ρ' h2=>c_inner_1.evC cl ρ' h2) (λ ρ' h2=>e_inner_1.ev cl ρ' h2)) (h:=h) ze (λ g=>some (pD (g,a))) ps [] (λ g _=>rfl);rw [jb,Y0n] at key;rw [z17 cr k q,Y0m];have cc:cl 0 [k.enc 240] h=.ok (.tup 240) h:=by have:=C k ps h;rw [G.d] at this;exact this
  refine zg (zv (zm 208 rfl e1) (zo (zO (bnd (bnd rfl (bnd rfl cc)) rfl) (by rw [ds_map,Y07];exact hl) (by rw [ds_map];exact key))))
 | some x =>
  rw [q] at e1;have hk':k=.handle x:=by cases k<;>first | (cases q;rfl) | cases q
  subst hk';obtain ⟨kvs,g,v⟩:=hc;have hp:=ok.resolve_left λ z=>by rw [q] at z;cases z
  match ps,hp with
  | [t2,t3],_ =>
   have v':=Jh g (v x (hk x rfl));exact zg (jd (zm 208 rfl e1) (zo (z16 (cns (we (cns 129 141) (show 2<=1000 by decide)) (cns (we (cns 129 (cns (bnd rfl (bnd (bnd rfl (bnd 129 v')) rfl)) rfl)) (show 2<=1000 by decide)) rfl)) (show 2<=1000 by decide))))
section
variable (cr:XY)
mutual
def wk:G->Int->List Pa
 | .nd k ps,a=>185::wks ps (OM cr k a ps.length)
def wks:List G->List Int->List Pa
 | [],_=>[]
 | _::_,[]=>[]
 | g::r,x::xs=>wks r xs++wk g x
end
def wkW:List Pa->List Pa
 | []=>[]
 | p::r=>wkW r++wk cr p.1 p.2
theorem G2:∀ (gs:260) (as:179),wks cr gs as=wkW cr (gs.zip as)
 | [],_=>by rw [wks];rfl
 | _::_,[]=>by rw [wks];rfl
 | g::r,x::xs=>by rw [wks,G2 r xs];rfl
theorem z6r (k:Kd)(ps:260)(a:Int):wk cr (.nd k ps) a=185::wkW cr (chI cr k ps a):=by rw [wk,G2];rfl
theorem Qy:∀ (A B:List Pa),wkW cr (A++B)=wkW cr B++wkW cr A
 | [],B=>by simp [wkW]
 | p::A,B=>by rw [Y2i,wkW,Qy A B,wkW,Y0i]
theorem z18 (W:List Pa)(k:Kd)(ps:260)(a:Int):wkW cr (W++[185])=185::wkW cr (W++chI cr k ps a):=by
 rw [Qy,Qy,wkW,wkW,Y0n,z6r];rfl
end
noncomputable def yd (f:XY)(x:Int)(p:Pa):Int:=match p.1 with
 | .nd (.doo d) _=>Builtin.bitOr x (lsI (f d) p.2)
 | _=>x
noncomputable def wf (p:Pa):Bool:=match p.1 with
 | .nd (.call _ _) _=>true
 | .nd (.handle _) _=>true
 | _=>false
structure Pl (nc nb no nu nw:Nat):Prop where
 ou:no≠nu
 ow:no≠nw
 uw:nu≠nw
 bo:nb≠no
 bu:nb≠nu
 bw:nb≠nw
 co:nc≠no
 cu:nc≠nu
 cw:nc≠nw
def ob (bl:D)(x:Int)(nu:Nat):O:=.obj "Rest" [("block",bl),("done",.int x),("uses",.loc nu)]
structure St (nc nb no nu nw:Nat)(bl:D)(bits:157)(cr:XY)(ns:XQ)(h:Hh)(x:Int)(us W:List Pa):Prop where
 o:h[no]?=some (ob bl x nu)
 u:h[nu]?=some (.lst (us.map pD))
 w:h[nw]?=some (.lst (W.map pD))
 b:h[nb]?=some (.dK bits)
 c:Cr h nc cr ns
def Kx (ms:List Nat)(h h':Hh):Prop:=h.length<=h'.length/\∀ i o,h[i]?=some o->i∉ms->h'[i]?=some o
theorem Kx.refl (ms:List Nat)(h:Hh):Kx ms h h:=⟨Y0b _,λ _ _ e _=>e⟩
theorem Kx.trans {ms:List Nat}(x:Kx ms a b)(y:Kx ms b c):Kx ms a c:=⟨Y0y x.1 y.1,λ i o e n=>y.2 i o (x.2 i o e n) n⟩
theorem Kx.set (h:Hh)(o:O)(hn:n∈ms):Kx ms h (h.set n o):=⟨by rw [Y1f];exact Y0b _,λ i u e z=>by
 have q:n≠i:=λ q=>z (by rw [<- q];exact hn);rw [Y13 q];exact e⟩
theorem Kx.app {ms:List Nat}(h J:Hh):Kx ms h (h++J):=⟨by rw [Y05];omega,λ i u e _=>by rw [Y10 (Y00.mp e).1];exact e⟩
section
variable {nc nb no nu nw:Nat}{bl:D}{bits:157}{cr:XY}{ns:XQ}{h:Hh}{x:Int}{us W:List Pa}
theorem jK {n m:Nat}(e:h[n]?=some u)(z:n≠m):(h.set m o)[n]?=some u:=by rw [Y13 (Ne.symm z)];exact e
theorem w4 {n:Nat}(e:h[n]?=some u):(h.set n o)[n]?=some o:=Y1i (Y00.mp e).1
theorem zn {n:Nat}(e:h[n]?=some u):(h++J)[n]?=some u:=by rw [Y10 (Y00.mp e).1];exact e
theorem Cr.set {m:Nat}(c:Cr h nc cr ns)(z:nc≠m):Cr (h.set m o) nc cr ns:=by obtain ⟨k,e,v⟩:=c;exact ⟨k,jK e z,v⟩
theorem Cr.app {J:Hh}(c:Cr h nc cr ns):Cr (h++J) nc cr ns:=by obtain ⟨k,e,v⟩:=c;exact ⟨k,zn e,v⟩
theorem St.setW (P:Pl nc nb no nu nw)(s:St nc nb no nu nw bl bits cr ns h x us W)(W':List Pa):St nc nb no nu nw bl bits cr ns (h.set nw (.lst (W'.map pD))) x us W':=⟨jK s.o P.ow,jK s.u P.uw,w4 s.w,jK s.b P.bw,s.c.set P.cw⟩
theorem St.setO (P:Pl nc nb no nu nw)(s:St nc nb no nu nw bl bits cr ns h x us W)(y:Int):St nc nb no nu nw bl bits cr ns (h.set no (ob bl y nu)) y us W:=⟨w4 s.o,jK s.u (Ne.symm P.ou),jK s.w (Ne.symm P.ow),jK s.b P.bo,s.c.set P.co⟩
theorem St.setU (P:Pl nc nb no nu nw)(s:St nc nb no nu nw bl bits cr ns h x us W)(vs:List Pa):St nc nb no nu nw bl bits cr ns (h.set nu (.lst (vs.map pD))) x vs W:=⟨jK s.o P.ou,w4 s.u,jK s.w (Ne.symm P.uw),jK s.b P.bu,s.c.set P.cu⟩
theorem St.app (s:St nc nb no nu nw bl bits cr ns h x us W)(J:Hh):St nc nb no nu nw bl bits cr ns (h++J) x us W:=⟨zn s.o,zn s.u,zn s.w,zn s.b,s.c.app⟩
theorem YH {bl:D}(e:h[no]?=some (ob bl x nu)):JC (.loc no) "done" h=.ok 264 h:=by unfold JC;dsimp only;rw [e];rfl
theorem YI {bl:D}(e:h[no]?=some (ob bl x nu)):JC (.loc no) "uses" h=.ok (.loc nu) h:=by unfold JC;dsimp only;rw [e];rfl
theorem z19 {bl:D}(e:h[no]?=some (ob bl x nu))(y:Int):y0 (.loc no) "done" (.int y) h=some (h.set no (ob bl y nu)):=by unfold y0;dsimp only;rw [e];rfl
theorem zc6 {W:List Pa}(e:h[nw]?=some (.lst ((W++[p]).map pD))):m0D .pop (.loc nw) h=.ok (pD p) (h.set nw (.lst (W.map pD))):=by
 unfold m0D;dsimp only;rw [e];simp
theorem BR (k:Kd)(ps:260)(q:ρ[i]?=some (some (G.nd k ps).d)):E.evT cl (.cmp .In (.sub (.var i p) (.int 0 p1) p2) (.tup (.cons (.str "call" p3) (.cons (.str "handle" p4) .nil)) p5) p) ρ h=.ok (wf (.nd k ps,0)) h:=by
 refine zm (bnd (by rw [qJ,q]) (bnd rfl (by rw [G.d];exact J3 k _ h))) (we 169 (show 2<=1000 by decide)) ?_;cases k<;>rfl
def _root_.PI.Kd.isDo:Kd->Bool
 | .doo _=>true
 | _=>false
theorem z97 (k:Kd):(k.tag==("do":Str))=k.isDo:=by cases k<;>rfl
theorem z98 (d:Str)(ps:181)(h:Hh):jc ((Kd.doo d).enc ps) (.int 1) h=.ok 184 h:=by
 simp [Kd.enc,jc,atI,ixN];rw [if_pos 128];rfl
def okN (ds ns:XQ)(g:G):Prop:=match g with
 | .nd k ps=>(k.hnd=none\/ps.length=2)/\(∀ x,k.hnd=some x->x∈ns)/\(∀ d,k=.doo d->d∈ds)/\ps.length<=1000
def Zn (cl:126)(i:Nat):Prop:=∀ (k:Kd) (ps:260) (a:Int) (h:Hh) (nc:Nat) (cr:XY) (ns:XQ),Cr h nc cr ns->(k.hnd=none\/ps.length=2)->(∀ x,k.hnd=some x->x∈ns)->ps.length<=1000000->cl i [(G.nd k ps).d,.int a,.loc nc] h=.ok 136 (h++[.lst ((chI cr k ps a).map pD)])
def Ji (cl:126)(i:Nat):Prop:=∀ (x y:Int) (h:Hh),cl i [.int x,.int y] h=.ok (.int (lsI x y)) h
theorem z99 (cr:XY)(k:Kd)(ps:260)(a:Int):(chI cr k ps a).length<=ps.length:=by unfold chI;rw [List.length_zip];omega
theorem YJ (ho:o.ev cl ρ h0=.ok 151 h)(g0:∃ l,h[n]?=some (.lst l))(ha:a.ev cl ρ h=.ok d h1)(g1:h1[n]?=some 195)(hl:xs.length<1000000) :
  E.ev cl (.m1 .append o a p1 p) ρ h0=.ok .non (h1.set n (.lst (xs++[d]))):=by
 obtain ⟨l,g0⟩:=g0;refine bnd ho ?_;show onL 151 h _=_;rw [z0r g0];refine bnd ha ?_;show m1D .append 151 d h1=_;unfold m1D;dsimp only;rw [g1];exact if_pos hl
theorem turn (cl:126)(I:Zn cl 17)(L:Ji cl 8)(P:Pl nc nb no nu nw)(f:XY)(ds:XQ)(hf:189)(bd:D)(l t c:168)(k:Kd)(ps:260)(a:Int)
  (s:St nc nb no nu nw bl bits cr ns h x us (W++[185])) (ok:okN ds ns (.nd k ps)) (hu:us.length<1000000) (hw:W.length+ps.length<=1000000) :
  ∃ h',b_rest_of_1.run cl 301 h=.nx 143 h'/\Kx [no,nu,nw] h h' /\
   St nc nb no nu nw bl bits cr ns h' (yd f x 185) (us++(if wf 185 then [185] else [])) (W++chI cr k ps a):=by
 obtain ⟨o1,o2,o3,o4⟩:=ok;have s1:=s.setW P W;have k1:Kx [no,nu,nw] h (h.set nw (.lst (W.map pD))):=Kx.set h _ 130;generalize e1:h.set nw (.lst (W.map pD))=h1 at s1 k1;have D:∃ h2,St nc nb no nu nw bl bits cr ns h2 (yd f x 185) us W/\Kx [no,nu,nw] h1 h2/\∀ (r:Ss) (o:RS) (p1 p2 p3 p4 p5 p6 p7 p8 p9 q1 q2 q3 q4 q5 q6 q7 q8 r1 r2 r3:Pos),
   Ss.run cl r 143 h2=o ->
   Ss.run cl (.cons (.iff (.cmp .Eq (.sub (.var 7 p1) (.int 0 p2) p3) (.str "do" p4) p5) (.cons (.setF (.var 4 p6) "done" 271 r1 r2) .nil) .nil r3) r) 143 h1=o:=by
  have e0:jc (G.nd k ps).d (.int 0) h1=.ok (.str k.tag) h1:=by rw [G.d];exact J3 k _ _
  have t1:=eqS (h:=h1) (j7 k) qC;rw [z97] at t1;by_cases c1:∃ d,k=.doo d
  ·obtain ⟨d,rfl⟩:=c1;have v:=Jh s1.b (hf d (o3 d rfl));refine ⟨_,s1.setO P _,Kx.set h1 _ 130,λ r o p1 p2 p3 p4 p5 p6 p7 p8 p9 q1 q2 q3 q4 q5 q6 q7 q8 r1 r2 r3 k=>wm (zm 208 rfl t1) ?_ k⟩;have e2:E.ev cl 271 [some bd,some bl,some 253,some 234,some (.loc no),some (.loc nw),some (pD (.nd (.doo d) ps,a)),some (G.nd (.doo d) ps).d,some (.int a)] h1=.ok (.int (Builtin.bitOr x (lsI (f d) a))) h1 :=
    bnd (bnd rfl (YH s1.o)) (bnd (bnd (bnd rfl (bnd (bnd rfl (bnd rfl (by rw [G.d];exact z98 d _ _))) v)) (bnd 133 (L _ _ _))) rfl)
   rw [jX,z0o,e2,andS_ok];show jP (j5 _ (Res.ok (D.loc no) h1) λ y h2=>match y0 y "done" _ h2 with | some h3=>RS.nx _ h3 | none=>.no) _=_
   rw [andS_ok,z19 s1.o];rfl
  ·have tf:k.isDo=false:=by cases k<;>first | rfl | exact absurd 146 c1
   rw [tf] at t1;have dn:yd f x 185=x:=by unfold yd;cases k<;>first | rfl | exact absurd 146 c1
   rw [dn];exact ⟨h1,s1,Kx.refl _ _,λ r o p1 p2 p3 p4 p5 p6 p7 p8 p9 q1 q2 q3 q4 q5 q6 q7 q8 r1 r2 r3 k=>zv (zm 208 rfl t1) k⟩
 obtain ⟨h2,s2,k2,D2⟩:=D;have U:∃ h3,St nc nb no nu nw bl bits cr ns h3 (yd f x 185) (us++(if wf 185 then [185] else [])) W/\Kx [no,nu,nw] h2 h3/\∀ (r:Ss) (o:RS) (p1 p2 p3 p4 p5 p6 p7 p8 p9 q1 q2 q3 q4 q5 q6 q7:Pos),
   Ss.run cl r 143 h3=o ->
   Ss.run cl (.cons (.iff (.cmp .In (.sub (.var 7 p1) (.int 0 p2) p3) (.tup (.cons (.str "call" p4) (.cons (.str "handle" p5) .nil)) p6) p7) (.cons (.ex (.m1 .append (.fld (.var 4 p8) "uses" p9) (.tup (.cons (.var 7 q1) (.cons (.var 8 q2) .nil)) q3) q4 q5) q6) .nil) .nil q7) r) 143 h2=o:=by
  cases c2:wf 185 with
  | true =>
   have s3:=s2.setU P (us++[185]);refine ⟨_,by simpa using s3,Kx.set h2 _ 130,λ r o p1 p2 p3 p4 p5 p6 p7 p8 p9 q1 q2 q3 q4 q5 q6 q7 kk=>wm ((BR k ps rfl).trans (by rw [show wf (.nd k ps,0)=wf 185 from rfl,c2])) (J2 (YJ (bnd rfl (YI s2.o)) ⟨_,s2.u⟩ (we 169 (show 2<=1000 by decide)) s2.u (by rw [Y07];exact hu)) rfl) ?_⟩;rw [<- kk];simp [pD]
  | false =>
   refine ⟨h2,by simpa using s2,Kx.refl _ _,λ r o p1 p2 p3 p4 p5 p6 p7 p8 p9 q1 q2 q3 q4 q5 q6 q7 kk=>zv ((BR k ps rfl).trans (by rw [show wf (.nd k ps,0)=wf 185 from rfl,c2])) kk⟩
 obtain ⟨h3,s3,k3,U3⟩:=U;have hI:=I k ps a h3 nc cr ns s3.c o1 o2 128;have s4:=s3.app [O.lst ((chI cr k ps a).map pD)];have hl:=z99 cr k ps a;refine ⟨(h3++[O.lst ((chI cr k ps a).map pD)]).set nw (O.lst (W.map pD++(chI cr k ps a).map pD)),?_,k1.trans (k2.trans (k3.trans ((Kx.app _ _).trans 187))),by
  have:=s4.setW P (W++chI cr k ps a)
  rwa [Y0o] at this⟩
 have ge:(h3++[O.lst ((chI cr k ps a).map pD)])[h3.length]?=some (.lst ((chI cr k ps a).map pD)):=zc _ _;refine zf (bnd rfl (by rw [<- e1];exact zc6 s.w)) (zf rfl (zf rfl (D2 _ _ _ _ _ _ _ _ _ _ _ _ _ _ _ _ _ _ _ _ _ _ (U3 _ _ _ _ _ _ _ _ _ _ _ _ _ _ _ _ _ _ (J2 (Wq rfl ⟨_,s3.w⟩ (bnd rfl (bnd (bnd rfl (bnd 133 rfl)) hI)) s4.w ge (by rw [Y07,Y07];omega)) rfl)))))
end
theorem z6s (q:ρ[i]?=some (some 151))(g:h[n]?=some 195):E.evT cl (.cmpN true (.var i p1) p2 p3) ρ h=.ok (!xs.isEmpty) h:=by
 have e:E.ev cl (.cmpN true (.var i p1) p2 p3) ρ h=Z9 true 151 h:=by rw [VW,qJ,q];rfl
 unfold E.evT;rw [e];cases xs<;>simp [Z9,rdx,rd,g]
theorem z9a (cr:XY)(g:G)(a:Int):0<(wk cr g a).length:=by cases g;rw [z6r];simp
theorem Qz (cr:XY):∀ W:List Pa,W.length<=(wkW cr W).length
 | []=>by simp
 | p::r=>by have:=z9a cr p.1 p.2;have:=Qz cr r;rw [wkW,Y05,Y09];omega
section
variable {nc nb no nu nw:Nat}{bl:D}{bits:157}{cr:XY}{ns:XQ}
theorem ON (cl:126)(I:Zn cl 17)(L:Ji cl 8)(P:Pl nc nb no nu nw)(f:XY)(ds:XQ)(hf:189)(bd:D):∀ (n:Nat) (W:List Pa) (x:Int) (us:List Pa) (h:Hh) (l t c:168),
  (wkW cr W).length<=n->St nc nb no nu nw bl bits cr ns h x us W->(∀ p∈wkW cr W,okN ds ns p.1)->us.length+(wkW cr W).length<=900000 ->
  ∃ h' l' t' c',whR (λ ρ h=>w_rest_of_1.evT cl ρ h) (λ ρ h=>b_rest_of_1.run cl ρ h) 301 h=.nx [some bd,some bl,some 253,some 234,some (.loc no),some (.loc nw),l',t',c'] h'/\Kx [no,nu,nw] h h' /\
   St nc nb no nu nw bl bits cr ns h' ((wkW cr W).foldl (yd f) x) (us++(wkW cr W).filter wf) []:=by
 intro n;have fin:∀ (x:Int) (us:List Pa) (h:Hh) (l t c:168),St nc nb no nu nw bl bits cr ns h x us [] ->
  ∃ h' l' t' c',whR (λ ρ h=>w_rest_of_1.evT cl ρ h) (λ ρ h=>b_rest_of_1.run cl ρ h) 301 h=.nx [some bd,some bl,some 253,some 234,some (.loc no),some (.loc nw),l',t',c'] h'/\Kx [no,nu,nw] h h' /\
   St nc nb no nu nw bl bits cr ns h' ((wkW cr []).foldl (yd f) x) (us++(wkW cr []).filter wf) []:=λ x us h l t c s =>
  ⟨h,l,t,c,qZ (z6s rfl s.w),Kx.refl _ _,by simpa [wkW] using s⟩
 induction n with
 | zero =>
  intro W x us h l t c hn s _ _
  have:=Qz cr W
  have e:W=[]:=Y2n.mp 128;subst e;exact fin x us h l t c s
 | succ n ih =>
  intro W x us h l t c hn s ok hb;rcases List.eq_nil_or_concat W with rfl | ⟨W',p,rfl⟩
  ·exact fin x us h l t c s
  ·rw [List.concat_eq_append] at *
   obtain ⟨⟨k,ps⟩,a⟩:=p;have ew:=z18 cr W' k ps a;have o0:=ok 185 (by rw [ew];exact Y04);have lw:=Qz cr (W'++[185]);rw [Y05,List.length_singleton] at lw;have lp:=o0.2.2.2;obtain ⟨h1,e1,k1,s1⟩:=turn cl I L P f ds hf bd l t c k ps a s o0 128 128;rw [ew,Y09] at hn hb;have hu:(us++(if wf 185 then [(185:Pa)] else [])).length<=us.length+1:=by
    rw [Y05]
    split<;>simp
   obtain ⟨h2,l2,t2,c2,e2,k2,s2⟩:=ih (W'++chI cr k ps a) _ _ h1 (some (pD 185)) (some (G.nd k ps).d) (some (.int a)) 128 s1 (λ p hp=>ok p (by rw [ew];exact Y02 _ hp)) 128;refine ⟨h2,l2,t2,c2,(ZO ((z6s rfl s.w).trans 130) e1).trans e2,k1.trans k2,?_⟩;rw [ew,Y1g,Y2h];have e3:us++(if wf 185 then [(185:Pa)] else [])++(wkW cr (W'++chI cr k ps a)).filter wf=us++(if wf 185=true then (185:Pa)::(wkW cr (W'++chI cr k ps a)).filter wf else (wkW cr (W'++chI cr k ps a)).filter wf):=by
    split<;>simp
   rw [e3] at s2;exact s2
end
theorem z9b (cl:126)(bl:D)(h:Hh):d_init_Rest.run cl [.loc h.length,bl] (h++[.obj "Rest" []])=.ok .non (h++[ob bl 0 (h.length+1),.lst []]):=by
 have n1:¬ (("block":Str)="done"):=by decide
 have n2:¬ (("block":Str)="uses"):=by decide
 have n3:¬ (("done":Str)="uses"):=by decide
 simp [n1,n2,n3,d_init_Rest,Df.run,jX,JE,z0o,qJ,z56,zbt,z6m,z8w,new,y0,Yo,w9,hx0,z0p,ob]
theorem z1a (hw:whR 259 (λ ρ' h'=>a.run cl ρ' h') ρ h=.nx ρ' h')(k:Ss.run cl r ρ' h'=o):Ss.run cl (.cons (.whil c a p) r) ρ h=o:=by
 rw [<- k,jX,z6p,hw];rfl
def z1b (cl:126)(i:Nat):Prop:=∀ (bl:D) (h:Hh),cl i [.loc h.length,bl] (h++[.obj "Rest" []])=.ok .non (h++[ob bl 0 (h.length+1),.lst []])
def dnB (cr f:XY)(bs:260):Int:=(wkW cr 230).foldl (yd f) 0
def usB (cr:XY)(bs:260):List Pa:=(wkW cr 230).filter wf
structure RestAt (h:Hh)(n:Nat)(bl:D)(x:Int)(us:List Pa):Prop where
 ex:∃ nu,n<nu/\h[n]?=some (ob bl x nu)/\h[nu]?=some (.lst (us.map pD))
theorem z9c (cl:126)(I:Zn cl 17)(L:Ji cl 8)(N:z1b cl 51)(f cr:XY)(ds ns:XQ)(bits:157)(hf:189)(bs:260)(bl:D)(nc nb:Nat)(h:Hh)(hb:h[nb]?=some (.dK bits))(hc:Cr h nc cr ns)
  (ok:∀ p∈wkW cr 230,okN ds ns p.1) (hs:(wkW cr 230).length<=900000) :
  ∃ h',d_rest_of.run cl [.tup (bs.map G.d),bl,.loc nc,.loc nb] h=.ok 136 h'/\Kx [] h h'/\RestAt h' h.length bl (dnB cr f bs) (usB cr bs):=by
 obtain ⟨kc,gc,vc⟩:=id hc;have lb:=(Y00.mp hb).1;have lc:=(Y00.mp gc).1;have key:=zM (λ g:G=>g.d) (f:=j1 YC (jz [none] [some (.tup (bs.map G.d)),some bl,some 253,some 234,some 136,none,none,none,none]) (λ ρ' h2=>c_rest_of_2.evC cl ρ' h2) (λ ρ' h2=>e_rest_of_2.ev cl ρ' h2)) (h:=h++[ob bl 0 (h.length+1),.lst []]) ze (λ g=>some (pD (g,0))) bs [] (λ g _=>rfl);rw [jb,Y0n] at key;have lw:=Qz cr (bs.map λ g=>((g,0):Pa));rw [Y07] at lw;have P:Pl nc nb h.length (h.length+1) (h.length+2):=⟨by omega,by omega,by omega,by omega,by omega,by omega,by omega,by omega,by omega⟩;have s:St nc nb h.length (h.length+1) (h.length+2) bl bits cr ns (h++[ob bl 0 (h.length+1),O.lst []]++[.lst (bs.map λ g=>pD (g,0))]) 0 [] 230:=by
  refine ⟨?_,?_,?_,zn (zn hb),hc.app.app⟩
  ·simp
  ·simp
  ·simp [Y0m]
 obtain ⟨h',l',t',c',e,kx,s'⟩:=ON cl I L P f ds hf (.tup (bs.map G.d)) _ _ 0 [] _ none none none 175 s ok (by simpa using hs);refine ⟨h',?_,?_,⟨h.length+1,Y1p _,s'.o,?_⟩⟩
 ·refine zg (zf (bnd rfl (bnd rfl ?_)) (zf (d:=.loc (h.length+2)) (h':=h++[ob bl 0 (h.length+1),O.lst []]++[.lst (bs.map λ g=>pD (g,0))]) ((zO 133 (by rw [Y07];omega) key).trans ?_) ?_))
  ·show mkR _ (cl 51 [.loc h.length,bl] (h++[.obj "Rest" []]))=_;rw [N];rfl
  ·rw [show (h++[ob bl 0 (h.length+1),O.lst []]).length=h.length+2 by simp]
  ·exact z1a e 285
 ·refine ⟨by have:=kx.1;simp at this;omega,λ i o ei _=>?_⟩;have li:=(Y00.mp ei).1;exact kx.2 i o (zn (zn ei)) 154
 ·have:=s'.u
  rwa [Y0n] at this
noncomputable def It.own:It->D
 | .df _ _ o _=>o
 | .hd _ _ _=>.non
noncomputable def It.nm:It->D
 | .df n _ _ _=>n
 | .hd n _ _=>n
theorem zc7 (cl:126)(it:It)(h:Hh):d_own_block.run cl [it.d] h=.ok it.own h:=by
 cases it with
 | df nm ps o b=>exact zg (zo (bnd (jD (zm 129 rfl (eqS jj jj))) 129))
 | hd nm cs e=>exact zg (zo (bnd (jD (zm 129 rfl ((eqS jg jj).trans (by rfl)))) rfl))
def QA (f:XY)(it:It):Int:=(it.heads.map f).sum
noncomputable def It.isH:It->Bool
 | .df _ _ _ _=>false
 | .hd _ _ _=>true
abbrev Ni:=Str×It
def okI (p:Ni):Prop:=p.2.nm=.str p.1
def crK (f:XY)(l:196):List (Key×D):=(l.filter λ p=>p.2.isH).map λ p=>(.inr p.1,.int (QA f p.2))
theorem Wn (hv:v.ev cl ρ h=.ok z h1)(ho:o.ev cl ρ h1=.ok x h2)(hi:i.ev cl ρ h2=.ok y h3)(hp:ZM x y z h3=some h4)(k:Ss.run cl r ρ h4=R):Ss.run cl (.cons (.put o i v p1 p) r) ρ h=R:=by
 rw [jX,zbv,hv,andS_ok,ho,andS_ok,hi,andS_ok,hp];exact k
theorem ye (g:h[n]?=some 177)(hl:kvs.length<1000000)(hn:∀ p∈kvs,p.1≠.inr x):ZM 151 172 z h=some (h.set n (.dK (kvs++[(.inr x,z)]))):=by
 simp [ZM,g,jG,hl,Qx hn]
theorem z1c (l:179):wt (l.map D.int)=some l:=by
 induction l with
 | nil=>rfl
 | cons x r ih=>rw [Y0a,wt,ih];rfl
theorem z5d (cl:126)(f:XY)(ds:XQ)(bits:157)(hf:189)(pr:D)(nb nr:Nat)(hbr:nb≠nr)(q:168)(h:Hh)(kvs:157)(p:Ni)(hp:okI p)(hb:h[nb]?=some (.dK bits))(hr:h[nr]?=some 177)(hl:kvs.length<1000)(hd:∀ d∈p.2.heads,d∈ds)(hh:p.2.heads.length<=1000)(hn:∀ u∈kvs,u.1≠.inr p.1) :
  ∃ h',zH wR (λ ρ' h'=>b_clause_rows_1.run cl ρ' h') p.2.d [some pr,some 234,some 242,q] h=.nx [some pr,some 234,some 242,some p.2.d] h'/\Kx [nr] h h'/\h'[nr]?=some (.dK (kvs++crK f [p])):=by
 obtain ⟨x,it⟩:=p;cases it with
 | df nm ps o b =>
  refine ⟨h,?_,Kx.refl _ _,by simpa [crK,It.isH] using hr⟩;show Ss.run cl (.cons (.iff (.cmp .Eq (.sub (.var 3 _) (.int 0 _) _) (.str "handler" _) _) _ .nil _) .nil) [some pr,some 234,some 242,some (It.df nm ps o b).d] h=_;exact zv 252 rfl
 | hd nm cs e =>
  have hp:nm=.str x:=hp;subst hp;have key:=zM clD (f:=j1 wS (jz [none,some 1] [some pr,some 234,some 242,some (It.hd 172 cs e).d]) (λ ρ' h2=>c_clause_rows_2.evC cl ρ' h2) (λ ρ' h2=>e_clause_rows_2.ev cl ρ' h2)) ze (λ c=>some (.int (f c.1))) cs [] (λ c hc=>by
   have v:=Jh hb (hf c.1 (hd c.1 (Y0e.mpr ⟨c,hc,rfl⟩)));show (E.ev cl (.sub (.var 1 _) (.sub (.var 0 _) (.int 0 _) _) _) [some (clD c),some 234] h).bind _=_;exact bnd (bnd rfl (bnd 129 v)) rfl)
  rw [jb,Y0n] at key;have hc:cs.length<=1000:=by simpa [It.heads] using hh
  have em:(cs.map λ c=>D.int (f c.1))=(cs.map λ c=>f c.1).map D.int:=by rw [Y0m];rfl
  rw [em] at key;have eS:(cs.map λ c=>f c.1).sum=QA f (.hd 172 cs e):=by unfold QA It.heads;rw [Y0m];rfl
  refine ⟨(h++[O.lst ((cs.map λ c=>f c.1).map D.int)]).set nr (.dK (kvs++[(.inr x,.int (QA f (.hd 172 cs e)))])),?_,(Kx.app _ _).trans 187,by rw [w4 (zn hr)];simp [crK,It.isH]⟩;have hs:c1D .sum 136 (h++[O.lst ((cs.map λ c=>f c.1).map D.int)])=.ok (.int (QA f (.hd 172 cs e))) (h++[O.lst ((cs.map λ c=>f c.1).map D.int)]):=by
   unfold c1D;dsimp only;rw [zN 188];show (match wt _ with | some is=>Res.ok (D.int is.sum) _ | none=>.no)=_
   rw [z1c];show Res.ok (D.int (cs.map λ c=>f c.1).sum) _=_;rw [eS]
  show Ss.run cl (.cons (.iff (.cmp .Eq (.sub (.var 3 _) (.int 0 _) _) (.str "handler" _) _) (.cons (.put (.var 2 _) (.sub (.var 3 _) (.int 1 _) _) (.c1 .sum (.ofL (.comp e_clause_rows_2 wS (.seq (.sub (.var 3 _) (.int 2 _) _)) c_clause_rows_2 _ [none,some 1] _ _)) _ _) _ _) .nil) .nil _) .nil) [some pr,some 234,some 242,some (It.hd 172 cs e).d] h=_;exact wm (zm 129 rfl (eqS jg jg)) (Wn (bnd (zO (bnd 129 rfl) (by rw [Y07];omega) key) hs) rfl 129 (ye (zn hr) 128 hn) rfl) rfl
structure OkP (ds ns:XQ)(cr:XY)(p:Ni):Prop where
 nm:okI p
 hd:∀ d∈p.2.heads,d∈ds
 hl:p.2.heads.length<=1000
 bl:p.2.bods.length<=1000
 ok:∀ q∈wkW cr (p.2.bods.map λ g=>(g,0)),okN ds ns q.1
 sz:(wkW cr (p.2.bods.map λ g=>(g,0))).length<=900000
theorem G3 (f:XY)(a b:196):crK f (a++b)=crK f a++crK f b:=by unfold crK;rw [List.filter_append,Y0o]
theorem z5e (f:XY)(a:196):(crK f a).length<=a.length:=by unfold crK;rw [Y07];exact Y3p ..
theorem G4 (h:u∈crK f a):∃ p∈a,u.1=.inr p.1:=by
 unfold crK at h;obtain ⟨p,hp,rfl⟩:=Y0e.mp h;exact ⟨p,(Y27.mp hp).1,rfl⟩
theorem G5 (cl:126)(f:XY)(ds:XQ)(bits:157)(hf:189)(pr:D)(nb nr:Nat)(hbr:nb≠nr):∀ (l dn:196) (q:168) (h:Hh),h[nb]?=some (.dK bits)->h[nr]?=some (.dK (crK f dn))->(∀ p∈l,okI p/\(∀ d∈p.2.heads,d∈ds)/\p.2.heads.length<=1000)->((dn++l).map (·.1)).Nodup->dn.length+l.length<=900 ->
  ∃ h' q',zu [] (zH wR λ ρ' h'=>b_clause_rows_1.run cl ρ' h') 134 [some pr,some 234,some 242,q] h=.nx [some pr,some 234,some 242,q'] h'/\Kx [nr] h h'/\h'[nr]?=some (.dK (crK f (dn++l)))
 | [],dn,q,h,hb,hr,_,_,_=>⟨h,q,by rw [Y0u,zu,if_pos ze],Kx.refl _ _,by rwa [Y0v]⟩
 | p::l,dn,q,h,hb,hr,ok,nd,hl=>by
  obtain ⟨o1,o2,o3⟩:=ok p Y04;have hc:=z5e f dn;rw [Y09] at hl;have hn:∀ u∈crK f dn,u.1≠.inr p.1:=λ u hu z=>by
   obtain ⟨y,hy,e⟩:=G4 hu;rw [e] at z;have z:=Key.inr.inj z;rw [Y0o,Y0a] at nd;exact (Y2a.mp nd).2.2 y.1 (Y0e.mpr ⟨y,hy,rfl⟩) p.1 Y04 z
  obtain ⟨h1,e1,k1,r1⟩:=z5d cl f ds bits hf pr nb nr hbr q h (crK f dn) p o1 hb hr 128 o2 o3 hn;rw [<- G3] at r1;obtain ⟨h2,q2,e2,k2,r2⟩:=G5 cl f ds bits hf pr nb nr hbr l (dn++[p]) (some p.2.d) h1 (k1.2 _ _ hb (by simpa using hbr)) r1 (λ y hy=>ok y (Y02 _ hy)) (by rwa [Y0i]) 154;rw [Y0i] at r2;refine ⟨h2,q2,?_,k1.trans k2,r2⟩;rw [Y0a,zu,if_pos ze,e1];exact e2
theorem z1d (cl:126)(f:XY)(ds:XQ)(bits:157)(hf:189)(nb:Nat)(l:196)(h:Hh)(hb:h[nb]?=some (.dK bits))(ok:∀ p∈l,okI p/\(∀ d∈p.2.heads,d∈ds)/\p.2.heads.length<=1000)(nd:171)(hl:l.length<=900) :
  ∃ h',d_clause_rows.run cl [.tup 134,.loc nb] h=.ok 136 h'/\Kx [] h h'/\h'[h.length]?=some (.dK (crK f l)):=by
 have lb:=(Y00.mp hb).1;obtain ⟨h',q',e,k,r⟩:=G5 cl f ds bits hf 228 nb h.length 128 l [] none (h++[.dK []]) (zn hb) 188 ok nd (by simpa using hl);refine ⟨h',zg (zf rfl (zT 133 e 285)),⟨by have:=k.1;simp at this;omega,λ i o ei _=>k.2 i o (zn ei) (by have:=(Y00.mp ei).1;simp;omega)⟩,r⟩
def UV (cl:126)(i:Nat)(f cr:XY)(ds ns:XQ)(bits:157):Prop:=∀ (bs:260) (bl:D) (nc nb:Nat) (h:Hh),h[nb]?=some (.dK bits)->Cr h nc cr ns->(∀ p∈wkW cr 230,okN ds ns p.1)->(wkW cr 230).length<=900000 ->
  ∃ h',cl i [.tup (bs.map G.d),bl,.loc nc,.loc nb] h=.ok 136 h'/\Kx [] h h'/\RestAt h' h.length bl (dnB cr f bs) (usB cr bs)
def z1e (cl:126)(i:Nat):Prop:=∀ (it:It) (h:Hh),cl i [it.d] h=.ok it.own h
theorem RestAt.keep (r:RestAt h n bl x us)(k:Kx [nr] h h')(hn:nr<n):RestAt h' n bl x us:=by
 obtain ⟨nu,l,e1,e2⟩:=r.ex;exact ⟨nu,l,k.2 _ _ e1 154,k.2 _ _ e2 154⟩
abbrev Nr:=Ni×Nat
def nrK (L:List Nr):List (Key×D):=L.map λ q=>(.inr q.1.1,.loc q.2)
def RestsOk (h:Hh)(nr:Nat)(f cr:XY)(L:List Nr):Prop:=∀ q∈L,nr<q.2/\RestAt h q.2 q.1.2.own (dnB cr f q.1.2.bods) (usB cr q.1.2.bods)
theorem Kx.more (ms:List Nat)(k:Kx [] h h'):Kx ms h h':=⟨k.1,λ i o e _=>k.2 i o e 130⟩
theorem Jj (cl:126)(f cr:XY)(ds ns:XQ)(bits:157)(R:UV cl 16 f cr ds ns bits)(B:Wp cl 2)(O:z1e cl 3)(pr dd:D)(nb nc nr:Nat)(hbr:nb≠nr)(hcr:nc≠nr):∀ (l:196) (L:List Nr) (q:168) (h:Hh),h[nb]?=some (.dK bits)->Cr h nc cr ns->h[nr]?=some (.dK (nrK L))->RestsOk h nr f cr L->(∀ p∈l,OkP ds ns cr p)->((L.map (·.1)++l).map (·.1)).Nodup->L.length+l.length<=900 ->
  ∃ h' L' q',zu [] (zH yb λ ρ' h'=>b_rests_of_1.run cl ρ' h') 134 [some pr,some dd,some 234,some 253,some 242,q] h=.nx [some pr,some dd,some 234,some 253,some 242,q'] h'/\Kx [nr] h h'/\L'.map (·.1)=L.map (·.1)++l/\h'[nr]?=some (.dK (nrK L'))/\RestsOk h' nr f cr L'
 | [],L,q,h,hb,hc,hr,ro,_,_,_=>⟨h,L,q,by rw [Y0u,zu,if_pos ze],Kx.refl _ _,by rw [Y0v],hr,ro⟩
 | p::l,L,q,h,hb,hc,hr,ro,ok,nd,hl=>by
  have o:=ok p Y04;rw [Y09] at hl;have lr:=(Y00.mp hr).1;obtain ⟨h1,e1,k1,r1⟩:=R p.2.bods p.2.own nc nb h hb hc o.ok o.sz;have hn:∀ u∈nrK L,u.1≠.inr p.1:=λ u hu z=>by
   unfold nrK at hu;obtain ⟨y,hy,rfl⟩:=Y0e.mp hu;have z:=Key.inr.inj z;rw [Y0o,Y0a] at nd;exact (Y2a.mp nd).2.2 y.1.1 (Y0e.mpr ⟨y.1,Y0e.mpr ⟨y,hy,rfl⟩,rfl⟩) p.1 Y04 z
  have hr1:=k1.2 _ _ hr 130;have st:zH yb (λ ρ' h'=>b_rests_of_1.run cl ρ' h') p.2.d [some pr,some dd,some 234,some 253,some 242,q] h=.nx [some pr,some dd,some 234,some 253,some 242,some p.2.d] 255:=by
   have nmq:jc p.2.d (.int 1) h1=.ok (.str p.1) h1:=by
    have e:=o.nm;unfold okI at e;rw [<- e];cases p.2<;>rfl
   exact Wn (bnd (bnd rfl (bnd rfl (B p.2 h (by have:=o.bl;omega)))) (bnd (bnd (bnd rfl (bnd rfl (O p.2 h))) (bnd (bnd rfl (bnd 129 rfl)) rfl)) e1)) rfl (bnd rfl (bnd rfl nmq)) (ye hr1 (by unfold nrK;rw [Y07];omega) hn) rfl
  have kk:Kx [nr] h 255:=(k1.more [nr]).trans 187;have hr2:255[nr]?=some (.dK (nrK (L++[(p,h.length)]))):=by rw [w4 hr1];unfold nrK;rw [Y0o];rfl
  have ro2:RestsOk 255 nr f cr (L++[(p,h.length)]):=λ y hy=>by
   rcases Y0j.mp hy with hy | hy
   ·exact ⟨(ro y hy).1,(ro y hy).2.keep kk (ro y hy).1⟩
   ·cases Y0d.mp hy;exact ⟨lr,r1.keep 187 lr⟩
  obtain ⟨h2,L2,q2,e2,k2,m2,g2,x2⟩:=Jj cl f cr ds ns bits R B O pr dd nb nc nr hbr hcr l (L++[(p,h.length)]) (some p.2.d) _ (kk.2 _ _ hb (by simpa using hbr)) (by obtain ⟨kv,g,v⟩:=hc;exact ⟨kv,kk.2 _ _ g (by simpa using hcr),v⟩) hr2 ro2 (λ y hy=>ok y (Y02 _ hy)) (by rw [Y0o (f:=λ q:Nr=>q.1),Y0i];exact nd) 154;refine ⟨h2,L2,q2,?_,kk.trans k2,by rw [m2,Y0o,Y0i];rfl,g2,x2⟩;rw [Y0a,zu,if_pos ze,st];exact e2
def UW (cl:126)(i:Nat):Prop:=∀ (h:Hh) (nd:Nat) (ds:XQ),h[nd]?=some 149->ds.length<=1000->ds.Nodup->cl i [.loc nd] h=.ok 136 (h++[.dK (zw 0 ds)])
def Jk (cl:126)(i:Nat)(f:XY)(ds:XQ)(bits:157):Prop:=∀ (nb:Nat) (l:196) (h:Hh),h[nb]?=some (.dK bits)->(∀ p∈l,okI p/\(∀ d∈p.2.heads,d∈ds)/\p.2.heads.length<=1000)->(l.map (·.1)).Nodup->l.length<=900 ->
  ∃ h',cl i [.tup 134,.loc nb] h=.ok 136 h'/\Kx [] h h'/\h'[h.length]?=some (.dK (crK f l))
theorem zD (ha:a.ev cl ρ h=.ok x h1)(hr:r.ev cl ρ h1=.ok xs h2)(hc:cl f (x::xs) h2=o):E.ev cl (.call f a r p p1) ρ h=o:=bnd ha (bnd hr hc)
theorem z5f (cl:126)(f cr:XY)(ds ns:XQ)(Bi:UW cl 5)(C:Jk cl 15 f ds (zw 0 ds))(R:UV cl 16 f cr ds ns (zw 0 ds))(B:Wp cl 2)(Ow:z1e cl 3)(l:196)(nd:Nat)(h:Hh)(hd:h[nd]?=some 149)(dl:ds.length<=1000)(dn:ds.Nodup)
  (hv:∀ x∈ns,zK (crK f l) (.inr x)=some (.int (cr x))) (ok:∀ p∈l,OkP ds ns cr p) (nn:171) (hl:l.length<=900) :
  ∃ h' nr L,d_rests_of.run cl [.tup 134,.loc nd] h=.ok 242 h'/\Kx [] h h'/\h.length<=nr/\L.map (·.1)=l/\h'[nr]?=some (.dK (nrK L))/\RestsOk h' nr f cr L:=by
 have e1:=Bi h nd ds hd dl dn;have b1:(h++147)[h.length]?=some (.dK (zw 0 ds)):=zc _ _;obtain ⟨h2,e2,k2,g2⟩:=C h.length l (h++147) b1 (λ p hp=>⟨(ok p hp).nm,(ok p hp).hd,(ok p hp).hl⟩) nn hl;have ln:h.length+1<=h2.length:=by have:=k2.1;simp at this;exact this
 have lc:=(Y00.mp g2).1;have c3:Cr (h2++[.dK []]) (h++147).length cr ns:=⟨crK f l,zn g2,hv⟩;obtain ⟨h4,L,q4,e4,k4,m4,g4,x4⟩:=Jj cl f cr ds ns (zw 0 ds) R B Ow 228 161 h.length (h++147).length h2.length 128 128 l [] none (h2++[.dK []]) (zn (k2.2 _ _ b1 130)) c3 188 (λ q hq=>absurd hq 130) ok nn (by simpa using hl);refine ⟨h4,h2.length,L,?_,⟨by have:=k4.1;simp at this;omega,λ i o ei _=>?_⟩,by omega,m4,g4,x4⟩
 ·exact zg (zf (zD rfl rfl e1) (zf (zD rfl 141 e2) (zf rfl (zT 133 e4 285))))
 ·have li:=(Y00.mp ei).1;exact k4.2 i o (zn (k2.2 i o (zn ei) 130)) 154
def pr2 (p:Int×Int):D:=.tup [.int p.1,.int p.2]
structure RowsAt (h:Hh)(n:Nat)(rw:XW)(ns:XQ):Prop where
 ex:∃ kvs,(h[n]?=some 177\/h[n]?=some (.fK kvs))/\∀ x∈ns,zK kvs (.inr x)=some (pr2 (rw x))
theorem RowsAt.sub (r:RowsAt h n rw ns)(hx:x∈ns):jc 151 172 h=.ok (pr2 (rw x)) h:=by
 obtain ⟨kvs,g,v⟩:=r.ex;have v:=v x hx;rcases g with g | g<;>simp [jc,g,jG,v]
noncomputable def js (rw:XW)(ev:Int)(ob:XX):Kd->Int×Int
 | .handle x=>((rw x).1,0)
 | .call g o=>if ob=some g then (0,ev) else match o with
  | none=>((rw g).1,0)
  | some b=>if ob=some b then rw g else (Builtin.bitOr (rw g).1 (Builtin.bitAnd (rw g).2 (rw b).1),0)
 | _=>(0,0)
def okO (o:XX):Prop:=∀ x,o=some x->PyData.strOk x=true
def okU (ns:XQ)(ob:XX):Kd->Prop
 | .handle x=>x∈ns
 | .call g o=>PyData.strOk g=true/\okO o/\(ob≠some g->g∈ns/\∀ b,o=some b->ob≠some b->b∈ns)
 | _=>False
theorem z1f {ob:XX}(hg:PyData.strOk g=true)(ho:okO ob):jv .Eq (.str g) (zV ob) h=.ok (.bl (decide (ob=some g))) h:=by
 cases ob with
 | none=>exact if_pos ⟨hg,rfl,Y19 _⟩
 | some b =>
  refine (eqS hg (ho b rfl)).trans ?_;by_cases c:g=b
  ·subst c;simp
  ·have c':¬ b=g:=λ z=>c z.symm;simp [c,c']
theorem z9d (x:Str)(ps:181)(h:Hh):jc ((Kd.handle x).enc ps) (.int 1) h=.ok 172 h:=by
 simp [Kd.enc,jc,atI,ixN];rw [if_pos 128];rfl
def YK (cl:126)(i:Nat):Prop:=∀ (a b r:Int) (h:Hh),cl i [.tup [.int a,.int b],.int r] h=.ok (.int (Builtin.bitOr a (Builtin.bitAnd b r))) h
theorem zc8 (cl:126)(F:YK cl 10)(rw':XW)(ev:Int)(ob:XX)(ns:XQ)(k:Kd)(ps:260)(n:Nat)(h:Hh)(r:RowsAt h n rw' ns)(hb:okO ob)(ok:okU ns ob k) :
  d_use_row.run cl [(G.nd k ps).d,zV ob,.loc n,.int ev] h=.ok (pr2 (js rw' ev ob k)) h:=by
 have e0:=J3 k 240 h;have e1:=eqS (h:=h) (j7 k) yI;rw [G1] at e1;rw [G.d];cases k with
 | handle x =>
  have v:=r.sub (show x∈ns from ok);exact zg (jd (zm 208 rfl e1) (zo (we (cns (bnd (bnd rfl (bnd (bnd rfl (bnd rfl (z9d x _ h))) v)) 133) 141) (show 2<=1000 by decide))))
 | call g o =>
  obtain ⟨o1,o2,o3⟩:=ok;have c1:=z1f (h:=h) o1 hb;refine zg (zv (zm 208 rfl e1) (zf 129 (zf 129 ?_)));by_cases q:ob=some g
  ·rw [show js rw' ev ob (.call g o)=(0,ev) from if_pos q];rw [decide_eq_true q] at c1;exact jd (zm rfl rfl c1) (zo (we 169 (show 2<=1000 by decide)))
  ·rw [decide_eq_false q] at c1;obtain ⟨o4,o5⟩:=o3 q;have v:=r.sub o4;refine zv (zm rfl rfl c1) ?_;cases o with
   | none =>
    rw [show js rw' ev ob (.call g none)=((rw' g).1,0) from if_neg q];exact jd 299 (zo (we (cns (bnd (bnd rfl (bnd rfl v)) 133) 141) (show 2<=1000 by decide)))
   | some b =>
    have c2:=z1f (h:=h) (o2 b rfl) hb;refine zv 299 ?_;by_cases q2:ob=some b
    ·rw [show js rw' ev ob 163=rw' g from (if_neg q).trans (if_pos q2)];rw [decide_eq_true q2] at c2;exact jd (zm rfl rfl c2) (zo (bnd rfl (bnd rfl v)))
    ·rw [show js rw' ev ob 163=(Builtin.bitOr (rw' g).1 (Builtin.bitAnd (rw' g).2 (rw' b).1),0) from (if_neg q).trans (if_neg q2)];rw [decide_eq_false q2] at c2;have v2:=r.sub (o5 b rfl q2);exact zv (zm rfl rfl c2) (zo (we (cns (zD (bnd rfl (bnd rfl v)) (cns (bnd (bnd rfl (bnd rfl v2)) 133) rfl) (F _ _ _ h)) 141) (show 2<=1000 by decide)))
 | _=>exact ok.elim
noncomputable def opP (x y:Int):Int×Int:=(x,lsI y x)
noncomputable def woP (p:Int×Int)(r:Int):Int×Int:=opP (lsI p.1 r) (lsI p.2 r)
noncomputable def jnP (p q:Int×Int):Int×Int:=opP (Builtin.bitOr p.1 q.1) (Builtin.bitOr p.2 q.2)
noncomputable def kdG:G->Kd
 | .nd k _=>k
noncomputable def Zi (rw:XW)(ev:Int)(ob:XX)(acc:Int×Int)(p:Pa):Int×Int:=jnP acc (woP (js rw ev ob 289) p.2)
def z9e (rw:XW)(ev:Int)(ob:XX)(x:Int)(us:List Pa):Int×Int:=us.foldl (Zi rw ev ob) (x,0)
def G6 (cl:126)(i:Nat):Prop:=∀ (rw:XW) (ev:Int) (ob:XX) (ns:XQ) (k:Kd) (ps:260) (n:Nat) (h:Hh),RowsAt h n rw ns->okO ob->okU ns ob k->cl i [(G.nd k ps).d,zV ob,.loc n,.int ev] h=.ok (pr2 (js rw ev ob k)) h
def QB (cl:126)(i:Nat):Prop:=∀ (p q:Int×Int) (h:Hh),cl i [pr2 p,pr2 q] h=.ok (pr2 (jnP p q)) h
def z5g (cl:126)(i:Nat):Prop:=∀ (p:Int×Int) (r:Int) (h:Hh),cl i [pr2 p,.int r] h=.ok (pr2 (woP p r)) h
theorem OO (e:h[no]?=some (ob bl x nu)):JC (.loc no) "block" h=.ok bl h:=by unfold JC;dsimp only;rw [e];rfl
theorem z1g (cl:126)(U:G6 cl 23)(J:QB cl 11)(Wo:z5g cl 12)(rw:XW)(ev:Int)(o:XX)(ns:XQ)(no nu n:Nat)(x:Int)(h:Hh)(e:h[no]?=some (ob (zV o) x nu))(r:RowsAt h n rw ns)(ho:okO o)(acc:Int×Int)(p:Pa)(ok:okU ns o 289)(t a:168) :
  zH qe (λ ρ' h'=>b_bodies_row_1.run cl ρ' h') (pD p) [some (.loc no),some 151,some (.int ev),some (pr2 acc),t,a] h=.nx [some (.loc no),some 151,some (.int ev),some (pr2 (Zi rw ev o acc p)),some p.1.d,some (.int p.2)] h:=by
 obtain ⟨⟨k,ps⟩,b⟩:=p;have u:=U rw ev o ns k ps n h r ho ok;exact zf (zD rfl (cns (zD (zD rfl (cns (bnd rfl (OO e)) 169) u) 141 (Wo _ _ h)) rfl) (J _ _ h)) rfl
theorem YL (cl:126)(U:G6 cl 23)(J:QB cl 11)(Wo:z5g cl 12)(rw:XW)(ev:Int)(o:XX)(ns:XQ)(no nu n:Nat)(x:Int)(h:Hh)(e:h[no]?=some (ob (zV o) x nu))(r:RowsAt h n rw ns)(ho:okO o)(all:181)(hu:rd h nu=some all):∀ (us:List Pa) (acc:Int×Int) (t a:168),(∀ p∈us,okU ns o 289) ->
  ∃ t' a',zu [(nu,all)] (zH qe λ ρ' h'=>b_bodies_row_1.run cl ρ' h') (us.map pD) [some (.loc no),some 151,some (.int ev),some (pr2 acc),t,a] h=.nx [some (.loc no),some 151,some (.int ev),some (pr2 (us.foldl (Zi rw ev o) acc)),t',a'] h
 | [],acc,t,a,_=>⟨t,a,by rw [Y0u,zu,if_pos (stay1.mpr hu)];rfl⟩
 | p::us,acc,t,a,ok=>by
  obtain ⟨t',a',ih⟩:=YL cl U J Wo rw ev o ns no nu n x h e r ho all hu us (Zi rw ev o acc p) (some p.1.d) (some (.int p.2)) λ q hq=>ok q (Y02 _ hq);refine ⟨t',a',?_⟩;rw [Y0a,zu,if_pos (stay1.mpr hu),z1g cl U J Wo rw ev o ns no nu n x h e r ho acc p (ok p Y04) t a];exact ih
theorem z1h (cl:126)(U:G6 cl 23)(J:QB cl 11)(Wo:z5g cl 12)(rw:XW)(ev:Int)(o:XX)(ns:XQ)(no n:Nat)(x:Int)(us:List Pa)(h:Hh)(ra:RestAt h no (zV o) x us)(r:RowsAt h n rw ns)(ho:okO o)(ok:∀ p∈us,okU ns o 289) :
  d_bodies_row.run cl [.loc no,.loc n,.int ev] h=.ok (pr2 (z9e rw ev o x us)) h:=by
 obtain ⟨nu,_,e,eu⟩:=ra.ex;obtain ⟨t',a',lp⟩:=YL cl U J Wo rw ev o ns no nu n x h e r ho _ (zN eu) us (x,0) none none ok;exact zg (zf (we (cns (bnd rfl (YH e)) 141) (show 2<=1000 by decide)) (zT (jZ (bnd rfl (YI e)) eu) lp 285))
noncomputable def It.ownS (it:It):Option Str:=match it.own with
 | .str x=>some x
 | _=>none
def qr (f cr:XY)(rw:XW)(ev:Int)(it:It):Int×Int:=z9e rw ev it.ownS (dnB cr f it.bods) (usB cr it.bods)
def wP (f cr:XY)(rw:XW)(ev:Int)(l:196):List (Key×D):=l.map λ p=>(.inr p.1,pr2 (qr f cr rw ev p.2))
structure OkA (ns:XQ)(cr:XY)(p:Ni):Prop where
 own:p.2.own=zV p.2.ownS
 oo:okO p.2.ownS
 us:∀ q∈usB cr p.2.bods,okU ns p.2.ownS (kdG q.1)
theorem RestAt.app (r:RestAt h n bl x us):RestAt (h++J) n bl x us:=by
 obtain ⟨nu,l,e1,e2⟩:=r.ex;exact ⟨nu,l,zn e1,zn e2⟩
theorem RowsAt.app (r:RowsAt h n rw ns):RowsAt (h++J) n rw ns:=by
 obtain ⟨kvs,g,v⟩:=r.ex;exact ⟨kvs,g.imp zn zn,v⟩
theorem G7:∀ {L:List Nr}{q:Nr},q∈L->((L.map (·.1)).map (·.1)).Nodup->zK (nrK L) (.inr q.1.1)=some (.loc q.2)
 | y::L,q,hq,nd=>by
  rw [Y0a,Y0a,Y12] at nd;unfold nrK;rw [Y0a];rcases Y08.mp hq with rfl | hq
  ·simp [zK]
  ·have ne:¬ y.1.1=q.1.1:=λ z=>nd.1 (z▸Y0e.mpr ⟨q.1,Y0e.mpr ⟨q,hq,rfl⟩,rfl⟩);have ih:=G7 hq nd.2;unfold nrK at ih;simp [zK,ne] at ih ⊢;exact ih
def QC (cl:126)(i:Nat):Prop:=∀ (rw:XW) (ev:Int) (o:XX) (ns:XQ) (no n:Nat) (x:Int) (us:List Pa) (h:Hh),RestAt h no (zV o) x us->RowsAt h n rw ns->okO o->(∀ p∈us,okU ns o 289)->cl i [.loc no,.loc n,.int ev] h=.ok (pr2 (z9e rw ev o x us)) h
theorem Jl (cl:126)(Br:QC cl 22)(f cr:XY)(rw:XW)(ev:Int)(ns:XQ)(nr n:Nat)(h:Hh)(L0:List Nr)(hr:h[nr]?=some (.fK (nrK L0)))(ro:RestsOk h nr f cr L0)(ra:RowsAt h n rw ns)(nd:((L0.map (·.1)).map (·.1)).Nodup)(ok:∀ q∈L0,OkA ns cr q.1)(hl:L0.length<=900):∀ (L dn:List Nr) (t:168),L0=dn++L ->
  ∃ t',zu [] (zH qc λ ρ' h'=>b_asked_rows_1.run cl ρ' h') (L.map λ q=>.str q.1.1) [some 242,some 151,some (.int ev),some 136,t] 245=.nx [some 242,some 151,some (.int ev),some 136,t'] (h++[.dK (wP f cr rw ev (L0.map (·.1)))])
 | [],dn,t,e=>⟨t,by rw [Y0u,zu,if_pos ze,e,Y0v]⟩
 | q::L,dn,t,e=>by
  have hq:q∈L0:=by rw [e];exact Y0s _ Y04
  obtain ⟨t',ih⟩:=Jl cl Br f cr rw ev ns nr n h L0 hr ro ra nd ok hl L (dn++[q]) (some (.str q.1.1)) (by rw [e,Y0i];rfl);refine ⟨t',?_⟩;have o:=ok q hq;have r1:=(ro q hq).2;rw [o.own] at r1;have v:jc 242 (.str q.1.1) 245=.ok (.loc q.2) 245:=by
   simp [jc,zn hr,jG,G7 hq nd]
  have b:=Br rw ev q.1.2.ownS ns q.2 n _ _ 245 r1.app ra.app o.oo o.us;have hn:∀ u∈wP f cr rw ev (dn.map (·.1)),u.1≠.inr q.1.1:=λ u hu z=>by
   unfold wP at hu;obtain ⟨y,hy,rfl⟩:=Y0e.mp hu;have z:=Key.inr.inj z;rw [e,Y0o,Y0o,Y0a,Y0a] at nd;exact (Y2a.mp nd).2.2 y.1 (Y0e.mpr ⟨y,hy,rfl⟩) q.1.1 Y04 z
  have ll:(wP f cr rw ev (dn.map (·.1))).length<1000000:=by
   unfold wP;rw [Y07,Y07];rw [e,Y05] at hl;omega
  have st:zH qc (λ ρ' h'=>b_asked_rows_1.run cl ρ' h') (.str q.1.1) [some 242,some 151,some (.int ev),some 136,t] 245=.nx [some 242,some 151,some (.int ev),some 136,some (.str q.1.1)] (h++[.dK (wP f cr rw ev ((dn++[q]).map (·.1)))]):=by
   refine Wn (zD (bnd rfl (bnd rfl v)) 169 b) rfl rfl (ye 188 ll hn) ?_;rw [Qw,Y0o];unfold wP;rw [Y0o];rfl
  rw [Y0a,zu,if_pos ze,st];exact ih
theorem z1i (he:199)(g:h1[n]?=some (.fK kvs)):(I.keys e).ev cl ρ h=.ok ([],kvs.map λ p=>dK1 p.1) h1:=by
 rw [z6n,he];show ZP 151 h1=_;unfold ZP;dsimp only;rw [g]
theorem QD (he:199)(g:h1[n]?=some 177):(I.keys e).ev cl ρ h=.ok ([],kvs.map λ p=>dK1 p.1) (h1.set n (.fK kvs)):=by
 rw [z6n,he];show ZP 151 h1=_;unfold ZP;dsimp only;rw [g]
theorem z5h (cl:126)(Br:QC cl 22)(f cr:XY)(rw:XW)(ev:Int)(ns:XQ)(nr n:Nat)(h:Hh)(L:List Nr)(hr:h[nr]?=some 280)(ro:RestsOk h nr f cr L)(ra:RowsAt h n rw ns)(nd:((L.map (·.1)).map (·.1)).Nodup)(ok:∀ q∈L,OkA ns cr q.1)(hl:L.length<=900) :
  d_asked_rows.run cl [.loc nr,.loc n,.int ev] h=.ok 136 (h++[.dK (wP f cr rw ev (L.map (·.1)))]):=by
 obtain ⟨t',lp⟩:=Jl cl Br f cr rw ev ns nr n h L hr ro ra nd ok hl L [] none rfl;have ek:(nrK L).map (λ p=>dK1 p.1)=L.map λ q=>.str q.1.1:=by unfold nrK;rw [Y0m];rfl
 exact zg (zf rfl (zT (q:=([],L.map λ q:Nr=>D.str q.1.1)) ((z1i rfl (zn hr)).trans (by rw [ek];rfl)) lp 285))
def zR (ns:XQ)(r:XW):List (Key×D):=ns.map λ x=>(.inr x,pr2 (r x))
theorem qo:∀ {ns:XQ},x∈ns->zK (zR ns r) (.inr x)=some (pr2 (r x))
 | y::ns,hx=>by
  unfold zR;rw [Y0a];by_cases c:y=x
  ·subst c;simp [zK]
  ·have ih:=qo (r:=r) ((Y08.mp hx).resolve_left λ z=>c z.symm);unfold zR at ih;simp [zK,c] at ih ⊢;exact ih
theorem z1j (h:Hh)(p:Int×Int):D.pe h (pr2 p)=some (.tuple [.int p.1,.int p.2]):=rfl
theorem Wt (h:Hh)(r1 r2:XW)(all:XQ):∀ {ns:XQ},(∀ x∈ns,x∈all)->qX h (zR all r2) (zR ns r1)=some (ns.all λ x=>decide (r1 x=r2 x))
 | [],_=>rfl
 | x::ns,hs=>by
  have ih:=Wt h r1 r2 all λ y hy=>hs y (Y02 _ hy);have v:=qo (r:=r2) (hs x Y04);show qX h (zR all r2) ((.inr x,pr2 (r1 x))::zR ns r1)=_;rw [qX,v];dsimp only;rw [z1j,z1j,ih];have e:PyData.eqv (.tuple [.int (r1 x).1,.int (r1 x).2]) (.tuple [.int (r2 x).1,.int (r2 x).2])=decide (r1 x=r2 x):=by
   simp [PyData.eqv,PyData.eqvAll,Prod.ext_iff];rfl
  show (if _ then some (_&&_) else none)=_;rw [if_pos (by rfl),e];rfl
theorem z9f {h:Hh}{n m:Nat}{ns:XQ}{r1 r2:XW}(ha:yx h n=some (zR ns r1))(hb:yx h m=some (zR ns r2)):Z8 true 151 (.loc m) h=.ok (.bl (!ns.all λ x=>decide (r1 x=r2 x))) h:=by
 unfold Z8;dsimp only;rw [ha,hb];dsimp only;rw [if_pos (by unfold zR;simp),Wt h r1 r2 ns λ x hx=>hx];rfl
theorem Yf (g:h[n]?=some 177):yx h n=some kvs:=by unfold yx;rw [g]
theorem RowsAt.tab (g:h[n]?=some (.dK (zR ns r))):RowsAt h n r ns:=⟨_,.inl g,λ _ hx=>qo hx⟩
noncomputable def yf (f cr:XY)(ev:Int)(l:196)(r:XW)(x:Str):Int×Int:=match l.find? λ p=>decide (p.1=x) with
 | some p=>qr f cr r ev p.2
 | none=>(0,0)
noncomputable def rwN (f cr:XY)(ev:Int)(l:196):Nat->Str->Int×Int
 | 0=>λ _=>(0,0)
 | n+1=>yf f cr ev l 191
theorem Zo:∀ {l:196}{p:Ni},p∈l->(l.map (·.1)).Nodup->(l.find? λ q=>decide (q.1=p.1))=some p
 | y::l,p,hp,nd=>by
  rw [Y0a,Y12] at nd;rcases Y08.mp hp with rfl | hp
  ·simp
  ·have ne:¬ y.1=p.1:=λ z=>nd.1 (z▸Y0e.mpr ⟨p,hp,rfl⟩);rw [Y1j (by simpa using ne)];exact Zo hp nd.2
theorem QE (f cr:XY)(ev:Int)(l:196)(nd:171)(r:XW):wP f cr r ev l=zR 140 (yf f cr ev l r):=by
 unfold wP zR;rw [Y0m];refine List.map_congr_left λ p hp=>?_;show _=(Key.inr p.1,pr2 (yf f cr ev l r p.1));unfold yf;rw [Zo hp nd]
def QF (cl:126)(i:Nat)(f cr:XY)(ev:Int)(ns:XQ)(nr:Nat)(L:List Nr):Prop:=∀ (h:Hh) (r:XW) (n:Nat),h[nr]?=some 280->RestsOk h nr f cr L->RowsAt h n r ns->cl i [.loc nr,.loc n,.int ev] h=.ok 136 (h++[.dK (wP f cr r ev (L.map (·.1)))])
def Fix (f cr:XY)(ev:Int)(l:196)(m:Nat):Prop:=∀ x∈l.map (·.1),rwN f cr ev l (m+1) x=rwN f cr ev l m x
theorem RestsOk.app {L:List Nr}(r:RestsOk h nr f cr L):RestsOk (h++J) nr f cr L:=λ q hq=>⟨(r q hq).1,(r q hq).2.app⟩
theorem UX (cl:126)(f cr:XY)(ev:Int)(nr:Nat)(L:List Nr)(l:196)(el:L.map (·.1)=l)(nd:171)(A:QF cl 21 f cr ev 140 nr L)(pr dd:D)(lo:Nat):∀ (k n:Nat) (h:Hh) (a b:Nat),lo<=a/\lo<=b/\lo<=h.length->(∃ m,n<=m/\m<=n+k/\Fix f cr ev l m)->h[nr]?=some 280->RestsOk h nr f cr L->h[a]?=some (.dK (zR 140 191))->h[b]?=some (.dK (zR 140 236)) ->
  ∃ J a' b' m,whR (λ ρ h=>w_found_rows_1.evT cl ρ h) (λ ρ h=>b_found_rows_1.run cl ρ h) 303 h=.nx [some pr,some dd,some 242,some (.int ev),some (.loc a'),some (.loc b')] (h++J)/\(h++J)[a']?=some (.dK 254)/\Fix f cr ev l m/\lo<=a':=by
 intro k;have tst:∀ (n:Nat) (h:Hh) (a b:Nat),h[a]?=some (.dK (zR 140 191))->h[b]?=some (.dK (zR 140 236))->∀ t,((l.map (·.1)).all λ x=>decide (rwN f cr ev l (n+1) x=rwN f cr ev l n x))=t->w_found_rows_1.evT cl 303 h=.ok (!t) h:=λ n h a b ga gb t ht=>by
  have q:=z9f (Yf gb) (Yf ga);rw [ht] at q;exact bnd (bnd rfl (bnd rfl q)) rfl
 have fin:∀ (n:Nat) (h:Hh) (a b:Nat),lo<=a->Fix f cr ev l n->h[a]?=some (.dK (zR 140 191))->h[b]?=some (.dK (zR 140 236)) ->
  ∃ J a' b' m,whR (λ ρ h=>w_found_rows_1.evT cl ρ h) (λ ρ h=>b_found_rows_1.run cl ρ h) 303 h=.nx [some pr,some dd,some 242,some (.int ev),some (.loc a'),some (.loc b')] (h++J)/\(h++J)[a']?=some (.dK 254)/\Fix f cr ev l m/\lo<=a':=λ n h a b la fx ga gb =>
  ⟨[],a,b,n,by rw [Y0v];exact qZ (tst n h a b ga gb true (Y17.mpr λ x hx=>decide_eq_true (fx x hx))),by rw [Y0v];exact ga,fx,la⟩
 induction k with
 | zero =>
  intro n h a b lo3 ⟨m,m1,m2,fx⟩ hr ro ga gb;have e:m=n:=by omega
  subst e;exact fin m h a b lo3.1 fx ga gb
 | succ k ih =>
  intro n h a b lo3 ⟨m,m1,m2,fx⟩ hr ro ga gb;by_cases c:Fix f cr ev l n
  ·exact fin n h a b lo3.1 c ga gb
  ·have mn:m≠n:=λ z=>c (z▸fx);have ne:((l.map (·.1)).all λ x=>decide (rwN f cr ev l (n+1) x=rwN f cr ev l n x))=false:=by
    rw [Bool.eq_false_iff];intro z;exact c λ x hx=>of_decide_eq_true (Y17.mp z x hx)
   have e1:=A h 236 b hr ro (RowsAt.tab gb);rw [el,QE f cr ev l nd] at e1;obtain ⟨J,a',b',m',e2,g2,fx2,la2⟩:=ih (n+1) (h++[.dK (zR 140 (rwN f cr ev l (n+2)))]) b h.length ⟨lo3.2.1,lo3.2.2,by rw [Y05];omega⟩ ⟨m,by omega,by omega,fx⟩ (zn hr) ro.app (zn gb) 188;refine ⟨[.dK (zR 140 (rwN f cr ev l (n+2)))]++J,a',b',m',?_,by rw [<- Y0i];exact g2,fx2,la2⟩;rw [<- Y0i,<- e2];refine ZO (tst n h a b ga gb false ne) ?_;exact zf rfl (zf (zD rfl 169 e1) rfl)
theorem Wu:∀ (more acc:157),(more.map (·.1)).Nodup->(∀ u∈more,∀ v∈acc,v.1≠u.1)->yA acc more=acc++more
 | [],acc,_,_=>(Y0v _).symm
 | u::r,acc,nd,dj=>by
  rw [Y0a,Y12] at nd;show yA (qY acc u.1 u.2) r=_;rw [Qx (λ p hp=>dj u Y04 p hp),Wu r _ nd.2,Y0i]
  ·rfl
  ·intro y hy v hv;rcases Y0j.mp hv with z | z
   ·exact dj y (Y02 _ hy) v z
   ·rw [Y0d.mp z];exact λ q=>nd.1 (q▸Y0e.mpr ⟨y,hy,rfl⟩)
theorem OP (nd:ns.Nodup)(r:XW):yA [] (zR ns r)=zR ns r:=by
 rw [Wu _ _ _ (λ _ _ v hv=>absurd hv 130),Y0n];unfold zR;rw [Y0m];exact nd.map (f:=λ x:Str=>(Key.inr x)) (λ a b z q=>z (Key.inr.inj q))
theorem Wv (r:XW):∀ ns:List Str,wJ (ns.map λ x=>D.tup [.str x,pr2 (r x)])=some (zR ns r)
 | []=>rfl
 | x::ns=>by rw [Y0a,wJ,Wv r ns];rfl
theorem zc9 (he:199)(g:h1[n]?=some (.lst (ns.map λ x=>D.tup [.str x,pr2 (r x)])))(nd:ns.Nodup)(hl:ns.length<=1000000):E.ev cl (.dicP e p p1) ρ h=.ok (.loc h1.length) (h1++[.dK (zR ns r)]):=by
 refine bnd he ?_;show Yp 151 h1=_;unfold Yp;dsimp only;rw [zN g];dsimp only;rw [if_pos (by rw [Y07];exact hl),Wv];show new (O.dK (yA [] (zR ns r))) h1=_;rw [OP nd];rfl
theorem z5i (cl:126)(f cr:XY)(ev:Int)(ds:XQ)(l:196)(nn:171)(hl:l.length<=900)
  (Rs:215)
  (Rb:∀ (h:Hh) (nd:Nat),h[nd]?=some 149->cl 6 [.loc nd,.loc nd] h=.ok (.int ev) (h++[.dK (zw 0 ds)]))
  (A:∀ (nr:Nat) (L:List Nr),L.map (·.1)=l->QF cl 21 f cr ev 140 nr L) (fx:∃ m,m<=900/\Fix f cr ev l m) (nd:Nat) (h:Hh) (hd:h[nd]?=some 149) :
  ∃ h' a m,d_found_rows.run cl [.tup 134,.loc nd] h=.ok (.loc a) h'/\Kx [] h h'/\h'[a]?=some (.dK 254)/\Fix f cr ev l m/\h.length<=a:=by
 obtain ⟨h1,nr,L,e1,k1,ln,el,g1,r1⟩:=Rs h nd hd;have e2:=Rb h1 nd (k1.2 _ _ hd 130);have g2:(h1++147)[nr]?=some (.dK (nrK L)):=zn g1;have r2:RestsOk (h1++147) nr f cr L:=r1.app;have k2:Kx [] h (h1++147):=k1.trans (Kx.app _ _);generalize hh2:h1++147=h2 at e2 g2 r2 k2;have g3:(h2.set nr 280)[nr]?=some 280:=w4 g2;have r3:RestsOk (h2.set nr 280) nr f cr L:=λ q hq=>⟨(r2 q hq).1,(r2 q hq).2.keep 187 (r2 q hq).1⟩;have k3:Kx [] h (h2.set nr 280):=⟨by rw [Y1f];exact k2.1,λ i o ei _=>by
  have li:=(Y00.mp ei).1;exact jK (k2.2 i o ei 130) 128⟩
 have kd:=λ (ρ:En) (e:E) (he:e.ev cl ρ h2=.ok (.loc nr) h2)=>QD he g2;generalize hh3:h2.set nr 280=h3 at g3 r3 k3 kd;have ek:(nrK L).map (λ p=>dK1 p.1)=(l.map (·.1)).map D.str:=by unfold nrK;rw [<- el,Y0m,Y0m,Y0m];rfl
 have key:=zM (λ x:Str=>D.str x) (f:=j1 J7 (jz [none] [some 228,some 161,some 242,some (.int ev),none,none]) (λ ρ' h2=>c_found_rows_2.evC cl ρ' h2) (λ ρ' h2=>e_found_rows_2.ev cl ρ' h2)) (h:=h3) ze (λ x=>some (.tup [.str x,pr2 (rwN f cr ev l 0 x)])) 140 [] (λ x _=>rfl);rw [jb,Y0n] at key;have e4:=A nr L el (h3++[O.lst ((l.map (·.1)).map λ x=>D.tup [.str x,pr2 (rwN f cr ev l 0 x)])]++[.dK (zR 140 (rwN f cr ev l 0))]) (rwN f cr ev l 0) _ (zn (zn g3)) r3.app.app (RowsAt.tab 188);rw [el,QE f cr ev l nn] at e4;obtain ⟨m,m1,fx⟩:=fx;have k3l:=k3.1;obtain ⟨J,a',b',m',e5,g5,fx5,la5⟩:=UX cl f cr ev nr L l el nn (A nr L el) 228 161 h.length 900 0 _ _ _ ⟨by simp;omega,by simp;omega,by simp;omega⟩ ⟨m,Y19 _,by omega,fx⟩ (zn (zn (zn g3))) r3.app.app.app (zn (zc (h3++[O.lst ((l.map (·.1)).map λ x=>D.tup [.str x,pr2 (rwN f cr ev l 0 x)])]) _)) 188;refine ⟨_,a',m',?_,k3.trans ((Kx.app _ _).trans ((Kx.app _ _).trans ((Kx.app _ _).trans (Kx.app _ J)))),g5,fx5,la5⟩;exact zg (zf (zD rfl 141 e1) (zf (zD rfl 141 e2) (zf (zc9 (zO ((kd _ _ rfl).trans (by rw [ek])) (by rw [Y07,Y07];omega) key) 188 nn (by rw [Y07];omega)) (zf (zD rfl 169 e4) (z1a e5 285)))))
section
variable {f cr:XY}{ev:Int}{l:196}{rank:Str->Nat}
theorem z5j (nn:171)(r:XW)(hp:p∈l):yf f cr ev l r p.1=qr f cr r ev p.2:=by
 unfold yf;rw [Zo hp nn]
end
theorem QG (hv:v.ev cl ρ h=.ok z h1)(ho:o.ev cl ρ h1=.ok 151 h1)(g:h1[n]?=some (.obj c fs))(hl:fs.length<1000)(k:Ss.run cl r ρ (h1.set n (.obj c (Yo fl z fs)))=R):Ss.run cl (.cons (.setF o fl v p1 p) r) ρ h=R:=by
 have e:y0 151 fl z h1=some (h1.set n (.obj c (Yo fl z fs))):=by
  unfold y0;dsimp only;rw [g];exact if_pos hl
 rw [jX,z0o,hv,andS_ok,ho,andS_ok,e];exact k
theorem Z0 (ho:o.ev cl ρ h=.ok 151 h1)(g:h1[n]?=some (.obj c fs))(q:fs.lookup fl=some d):E.ev cl (.fld o fl p) ρ h=.ok d h1:=by
 refine bnd ho ?_;show JC 151 fl h1=_;unfold JC;dsimp only;rw [g];dsimp only;rw [q]
theorem z1k {h:Hh}{n m:Nat}(g:h[n]?=some (.obj c fs))(g2:h[m]?=some o)(ho:∀ c fs,o≠.obj c fs):m≠n:=λ z=>by
 subst z;rw [g] at g2;cases g2;exact ho _ _ rfl
theorem z5k (cl:126)(f cr:XY)(ev:Int)(ds:XQ)(l:196)(nn:171)(hl:l.length<=900)(okc:∀ p∈l,okI p/\(∀ d∈p.2.heads,d∈ds)/\p.2.heads.length<=1000)(dl:ds.length<=1000)(dn:ds.Nodup)
  (D4:∀ h:Hh,∃ nd h',cl 4 [.tup 134] h=.ok 161 h'/\Kx [] h h'/\h'[nd]?=some 149)
  (Rb:∀ (h:Hh) (nd:Nat),h[nd]?=some 149->cl 6 [.loc nd,.loc nd] h=.ok (.int ev) (h++[.dK (zw 0 ds)])) (Bi:UW cl 5) (C:Jk cl 15 f ds (zw 0 ds))
  (Fd:∀ (h:Hh) (nd:Nat),h[nd]?=some 149->∃ h' a m,cl 20 [.tup 134,.loc nd] h=.ok (.loc a) h'/\Kx [] h h'/\h'[a]?=some (.dK 254)/\Fix f cr ev l m/\h.length<=a) (h:Hh) :
  ∃ h' nd nc a m,d_init_Found.run cl [.loc h.length,.tup 134] (h++[.obj "Found" []])=.ok .non h'/\Kx [] h h'/\h'[h.length]?=some (.obj "Found" [205,278,("clauses",.loc nc),("rows",.loc a)])/\h'[nd]?=some 149/\h'[a]?=some (.dK 254)/\Fix f cr ev l m/\h.length<=a:=by
 have kk:∀ {a b:Hh}{o:O},Kx [] h a->Kx [h.length] a b->Kx [] h b:=λ {a b o} x y=>⟨Y0y x.1 y.1,λ i o ei _=>y.2 i o (x.2 i o ei 130) (by have:=(Y00.mp ei).1;simp;omega)⟩;obtain ⟨nd,h1,e1,k1,g1⟩:=D4 (h++[.obj "Found" []]);have o1:=k1.2 _ _ (zc h (.obj "Found" [])) 130;have n1:=z1k o1 g1 (λ _ _ z=>by cases z);have o2:=w4 (o:=O.obj "Found" [205]) o1;have g2:=jK (o:=O.obj "Found" [205]) g1 n1;have k2:Kx [] h (h1.set h.length (O.obj "Found" [205])):=kk (o:=O.lst []) ((Kx.app h _).trans k1) 187;generalize hh2:h1.set h.length (O.obj "Found" [205])=h2 at o2 g2 k2;have e3:=Rb h2 nd g2;have o3:=w4 (o:=O.obj "Found" [205,278]) (zn (J:=147) o2);have g3:=jK (o:=O.obj "Found" [205,278]) (zn (J:=147) g2) n1;have k3:Kx [] h ((h2++147).set h.length (O.obj "Found" [205,278])):=kk (o:=O.lst []) (k2.trans (Kx.app _ _)) 187;generalize hh3:(h2++147).set h.length (O.obj "Found" [205,278])=h3 at o3 g3 k3;have e4:=Bi h3 nd ds g3 dl dn;obtain ⟨h4,e5,k5,g5⟩:=C h3.length l (h3++147) 188 okc nn hl;have o5:=w4 (o:=O.obj "Found" [205,278,("clauses",.loc (h3++147).length)]) (k5.2 _ _ (zn o3) 130);have g6:=jK (o:=O.obj "Found" [205,278,("clauses",.loc (h3++147).length)]) (k5.2 _ _ (zn g3) 130) n1;have k6:Kx [] h (h4.set h.length (O.obj "Found" [205,278,("clauses",.loc (h3++147).length)])):=kk (o:=O.lst []) ((k3.trans (Kx.app _ _)).trans k5) 187;have o4:=k5.2 _ _ (zn o3) 130;generalize hnc:(h3++147).length=nc at *
 generalize hh6:h4.set h.length (O.obj "Found" [205,278,("clauses",.loc nc)])=h6 at o5 g6 k6;obtain ⟨h7,a,m,e7,k7,g7,fx,la⟩:=Fd h6 nd g6;have o7:=k7.2 _ _ o5 130;have na:=z1k o7 g7 (λ _ _ z=>by cases z);refine ⟨h7.set h.length (O.obj "Found" [205,278,("clauses",.loc nc),("rows",.loc a)]),nd,nc,a,m,?_,kk (o:=O.lst []) (k6.trans k7) 187,w4 o7,jK (k7.2 _ _ g6 130) n1,jK g7 na,fx,Y0y k6.1 la⟩;refine z8z (ρ:=[some 136,some 228]) (QG (zD rfl rfl e1) rfl o1 127 ?_);refine (congrArg _ hh2).trans (QG (zD (Z0 rfl o2 rfl) (cns (Z0 rfl o2 rfl) rfl) e3) rfl (zn o2) (show 1<1000 by decide) ?_);refine (congrArg _ hh3).trans (QG (zD rfl (cns (zD (Z0 rfl o3 rfl) rfl e4) rfl) e5) rfl o4 (show 2<1000 by decide) ?_);refine (congrArg _ hh6).trans (QG (zD rfl (cns (Z0 rfl o5 rfl) rfl) e7) rfl o7 (show 3<1000 by decide) ?_);rfl
def foO (nd:Nat)(ev:Int)(nc a:Nat):O:=.obj "Found" [205,278,("clauses",.loc nc),("rows",.loc a)]
def UY (cl:126)(i:Nat):Prop:=∀ (h:Hh) (nd:Nat) (R:Int) (ds:XQ),h[nd]?=some 149->ds.length<=1000->cl i [.int R,.loc nd] h=.ok 136 (h++[.lst (txs (zI R ds))])
def G8 (cl:126)(i:Nat)(f cr:XY)(ev:Int)(ds:XQ)(l:196):Prop:=∀ h:Hh,∃ h' nd nc a m,cl i [.loc h.length,.tup 134] (h++[.obj "Found" []])=.ok .non h'/\Kx [] h h'/\h'[h.length]?=some (foO nd ev nc a)/\h'[nd]?=some 149/\h'[a]?=some (.dK 254)/\Fix f cr ev l m/\h.length<=a
abbrev Tl:=Str×Nat×Nat
def kvT (l:List Tl):List (Key×D):=l.map λ q=>(.inr q.1,.tup [.loc q.2.1,.loc q.2.2])
def TabOk (h:Hh)(nt:Nat)(r:XW)(ds:XQ)(l:List Tl):Prop:=∀ q∈l,nt<q.2.1/\nt<q.2.2/\h[q.2.1]?=some (.lst (txs (zI (r q.1).1 ds)))/\h[q.2.2]?=some (.lst (txs (zI (r q.1).2 ds)))
theorem TabOk.keep (t:TabOk h nt r ds l)(k:Kx [nt] h h'):TabOk h' nt r ds l:=λ q hq=>⟨(t q hq).1,(t q hq).2.1,k.2 _ _ (t q hq).2.2.1 (by simpa using Y20 (t q hq).1),k.2 _ _ (t q hq).2.2.2 (by simpa using Y20 (t q hq).2.1)⟩
theorem RowsAt.keep (r:RowsAt h n rw ns)(k:Kx [nt] h h')(z:n≠nt):RowsAt h' n rw ns:=by
 obtain ⟨kvs,g,v⟩:=r.ex;exact ⟨kvs,g.imp (λ e=>k.2 _ _ e (by simpa using z)) (λ e=>k.2 _ _ e (by simpa using z)),v⟩
theorem Ww (cl:126)(T:UY cl 7)(r:XW)(ds ns:XQ)(dl:ds.length<=1000)(pr:D)(n nd nc a nt:Nat)(ev:Int)(z1:n≠nt)(z2:a≠nt)(z3:nd≠nt):∀ (L:XQ) (tl:List Tl) (t w:168) (h:Hh),h[n]?=some (foO nd ev nc a)->RowsAt h a r ns->h[nd]?=some 149->h[nt]?=some (.dK (kvT tl))->TabOk h nt r ds tl->(∀ x∈L,x∈ns)->(tl.map (·.1)++L).Nodup->tl.length+L.length<=900 ->
  ∃ h' tl' t' w',zu [] (zH qB λ ρ' h'=>b_open_rows_1.run cl ρ' h') (L.map D.str) [some pr,some 151,some (.loc nt),t,w] h=.nx [some pr,some 151,some (.loc nt),t',w'] h'/\Kx [nt] h h'/\tl'.map (·.1)=tl.map (·.1)++L/\h'[nt]?=some (.dK (kvT tl'))/\TabOk h' nt r ds tl'
 | [],tl,t,w,h,g1,ra,g2,g3,to,_,_,_=>⟨h,tl,t,w,by rw [Y0u,zu,if_pos ze],Kx.refl _ _,by rw [Y0v],g3,to⟩
 | x::L,tl,t,w,h,g1,ra,g2,g3,to,hs,nn,hl=>by
  rw [Y09] at hl;have v:=ra.sub (hs x Y04);have lt:=(Y00.mp g3).1;have e1:=T h nd (r x).1 ds g2 dl;have e2:=T (h++150) nd (r x).2 ds (zn g2) dl;have hn:∀ u∈kvT tl,u.1≠.inr x:=λ u hu z=>by
   unfold kvT at hu;obtain ⟨y,hy,rfl⟩:=Y0e.mp hu;have z:=Key.inr.inj z;exact (Y2a.mp nn).2.2 y.1 (Y0e.mpr ⟨y,hy,rfl⟩) x Y04 z
  have kk:Kx [nt] h ((h++150++[O.lst (txs (zI (r x).2 ds))]).set nt (.dK (kvT tl++[(.inr x,.tup [.loc h.length,.loc (h++150).length])]))):=(Kx.app _ _).trans ((Kx.app _ _).trans 187);have st:zH qB (λ ρ' h'=>b_open_rows_1.run cl ρ' h') 172 [some pr,some 151,some (.loc nt),t,w] h=.nx [some pr,some 151,some (.loc nt),some 172,some (pr2 (r x))] ((h++150++[O.lst (txs (zI (r x).2 ds))]).set nt (.dK (kvT tl++[(.inr x,.tup [.loc h.length,.loc (h++150).length])]))) :=
   zf (bnd (Z0 rfl g1 rfl) (bnd rfl v)) (Wn (we (cns (zD 129 (cns (Z0 rfl g1 rfl) rfl) e1) (cns (zD 129 (cns (Z0 rfl (zn g1) rfl) rfl) e2) rfl)) (show 2<=1000 by decide)) rfl rfl (ye (zn (zn g3)) (by unfold kvT;rw [Y07];omega) hn) rfl)
  have g3':=w4 (o:=O.dK (kvT (tl++[(x,h.length,(h++150).length)]))) (zn (J:=[O.lst (txs (zI (r x).2 ds))]) (zn (J:=150) g3));have ek:kvT tl++[(.inr x,.tup [.loc h.length,.loc (h++150).length])]=kvT (tl++[(x,h.length,(h++150).length)]):=by unfold kvT;rw [Y0o];rfl
  rw [ek] at st kk;have l2:(h++150).length=h.length+1:=by simp
  have to':TabOk ((h++150++[O.lst (txs (zI (r x).2 ds))]).set nt (.dK (kvT (tl++[(x,h.length,(h++150).length)])))) nt r ds (tl++[(x,h.length,(h++150).length)]):=λ q hq=>by
   rcases Y0j.mp hq with hq | hq
   ·exact (to.keep kk) q hq
   ·cases Y0d.mp hq;exact ⟨lt,by show nt<(h++150).length;rw [l2];omega,jK (zn 188) (by show h.length≠nt;omega),jK 188 (by show (h++150).length≠nt;rw [l2];omega)⟩
  obtain ⟨h2,tl2,t2,w2,e3,k3,m3,g4,to3⟩:=Ww cl T r ds ns dl pr n nd nc a nt ev z1 z2 z3 L _ (some 172) (some (pr2 (r x))) _ (kk.2 _ _ g1 (by simpa using z1)) (ra.keep kk z2) (kk.2 _ _ g2 (by simpa using z3)) g3' to' (λ y hy=>hs y (Y02 _ hy)) (by rw [Y0o,Y0i];exact nn) 154;refine ⟨h2,tl2,t2,w2,?_,kk.trans k3,by rw [m3,Y0o,Y0i];rfl,g4,to3⟩;rw [Y0a,zu,if_pos ze,st];exact e3
theorem YM (ns:XQ)(r:XW):(zR ns r).map (λ p=>dK1 p.1)=ns.map D.str:=by unfold zR;rw [Y0m];rfl
theorem z9g (cl:126)(f cr:XY)(ev:Int)(ds:XQ)(l:196)(T:UY cl 7)(Fo:G8 cl 52 f cr ev ds l)(dl:ds.length<=1000)(nn:171)(hl:l.length<=900)(h:Hh) :
  ∃ h' nt tl m,d_open_rows.run cl [.tup 134] h=.ok (.loc nt) h'/\Kx [] h h'/\h.length<=nt/\tl.map (·.1)=l.map (·.1)/\h'[nt]?=some (.dK (kvT tl))/\TabOk h' nt 144 ds tl/\Fix f cr ev l m:=by
 obtain ⟨h1,nd,nc,a,m,e1,k1,g1,g2,g3,fx,lo⟩:=Fo h;have l1:=(Y00.mp g1).1;have la:=(Y00.mp g3).1;have ld:=(Y00.mp g2).1;have na:=(z1k g1 g3 (λ _ _ z=>by cases z)).symm;have nda:nd≠a:=λ z=>by rw [z,g3] at g2;cases g2
 have g3':(h1++[O.dK []])[a]?=some (.dK 254):=zn g3;have f1:((h1++[O.dK []]).set a (.fK 254))[h.length]?=some (foO nd ev nc a):=jK (zn g1) na;have f2:((h1++[O.dK []]).set a (.fK 254))[nd]?=some 149:=jK (zn g2) nda;have f3:RowsAt ((h1++[O.dK []]).set a (.fK 254)) a 144 140:=⟨_,.inr (w4 g3'),λ _ hx=>qo hx⟩;have f4:((h1++[O.dK []]).set a (.fK 254))[h1.length]?=some (.dK (kvT [])):=jK 188 128;obtain ⟨h2,tl,t',w',e2,k2,m2,g4,to⟩:=Ww cl T 144 ds 140 dl 228 h.length nd nc a h1.length ev 128 128 128 140 [] none none _ f1 f3 f2 f4 (λ q hq=>absurd hq 130) (λ x hx=>hx) (by simpa using nn) (by simpa using hl);refine ⟨h2,h1.length,tl,m,?_,⟨?_,λ i o ei _=>?_⟩,by omega,m2,g4,to,fx⟩
 ·refine zg (zf (bnd rfl (bnd rfl ?_)) (zf rfl (zT ((QD (Z0 rfl (zn g1) rfl) g3').trans (by rw [YM])) e2 285)));show mkR _ (cl 52 [.loc h.length,.tup 134] (h++[.obj "Found" []]))=_;rw [e1];rfl
 ·have:=k2.1
  simp at this
  have:=k1.1
  omega
 ·have li:=(Y00.mp ei).1;have ia:a≠i:=by omega
  exact k2.2 i o (jK (zn (k1.2 i o ei 130)) (Ne.symm ia)) 154
end K32
namespace K32
open PySem L2 PI KB
def msk (hb:Str->Bool)(k:Kd)(n:Nat):List Bool:=match k with
 | .handle x=>[false,hb x]
 | _=>List.replicate n false
section
variable (hb:Str->Bool)(P:Kd->Bool)
mutual
noncomputable def sm:G->Bool
 | .nd k ps=>P k||sms ps (msk hb k ps.length)
noncomputable def sms:List G->List Bool->Bool
 | [],_=>false
 | _::_,[]=>false
 | g::r,x::xs=>(!x&&sm g)||sms r xs
end
theorem G9:∀ ps:List G,sms hb P ps (List.replicate ps.length false)=ps.any (sm hb P)
 | []=>by rw [sms];rfl
 | g::r=>by rw [Y09,Y14,sms,G9 r];rfl
theorem zca (k:Kd)(ps:260)(hk:k.hnd=none):sm hb P (.nd k ps)=(P k||ps.any (sm hb P)):=by
 have e:msk hb k ps.length=List.replicate ps.length false:=by cases k<;>first | rfl | cases hk
 rw [sm,e,G9]
theorem zcb (x:Str)(s b:G):sm hb P (.nd (.handle x) [s,b])=(P (.handle x)||(sm hb P s||(!hb x&&sm hb P b))):=by
 rw [sm];show (_||sms hb P [s,b] [false,hb x])=_;rw [sms,sms,sms,Y1d];rfl
end
theorem z5l (cr:XY)(i:Nat)(k:Kd)(a:Int)(n:Nat):(OM cr k a n).map (λ x=>tb x i)=(msk 206 k n).map (λ m=>tb a i||m):=by
 cases k with
 | handle x=>show [tb a i,tb (Builtin.bitOr a (cr x)) i]=[tb a i||false,tb a i||tb (cr x) i];rw [qA,Y1d]
 | _=>show (List.replicate n a).map _=(List.replicate n false).map _;simp
section
variable (cr:XY)(i:Nat)(P:Kd->Bool)
mutual
theorem z1l:∀ (g:G) (a:Int),(wk cr g a).any (λ p=>P 289&&!tb p.2 i)=(!tb a i&&sm 206 P g)
 | .nd k ps,a=>by
  rw [wk,Y0p,wks_any ps (OM cr k a ps.length) (msk 206 k ps.length) a (z5l ..),sm];show (P k&&!tb a i||_)=_;cases P k<;>cases tb a i<;>simp
theorem wks_any:∀ (gs:260) (as:179) (ms:List Bool) (a:Int),as.map (λ x=>tb x i)=ms.map (λ m=>tb a i||m)->(wks cr gs as).any (λ p=>P 289&&!tb p.2 i)=(!tb a i&&sms 206 P gs ms)
 | [],as,ms,a,h=>by rw [wks,sms];simp
 | g::r,[],[],a,h=>by rw [wks,sms];simp
 | g::r,[],m::ms,a,h=>by simp at h
 | g::r,x::xs,[],a,h=>by simp at h
 | g::r,x::xs,m::ms,a,h=>by
  rw [Y0a,Y0a] at h;injection h with h1 h2;rw [wks,List.any_append,wks_any r xs ms a h2,z1l g x,sms,h1];cases tb a i<;>cases m<;>simp [Bool.or_comm]
end
theorem QH:∀ bs:List G,(wkW cr 230).any (λ p=>P 289&&!tb p.2 i)=bs.any (sm 206 P)
 | []=>rfl
 | g::r=>by
  rw [Y0a,wkW,List.any_append,QH r,Y0p];show (_||(wk cr g 0).any _)=_;rw [z1l,zA,Bool.or_comm];rfl
end
def dP (f:XY)(i:Nat):Kd->Bool
 | .doo d=>tb (f d) i
 | _=>false
theorem yg (x y:Int)(i:Nat):tb (lsI x y) i=(tb x i&&!tb y i):=by unfold lsI;rw [US,Qj]
theorem Ga (f:XY)(i:Nat):∀ (L:List Pa) (x:Int),tb (L.foldl (yd f) x) i=(tb x i||L.any λ p=>dP f i 289&&!tb p.2 i)
 | [],x=>by simp
 | p::L,x=>by
  rw [Y1g,Ga f i L,Y0p,<- Y2c]
  congr 1
  obtain ⟨⟨k,ps⟩,a⟩:=p;cases k with
  | doo d=>show tb (Builtin.bitOr x (lsI (f d) a)) i=_;rw [qA,yg];rfl
  | _=>show tb x i=(tb x i||(false&&_));simp
theorem YN (rw':XW)(ev:Int)(ob:XX)(i:Nat):∀ (us:List Pa) (acc:Int×Int),(tb acc.2 i=true->tb acc.1 i=false) ->
  tb (us.foldl (Zi rw' ev ob) acc).1 i=(tb acc.1 i||us.any λ p=>tb (js rw' ev ob 289).1 i&&!tb p.2 i) /\
  tb (us.foldl (Zi rw' ev ob) acc).2 i=(!tb (us.foldl (Zi rw' ev ob) acc).1 i&&(tb acc.2 i||us.any λ p=>tb (js rw' ev ob 289).2 i&&!tb p.2 i))
 | [],acc,h=>by
  refine ⟨by simp,?_⟩;show tb acc.2 i=(!tb acc.1 i&&(tb acc.2 i||false));cases e1:tb acc.1 i<;>cases e2:tb acc.2 i<;>simp_all
 | p::us,acc,h=>by
  have q1:tb (Zi rw' ev ob acc p).1 i=(tb acc.1 i||(tb (js rw' ev ob 289).1 i&&!tb p.2 i)):=by
   show tb (Builtin.bitOr acc.1 (lsI _ p.2)) i=_;rw [qA,yg]
  have q2:tb (Zi rw' ev ob acc p).2 i=(!tb (Zi rw' ev ob acc p).1 i&&(tb acc.2 i||(tb (js rw' ev ob 289).2 i&&!tb p.2 i))):=by
   rw [q1];show tb (lsI (Builtin.bitOr acc.2 (lsI (lsI _ p.2) (lsI _ p.2))) (Builtin.bitOr acc.1 (lsI _ p.2))) i=_;rw [yg,qA,qA,yg,yg,yg];generalize tb acc.2 i=A;generalize tb acc.1 i=B;generalize tb (js rw' ev ob 289).1 i=C;generalize tb (js rw' ev ob 289).2 i=E;generalize tb p.2 i=F
   revert A B C E F
   decide
  obtain ⟨i1,i2⟩:=YN rw' ev ob i us (Zi rw' ev ob acc p) (λ z=>by rw [q2,Y0l] at z;simpa using z.1);rw [Y1g,Y0p,Y0p];refine ⟨by rw [i1,q1,Y2c],?_⟩;rw [i2,q2,i1];generalize (us.any λ p=>tb (js rw' ev ob 289).1 i&&!tb p.2 i)=U;generalize (us.any λ p=>tb (js rw' ev ob 289).2 i&&!tb p.2 i)=V;generalize tb acc.2 i=A;generalize (tb (js rw' ev ob 289).2 i&&!tb p.2 i)=B;generalize tb (Zi rw' ev ob acc p).1 i=C
  revert U V A B C
  decide
theorem YO (L:List Pa)(F:Pa->Bool)(h:∀ p,wf p=false->F p=false):(L.filter wf).any F=L.any F:=by
 induction L with
 | nil=>rfl
 | cons p L ih =>
  rw [Y2h];cases e:wf p with
  | true=>rw [if_pos rfl,Y0p,Y0p,ih]
  | false=>rw [if_neg 130,Y0p,ih,h p e];rfl
def oK (f:XY)(rw':XW)(ev:Int)(ob:XX)(i:Nat)(k:Kd):Bool:=dP f i k||tb (js rw' ev ob k).1 i
def lK (rw':XW)(ev:Int)(ob:XX)(i:Nat)(k:Kd):Bool:=tb (js rw' ev ob k).2 i
theorem z1m (L:List α)(F G:α->Bool):(L.any F||L.any G)=L.any λ p=>F p||G p:=by
 induction L with
 | nil=>rfl
 | cons x L ih =>
  rw [Y0p,Y0p,Y0p,<- ih];cases F x<;>cases G x<;>simp
theorem z1n (rw':XW)(ev:Int)(ob:XX)(p:Pa)(h:wf p=false):js rw' ev ob 289=(0,0):=by
 obtain ⟨⟨k,ps⟩,a⟩:=p;cases k<;>first | rfl | cases h
theorem Jm (f cr:XY)(rw':XW)(ev:Int)(it:It)(i:Nat) :
  tb (qr f cr rw' ev it).1 i=it.bods.any (sm 206 (oK f rw' ev it.ownS i)) /\
  tb (qr f cr rw' ev it).2 i=(!tb (qr f cr rw' ev it).1 i&&it.bods.any (sm 206 (lK rw' ev it.ownS i))):=by
 obtain ⟨e1,e2⟩:=YN rw' ev it.ownS i (usB cr it.bods) (dnB cr f it.bods,0) (λ z=>by rw [zA] at z;cases z);have u1:(usB cr it.bods).any (λ p=>tb (js rw' ev it.ownS 289).1 i&&!tb p.2 i)=(wkW cr (it.bods.map λ g=>(g,0))).any λ p=>tb (js rw' ev it.ownS 289).1 i&&!tb p.2 i:=YO _ _ λ p hp=>by rw [z1n _ _ _ p hp,zA];rfl
 have u2:(usB cr it.bods).any (λ p=>tb (js rw' ev it.ownS 289).2 i&&!tb p.2 i)=(wkW cr (it.bods.map λ g=>(g,0))).any λ p=>tb (js rw' ev it.ownS 289).2 i&&!tb p.2 i:=YO _ _ λ p hp=>by rw [z1n _ _ _ p hp,zA];rfl
 rw [u1] at e1;rw [u2,zA,Y2q] at e2;refine ⟨?_,?_⟩
 ·rw [<- QH];refine e1.trans ?_;show (tb (dnB cr f it.bods) i||_)=_;unfold dnB;rw [Ga,zA,Y2q,z1m]
  congr 1
  funext p
  unfold oK;cases dP f i 289<;>simp
 ·rw [<- QH];exact e2
mutual
def AllN (Q:Kd->Nat->Prop):G->Prop
 | .nd k ps=>Q k ps.length/\AllNs Q ps
def AllNs (Q:Kd->Nat->Prop):List G->Prop
 | []=>True
 | g::r=>AllN Q g/\AllNs Q r
end
theorem QI (h:Q k ps.length)(r:∀ g∈ps,AllN Q g):AllN Q (.nd k ps):=by
 have aux:∀ ps:List G,(∀ g∈ps,AllN Q g)->AllNs Q ps:=λ ps=>by
  induction ps with
  | nil=>intro _;rw [AllNs];trivial
  | cons g r ih=>intro h;rw [AllNs];exact ⟨h g Y04,ih λ x hx=>h x (Y02 _ hx)⟩
 rw [AllN];exact ⟨h,aux ps r⟩
mutual
theorem AllN.mono (h:∀ k n,Q k n->Q' k n):∀ g:G,AllN Q g->AllN Q' g
 | .nd k ps,a=>by rw [AllN] at a ⊢;exact ⟨h _ _ a.1,AllNs.mono h ps a.2⟩
theorem AllNs.mono (h:∀ k n,Q k n->Q' k n):∀ gs:List G,AllNs Q gs->AllNs Q' gs
 | [],_=>by rw [AllNs];trivial
 | g::r,a=>by rw [AllNs] at a ⊢;exact ⟨AllN.mono h g a.1,AllNs.mono h r a.2⟩
end
mutual
theorem z1o:∀ g:G,AllN (λ k _=>P k=P' k/\∀ x,k=.handle x->hb x=hb' x) g->sm hb P g=sm hb' P' g
 | .nd k ps,a=>by
  rw [AllN] at a;obtain ⟨⟨a1,a2⟩,a3⟩:=a;have e:msk hb k ps.length=msk hb' k ps.length:=by
   cases k with
   | handle x=>show [false,hb x]=[false,hb' x];rw [a2 x rfl]
   | _=>rfl
  rw [sm,sm,a1,e,sms_congr ps _ a3]
theorem sms_congr:∀ (gs:260) (ms:List Bool),AllNs (λ k _=>P k=P' k/\∀ x,k=.handle x->hb x=hb' x) gs->sms hb P gs ms=sms hb' P' gs ms
 | [],ms,_=>by rw [sms,sms]
 | g::r,[],_=>by rw [sms,sms]
 | g::r,m::ms,a=>by rw [AllNs] at a;rw [sms,sms,z1o g a.1,sms_congr r ms a.2]
end
section
variable (cr:XY){Q:Kd->Nat->Prop}
mutual
theorem YQ:∀ (g:G) (a:Int),AllN Q g->∀ p∈wk cr g a,∃ k ps,p.1=.nd k ps/\Q k ps.length
 | .nd k ps,a,h,p,hp=>by
  rw [AllN] at h;rw [wk] at hp;rcases Y08.mp hp with rfl | hp
  ·exact ⟨k,ps,rfl,h.1⟩
  ·exact wks_nodes ps _ h.2 p hp
theorem wks_nodes:∀ (gs:260) (as:179),AllNs Q gs->∀ p∈wks cr gs as,∃ k ps,p.1=.nd k ps/\Q k ps.length
 | [],_,_,p,hp=>by rw [wks] at hp;cases hp
 | _::_,[],_,p,hp=>by rw [wks] at hp;cases hp
 | g::r,x::xs,h,p,hp=>by
  rw [AllNs] at h;rw [wks] at hp;rcases Y0j.mp hp with hp | hp
  ·exact wks_nodes r xs h.2 p hp
  ·exact YQ g x h.1 p hp
end
theorem yJ:∀ (bs:260),(∀ g∈bs,AllN Q g)->∀ p∈wkW cr 230,∃ k ps,p.1=.nd k ps/\Q k ps.length
 | [],_,p,hp=>by cases hp
 | g::r,h,p,hp=>by
  rw [Y0a,wkW] at hp;rcases Y0j.mp hp with hp | hp
  ·exact yJ r (λ x hx=>h x (Y02 _ hx)) p hp
  ·exact YQ cr g 0 (h g Y04) p hp
mutual
theorem z1p:∀ (g:G) (a:Int),(wk cr g a).length<=g.size
 | .nd k ps,a=>by rw [wk,G.size,Y09];have:=wks_len ps (OM cr k a ps.length);omega
theorem wks_len:∀ (gs:260) (as:179),(wks cr gs as).length<=G.sizes gs
 | [],_=>by rw [wks];simp
 | _::_,[]=>by rw [wks];simp
 | g::r,x::xs=>by rw [wks,G.sizes,Y05];have:=wks_len r xs;have:=z1p g x;omega
end
theorem Gb:∀ bs:List G,(wkW cr 230).length<=G.sizes bs
 | []=>by simp [wkW]
 | g::r=>by
  rw [Y0a,wkW,Y05,G.sizes]
  have:=Gb r
  have:(wk cr g 0).length<=g.size:=z1p cr g 0
  show _+(wk cr g 0).length<=_;omega
end
theorem Jn:∀ (gs:260) (x:G),x∈pres gs ↔ ∃ g∈gs,x∈pre g
 | [],x=>by rw [pres];simp
 | g::r,x=>by
  rw [pres,Y0j,Jn r x];constructor
  ·rintro (⟨y,hy,hx⟩ | hx)
   ·exact ⟨y,Y02 _ hy,hx⟩
   ·exact ⟨g,Y04,hx⟩
  ·rintro ⟨y,hy,hx⟩
   rcases Y08.mp hy with rfl | hy
   ·exact .inr hx
   ·exact .inl ⟨y,hy,hx⟩
theorem Zp (k:Kd)(ps:260)(d:Str):d∈gdd (.nd k ps) ↔ k=.doo d\/∃ g∈ps,d∈gdd g:=by
 unfold gdd;rw [pre,Y1l];have e:(dd1 (.nd k ps)=some d) ↔ k=.doo d:=by
  cases k<;>simp [dd1]
 have f:d∈(pres ps).filterMap dd1 ↔ ∃ g∈ps,d∈(pre g).filterMap dd1:=by
  rw [Y1v];constructor
  ·rintro ⟨x,hx,q⟩
   obtain ⟨g,hg,hx⟩:=(Jn ps x).mp hx;exact ⟨g,hg,Y1v.mpr ⟨x,hx,q⟩⟩
  ·rintro ⟨g,hg,q⟩
   obtain ⟨x,hx,q⟩:=Y1v.mp q;exact ⟨x,(Jn ps x).mpr ⟨g,hg,hx⟩,q⟩
 cases c:dd1 (.nd k ps) with
 | none =>
  rw [c] at e;simp only [f];constructor
  ·exact .inr
  ·rintro (z | z)
   ·exact absurd (e.mpr z) 130
   ·exact z
 | some d' =>
  rw [c] at e;simp only [Y08,f];constructor
  ·rintro (z | z)
   ·exact .inl (e.mp (by rw [z]))
   ·exact .inr z
  ·rintro (z | z)
   ·have:=e.mpr z
    injection this with this;exact .inl this.symm
   ·exact .inr z
theorem QJ:∀ (j k:Nat),tb (2 ^ j) k=decide (k=j)
 | 0,0=>by decide
 | 0,k+1=>by
  rw [j6,show ((2:Int) ^ 0)/2=0 by decide,zA];exact (decide_eq_false 128).symm
 | j+1,0=>by
  rw [jf,Y28];rw [decide_eq_false 128,decide_eq_false 128]
 | j+1,k+1=>by
  rw [j6,Y28,Int.mul_ediv_cancel _ 127,QJ j k];simp
theorem z1q:∀ (j k:Nat) (x:Int),tb x j=false->tb (x+2 ^ j) k=(tb x k||decide (k=j))
 | 0,0,x,h=>by
  rw [jf] at h ⊢;have h:=of_decide_eq_false h;rw [jf,decide_eq_true (show (x+2 ^ 0)%2=1 by have:(2:Int) ^ 0=1:=rfl;omega)];simp
 | 0,k+1,x,h=>by
  rw [jf] at h;have h:=of_decide_eq_false h;rw [j6,j6,show (x+2 ^ 0)/2=x/2 by have:(2:Int) ^ 0=1:=rfl;omega];simp
 | j+1,0,x,h=>by
  rw [jf,jf,Y28,show (x+2 ^ j*2)%2=x%2 by omega];simp
 | j+1,k+1,x,h=>by
  rw [j6] at h;rw [j6,j6,Y28,show (x+2 ^ j*2)/2=x/2+2 ^ j by omega,z1q j k _ h];simp
mutual
theorem OQ:∀ g:G,AllN Q g->∀ x∈pre g,∃ k ps,x=.nd k ps/\Q k ps.length
 | .nd k ps,h,x,hx=>by
  rw [AllN] at h;rw [pre] at hx;rcases Y08.mp hx with rfl | hx
  ·exact ⟨k,ps,rfl,h.1⟩
  ·exact pres_nodes ps h.2 x hx
theorem pres_nodes:∀ gs:List G,AllNs Q gs->∀ x∈pres gs,∃ k ps,x=.nd k ps/\Q k ps.length
 | [],_,x,hx=>by rw [pres] at hx;cases hx
 | g::r,h,x,hx=>by
  rw [AllNs] at h;rw [pres] at hx;rcases Y0j.mp hx with hx | hx
  ·exact pres_nodes r h.2 x hx
  ·exact OQ g h.1 x hx
end
mutual
theorem z1r (cr:XY):∀ (g:G) (a:Int),∀ p∈wk cr g a,p.1∈pre g
 | .nd k ps,a,p,hp=>by
  rw [wk] at hp;rw [pre];rcases Y08.mp hp with rfl | hp
  ·exact Y04
  ·exact Y02 _ (wks_pre cr ps _ p hp)
theorem wks_pre (cr:XY):∀ (gs:260) (as:179),∀ p∈wks cr gs as,p.1∈pres gs
 | [],_,p,hp=>by rw [wks] at hp;cases hp
 | _::_,[],p,hp=>by rw [wks] at hp;cases hp
 | g::r,x::xs,p,hp=>by
  rw [wks] at hp;rw [pres];rcases Y0j.mp hp with hp | hp
  ·exact Y1h _ (wks_pre cr r xs p hp)
  ·exact Y0s _ (z1r cr g x p hp)
end
theorem Gc (cr:XY):∀ (bs:260),∀ p∈wkW cr 230,∃ g∈bs,p.1∈pre g
 | [],p,hp=>by cases hp
 | g::r,p,hp=>by
  rw [Y0a,wkW] at hp;rcases Y0j.mp hp with hp | hp
  ·obtain ⟨x,hx,q⟩:=Gc cr r p hp;exact ⟨x,Y02 _ hx,q⟩
  ·exact ⟨g,Y04,z1r cr g 0 p hp⟩
theorem z9h (h:.nd (.doo d) ps∈pre g):d∈gdd g:=by
 unfold gdd;exact Y1v.mpr ⟨_,h,rfl⟩
noncomputable def fB (ds:XQ)(d:Str):Int:=2 ^ ds.idxOf d
theorem QK {ds:XQ}(hy:y∈ds)(h:ds.idxOf x=ds.idxOf y):x=y:=by
 have hx:x∈ds:=by rw [<- List.idxOf_lt_length_iff,h];exact Y1a hy
 have e1:=Y2o (Y1a hx);have e2:=Y2o (Y1a hy);rw [<- e1,<- e2]
 congr 1
theorem z6t {ds:XQ}(hd:d∈ds):tb (fB ds x) (ds.idxOf d)=decide (x=d):=by
 unfold fB;rw [QJ,decide_eq_decide];constructor
 ·exact λ h=>QK hd h.symm
 ·intro h;rw [h]
theorem Gd:∀ (ds:XQ) (j:Nat) (d:Str),d∈ds->zK (zw j ds) (.inr d)=some (.int (2 ^ (j+ds.idxOf d)))
 | x::r,j,d,h=>by
  rw [zw];by_cases c:x=d
  ·subst c;simp [zK]
  ·have ih:=Gd r (j+1) d ((Y08.mp h).resolve_left λ z=>c z.symm);unfold zK at ih ⊢;rw [Y1j (by simpa using c),ih,List.idxOf_cons,beq_false_of_ne c];show some (D.int (2 ^ (j+1+r.idxOf d)))=some (D.int (2 ^ (j+(r.idxOf d+1))));rw [show j+1+r.idxOf d=j+(r.idxOf d+1) by omega]
theorem UZ (h:d∈ds):zK (zw 0 ds) (.inr d)=some (.int (fB ds d)):=by
 rw [Gd ds 0 d h,Nat.zero_add];rfl
theorem zcc {ds:XQ}(hd:d∈ds):tb (ds.foldl 183 0) (ds.idxOf d)=true:=by
 have aux:∀ (l:XQ) (a:Int),tb (l.foldl 183 a) (ds.idxOf d)=(tb a (ds.idxOf d)||l.any λ y=>decide (y=d)):=λ l=>by
  induction l with
  | nil=>intro a;simp
  | cons y l ih=>intro a;rw [Y1g,ih,qA,z6t hd,Y0p,Y2c]
 rw [aux,zA,Y2q,Y23];exact ⟨d,hd,by simp⟩
theorem z1s {ds:XQ}:∀ (hs:XQ),hs.Nodup->(∀ x∈hs,x∈ds)->∀ i,tb ((hs.map (fB ds)).sum) i=decide (i∈hs.map ds.idxOf)
 | [],_,_,i=>by rw [Y0u,List.sum_nil,zA];simp
 | x::r,nn,hs,i=>by
  obtain ⟨n1,n2⟩:=Y12.mp nn;have ih:=z1s r n2 λ y hy=>hs y (Y02 _ hy);have f0:tb ((r.map (fB ds)).sum) (ds.idxOf x)=false:=by
   rw [ih,decide_eq_false];intro z;obtain ⟨y,hy,e⟩:=Y0e.mp z
   have:y=x:=QK (hs x Y04) e
   exact n1 (this▸hy)
  rw [Y0a,List.sum_cons,Int.add_comm];unfold fB at ih f0 ⊢;rw [z1q _ _ _ f0,ih i,Y0a];by_cases q:i=ds.idxOf x<;>simp [q]
theorem w5:∀ (ds:XQ) (R:Int) (y:Str),y∈zI R ds ↔ ∃ i:Nat,ds[i]?=some y/\tb R i=true
 | [],R,y=>by simp [zI]
 | x::r,R,y=>by
  have ih:=w5 r (R/2) y;have split:(∃ i:Nat,(x::r)[i]?=some y/\tb R i=true) ↔ (x=y/\tb R 0=true)\/∃ i:Nat,r[i]?=some y/\tb (R/2) i=true:=by
   constructor
   ·rintro ⟨i,e,t⟩
    cases i with
    | zero=>exact .inl ⟨by simpa using e,t⟩
    | succ i=>exact .inr ⟨i,by simpa using e,by rw [<- j6];exact t⟩
   ·rintro (⟨e,t⟩ | ⟨i,e,t⟩)
    ·exact ⟨0,by simpa using e,t⟩
    ·exact ⟨i+1,by simpa using e,by rw [j6];exact t⟩
  rw [split,<- ih,zI,jf];by_cases c:R%2=1
  ·rw [if_pos c,Y08,decide_eq_true c];constructor
   ·rintro (h | h)
    ·exact .inl ⟨h.symm,rfl⟩
    ·exact .inr h
   ·rintro (⟨h,_⟩ | h)
    ·exact .inl h.symm
    ·exact .inr h
  ·rw [if_neg c,decide_eq_false c];simp
theorem jL:∀ (ds:XQ) (R:Int),(zI R ds).Sublist ds
 | [],R=>by rw [zI];exact List.Sublist.refl _
 | x::r,R=>by
  rw [zI]
  split
  ·exact (jL r (R/2)).cons_cons x
  ·exact (jL r (R/2)).cons x
section
variable {hb:Str->Bool}{P P':Kd->Bool}
mutual
theorem yh (h:∀ k,P k=true->P' k=true):∀ g:G,sm hb P g=true->sm hb P' g=true
 | .nd k ps,e=>by
  rw [sm,Y1q] at e ⊢;exact e.imp (h k) (sms_mono h ps _)
theorem sms_mono (h:∀ k,P k=true->P' k=true):∀ (gs:260) (ms:List Bool),sms hb P gs ms=true->sms hb P' gs ms=true
 | [],ms,e=>by rw [sms] at e;cases e
 | g::r,[],e=>by rw [sms] at e;cases e
 | g::r,m::ms,e=>by
  rw [sms,Y1q,Y0l] at e ⊢;exact e.imp (λ z=>⟨z.1,yh h g z.2⟩) (sms_mono h r ms)
end
mutual
theorem z6u:∀ g:G,sm hb (λ k=>P k||P' k) g=(sm hb P g||sm hb P' g)
 | .nd k ps=>by
  rw [sm,sm,sm,sms_or ps];cases P k<;>cases P' k<;>cases sms hb P ps (msk hb k ps.length)<;>simp
theorem sms_or:∀ (gs:260) (ms:List Bool),sms hb (λ k=>P k||P' k) gs ms=(sms hb P gs ms||sms hb P' gs ms)
 | [],ms=>by rw [sms,sms,sms];rfl
 | g::r,[]=>by rw [sms,sms,sms];rfl
 | g::r,m::ms=>by
  rw [sms,sms,sms,z6u g,sms_or r ms];cases m<;>cases sm hb P g<;>cases sm hb P' g<;>simp
end
mutual
theorem z1t:∀ g:G,AllN (λ k _=>P k=false) g->sm hb P g=false
 | .nd k ps,a=>by
  rw [AllN] at a;rw [sm,a.1,sms_no ps _ a.2];rfl
theorem sms_no:∀ (gs:260) (ms:List Bool),AllNs (λ k _=>P k=false) gs->sms hb P gs ms=false
 | [],ms,_=>by rw [sms]
 | g::r,[],_=>by rw [sms]
 | g::r,m::ms,a=>by rw [AllNs] at a;rw [sms,z1t g a.1,sms_no r ms a.2];simp
end
end
noncomputable def cO (fd:Str->Bool)(ob:XX)(o s:Str->Bool):Kd->Bool
 | .doo d=>fd d
 | .handle x=>o x
 | .call g oo=>if ob=some g then false else match oo with
  | none=>o g
  | some b=>if ob=some b then o g else o g||(s g&&o b)
 | _=>false
noncomputable def cS (fd:Str->Bool)(be:Bool)(ob:XX)(o s:Str->Bool):Kd->Bool
 | .doo d=>fd d
 | .handle x=>o x
 | .call g oo=>if ob=some g then be else match oo with
  | none=>o g
  | some b=>if ob=some b then s g else o g||(s g&&o b)
 | _=>false
def oB (R:XW)(i:Nat)(x:Str):Bool:=tb (R x).1 i
def sB (R:XW)(i:Nat)(x:Str):Bool:=tb (R x).1 i||tb (R x).2 i
theorem z6v (f:XY)(R:XW)(ev:Int)(ob:XX)(i:Nat)(k:Kd):oK f R ev ob i k=cO 167 ob (oB R i) (sB R i) k:=by
 cases k with
 | doo d=>show (tb (f d) i||tb 0 i)=tb (f d) i;rw [zA,Y1d]
 | handle x=>rfl
 | call g oo =>
  by_cases z:ob=some g
  ·have u:js R ev ob (.call g oo)=(0,ev):=if_pos z;have v:cO 167 ob (oB R i) (sB R i) (.call g oo)=false:=if_pos z;unfold oK;rw [u,v];show (false||tb 0 i)=false;rw [zA];rfl
  ·cases oo with
   | none =>
    have u:js R ev ob (.call g none)=((R g).1,0):=if_neg z;have v:cO 167 ob (oB R i) (sB R i) (.call g none)=oB R i g:=if_neg z;unfold oK;rw [u,v];rfl
   | some b =>
    by_cases y:ob=some b
    ·have u:js R ev ob 163=R g:=(if_neg z).trans (if_pos y);have v:cO 167 ob (oB R i) (sB R i) 163=oB R i g:=(if_neg z).trans (if_pos y);unfold oK;rw [u,v];rfl
    ·have u:js R ev ob 163=(Builtin.bitOr (R g).1 (Builtin.bitAnd (R g).2 (R b).1),0):=(if_neg z).trans (if_neg y);have v:cO 167 ob (oB R i) (sB R i) 163=(oB R i g||(sB R i g&&oB R i b)):=(if_neg z).trans (if_neg y);unfold oK;rw [u,v];show (false||tb (Builtin.bitOr (R g).1 (Builtin.bitAnd (R g).2 (R b).1)) i)=_;rw [qA,US];unfold oB sB;cases tb (R g).1 i<;>simp
 | _=>show (false||tb 0 i)=false;rw [zA];rfl
theorem zcd (f:XY)(R:XW)(ev:Int)(ob:XX)(i:Nat)(k:Kd):(oK f R ev ob i k||lK R ev ob i k)=cS 167 (tb ev i) ob (oB R i) (sB R i) k:=by
 rw [z6v];cases k with
 | doo d=>show (tb (f d) i||tb 0 i)=tb (f d) i;rw [zA,Y1d]
 | handle x=>show (oB R i x||tb 0 i)=oB R i x;rw [zA,Y1d]
 | call g oo =>
  by_cases z:ob=some g
  ·have u:js R ev ob (.call g oo)=(0,ev):=if_pos z;have v:cO 167 ob (oB R i) (sB R i) (.call g oo)=false:=if_pos z;have w:cS 167 (tb ev i) ob (oB R i) (sB R i) (.call g oo)=tb ev i:=if_pos z;unfold lK;rw [u,v,w];rfl
  ·cases oo with
   | none =>
    have u:js R ev ob (.call g none)=((R g).1,0):=if_neg z;have v:cO 167 ob (oB R i) (sB R i) (.call g none)=oB R i g:=if_neg z;have w:cS 167 (tb ev i) ob (oB R i) (sB R i) (.call g none)=oB R i g:=if_neg z;unfold lK;rw [u,v,w];show (_||tb 0 i)=_;rw [zA,Y1d]
   | some b =>
    by_cases y:ob=some b
    ·have u:js R ev ob 163=R g:=(if_neg z).trans (if_pos y);have v:cO 167 ob (oB R i) (sB R i) 163=oB R i g:=(if_neg z).trans (if_pos y);have w:cS 167 (tb ev i) ob (oB R i) (sB R i) 163=sB R i g:=(if_neg z).trans (if_pos y);unfold lK;rw [u,v,w];rfl
    ·have u:js R ev ob 163=(Builtin.bitOr (R g).1 (Builtin.bitAnd (R g).2 (R b).1),0):=(if_neg z).trans (if_neg y);have v:cO 167 ob (oB R i) (sB R i) 163=(oB R i g||(sB R i g&&oB R i b)):=(if_neg z).trans (if_neg y);have w:cS 167 (tb ev i) ob (oB R i) (sB R i) 163=(oB R i g||(sB R i g&&oB R i b)):=(if_neg z).trans (if_neg y);unfold lK;rw [u,v,w];show (_||tb 0 i)=_;rw [zA,Y1d]
 | _=>show (false||tb 0 i)=false;rw [zA];rfl
theorem z5m {ob:XX}(ho:∀ x,o x=true->o' x=true)(hs:∀ x,s x=true->s' x=true)(k:Kd):cO fd ob o s k=true->cO fd ob o' s' k=true:=by
 cases k with
 | doo d=>exact id
 | handle x=>exact ho x
 | call g oo =>
  by_cases z:ob=some g
  ·intro e;rw [show cO fd ob o s (.call g oo)=false from if_pos z] at e;cases e
  ·cases oo with
   | none=>rw [show cO fd ob o s (.call g none)=o g from if_neg z,show cO fd ob o' s' (.call g none)=o' g from if_neg z];exact ho g
   | some b =>
    by_cases y:ob=some b
    ·rw [show cO fd ob o s 163=o g from (if_neg z).trans (if_pos y),show cO fd ob o' s' 163=o' g from (if_neg z).trans (if_pos y)];exact ho g
    ·rw [show cO fd ob o s 163=(o g||(s g&&o b)) from (if_neg z).trans (if_neg y),show cO fd ob o' s' 163=(o' g||(s' g&&o' b)) from (if_neg z).trans (if_neg y),Y1q,Y1q,Y0l,Y0l];exact λ z=>z.imp (ho g) λ z=>⟨hs g z.1,ho b z.2⟩
 | _=>exact id
theorem z5n {ob:XX}(ho:∀ x,o x=true->o' x=true)(hs:∀ x,s x=true->s' x=true)(k:Kd):cS fd be ob o s k=true->cS fd be ob o' s' k=true:=by
 cases k with
 | doo d=>exact id
 | handle x=>exact ho x
 | call g oo =>
  by_cases z:ob=some g
  ·rw [show cS fd be ob o s (.call g oo)=be from if_pos z,show cS fd be ob o' s' (.call g oo)=be from if_pos z];exact id
  ·cases oo with
   | none=>rw [show cS fd be ob o s (.call g none)=o g from if_neg z,show cS fd be ob o' s' (.call g none)=o' g from if_neg z];exact ho g
   | some b =>
    by_cases y:ob=some b
    ·rw [show cS fd be ob o s 163=s g from (if_neg z).trans (if_pos y),show cS fd be ob o' s' 163=s' g from (if_neg z).trans (if_pos y)];exact hs g
    ·rw [show cS fd be ob o s 163=(o g||(s g&&o b)) from (if_neg z).trans (if_neg y),show cS fd be ob o' s' 163=(o' g||(s' g&&o' b)) from (if_neg z).trans (if_neg y),Y1q,Y1q,Y0l,Y0l];exact λ z=>z.imp (ho g) λ z=>⟨hs g z.1,ho b z.2⟩
 | _=>exact id
theorem Jo (f cr:XY)(R:XW)(ev:Int)(it:It)(i:Nat):tb (qr f cr R ev it).1 i=it.bods.any (sm 206 (cO 167 it.ownS (oB R i) (sB R i))):=by
 rw [(Jm f cr R ev it i).1]
 congr 2
 funext k
 exact z6v f R ev it.ownS i k
theorem Jp (f cr:XY)(R:XW)(ev:Int)(it:It)(i:Nat):(tb (qr f cr R ev it).1 i||tb (qr f cr R ev it).2 i)=it.bods.any (sm 206 (cS 167 (tb ev i) it.ownS (oB R i) (sB R i))):=by
 obtain ⟨e1,e2⟩:=Jm f cr R ev it i;have e3:(cS 167 (tb ev i) it.ownS (oB R i) (sB R i))=λ k=>oK f R ev it.ownS i k||lK R ev it.ownS i k:=by funext k;exact (zcd f R ev it.ownS i k).symm
 have e4:(sm 206 (λ k=>oK f R ev it.ownS i k||lK R ev it.ownS i k))=λ g=>sm 206 (oK f R ev it.ownS i) g||sm 206 (lK R ev it.ownS i) g:=by funext g;exact z6u g
 rw [e2,e3,e4,<- z1m,e1];cases it.bods.any (sm 206 (oK f R ev it.ownS i))<;>simp
theorem zce (f cr:XY)(R:XW)(ev:Int)(it:It)(i:Nat):tb (qr f cr R ev it).2 i=(!tb (qr f cr R ev it).1 i&&(tb (qr f cr R ev it).1 i||tb (qr f cr R ev it).2 i)):=by
 rw [(Jm f cr R ev it i).2];cases tb (qr f cr R ev it).1 i<;>simp
theorem Jq:∀ (L:List α),(∀ q∈L,a q=true->b q=true)->(L.filter a).length<=(L.filter b).length/\((∃ q∈L,a q≠b q)->(L.filter a).length<(L.filter b).length)
 | [],_=>⟨Y0b _,λ ⟨q,hq,_⟩=>by cases hq⟩
 | x::L,h=>by
  obtain ⟨i1,i2⟩:=Jq L λ q hq=>h q (Y02 _ hq);have hx:=h x Y04;rw [Y2h,Y2h];cases ea:a x<;>cases eb:b x
  ·refine ⟨by simpa [ea,eb] using i1,λ ⟨q,hq,z⟩=>?_⟩;rcases Y08.mp hq with rfl | hq
   ·rw [ea,eb] at z;exact absurd rfl z
   ·simpa [ea,eb] using i2 ⟨q,hq,z⟩
  ·constructor
   ·simp;omega
   ·intro _;simp;omega
  ·rw [ea] at hx;rw [eb] at hx;cases hx rfl
  ·refine ⟨by simpa [ea,eb] using i1,λ ⟨q,hq,z⟩=>?_⟩;rcases Y08.mp hq with rfl | hq
   ·rw [ea,eb] at z;exact absurd rfl z
   ·simpa [ea,eb] using i2 ⟨q,hq,z⟩
theorem zcf (L:List α)(v:Nat->α->Bool)(mono:∀ n,∀ q∈L,v n q=true->v (n+1) q=true):∃ m,m<=L.length/\∀ q∈L,v (m+1) q=v m q:=by
 rcases Classical.em (∃ m,m<=L.length/\∀ q∈L,v (m+1) q=v m q) with h | h
 ·exact h
 ·have grow:∀ n,n<=L.length+1->n<=(L.filter (v n)).length:=λ n=>by
   induction n with
   | zero=>intro _;exact Y19 _
   | succ n ih =>
    intro hn;have i:=ih 128;have ex:∃ q∈L,v n q≠v (n+1) q:=by
     rcases Classical.em (∃ q∈L,v n q≠v (n+1) q) with z | z
     ·exact z
     ·refine absurd ⟨n,by omega,λ q hq=>?_⟩ h;rcases Classical.em (v (n+1) q=v n q) with y | y
      ·exact y
      ·exact absurd ⟨q,hq,λ w=>y w.symm⟩ z
    have:=(Jq L (mono n)).2 ex
    omega
  have g:=grow (L.length+1) 175
  have:=Y3p (v (L.length+1)) L
  omega
section
variable {f cr:XY}{ev:Int}{l:196}
theorem qP (h:x∉l.map (·.1)):∀ n,rwN f cr ev l n x=(0,0)
 | 0=>rfl
 | n+1=>by
  show yf f cr ev l 191 x=_;unfold yf
  have:(l.find? λ p=>decide (p.1=x))=none:=by
   rw [Y3w];intro p hp z;exact h (Y0e.mpr ⟨p,hp,of_decide_eq_true z⟩)
  rw [this]
theorem Jr (nn:171)(hp:p∈l)(n:Nat):rwN f cr ev l (n+1) p.1=qr f cr 191 ev p.2:=z5j nn _ hp
theorem QL (nn:171)(i:Nat):∀ n,(∀ x,oB 191 i x=true->oB 236 i x=true)/\∀ x,sB 191 i x=true->sB 236 i x=true
 | 0=>⟨λ x h=>(by unfold oB at h;rw [show rwN f cr ev l 0 x=(0,0) from rfl,zA] at h;cases h),λ x h=>(by unfold sB at h;rw [show rwN f cr ev l 0 x=(0,0) from rfl,zA] at h;cases h)⟩
 | n+1=>by
  obtain ⟨i1,i2⟩:=QL nn i n;have key:∀ x,(oB 236 i x=true->oB (rwN f cr ev l (n+2)) i x=true)/\(sB 236 i x=true->sB (rwN f cr ev l (n+2)) i x=true):=λ x=>by
   by_cases hx:x∈l.map (·.1)
   ·obtain ⟨p,hp,rfl⟩:=Y0e.mp hx;unfold oB sB;rw [Jr nn hp (n+1),Jr nn hp n,Jp,Jp,Jo,Jo];constructor
    ·intro h;obtain ⟨g,hg,q⟩:=Y23.mp h;exact Y23.mpr ⟨g,hg,yh (λ k=>z5m i1 i2 k) g q⟩
    ·intro h;obtain ⟨g,hg,q⟩:=Y23.mp h;exact Y23.mpr ⟨g,hg,yh (λ k=>z5n i1 i2 k) g q⟩
   ·unfold oB sB;rw [qP hx (n+1),qP hx (n+2)];exact ⟨id,id⟩
  exact ⟨λ x=>(key x).1,λ x=>(key x).2⟩
theorem jT (nn:171)(hev:tb ev i=false)(hd:∀ p∈l,∀ g∈p.2.bods,AllN (λ k _=>∀ d,k=.doo d->tb (f d) i=false) g):∀ n x,oB 191 i x=false/\sB 191 i x=false
 | 0,x=>by unfold oB sB;rw [show rwN f cr ev l 0 x=(0,0) from rfl,zA];exact 210
 | n+1,x=>by
  have ih:=jT nn hev hd n;by_cases hx:x∈l.map (·.1)
  ·obtain ⟨p,hp,rfl⟩:=Y0e.mp hx;unfold oB sB;rw [Jr nn hp n,Jp,Jo];have z:∀ g∈p.2.bods,AllN (λ k _=>cO 167 p.2.ownS (oB 191 i) (sB 191 i) k=false/\cS 167 (tb ev i) p.2.ownS (oB 191 i) (sB 191 i) k=false) g:=λ g hg=>AllN.mono (λ k _ hk=>by
    cases k with
    | doo d=>exact ⟨hk d rfl,hk d rfl⟩
    | handle x=>exact ⟨(ih x).1,(ih x).1⟩
    | call g oo =>
     unfold cO cS;dsimp only
     split
     ·exact ⟨rfl,hev⟩
     ·cases oo with
      | none=>exact ⟨(ih g).1,(ih g).1⟩
      | some b =>
       dsimp only
       split
       ·exact ⟨(ih g).1,(ih g).2⟩
       ·rw [(ih g).1,(ih g).2];exact 210
    | _=>exact 210) g (hd p hp g hg)
   constructor
   ·rw [Y3c];intro g hg;rw [z1t g (AllN.mono (λ _ _ h=>h.1) g (z g hg))];simp
   ·rw [Y3c];intro g hg;rw [z1t g (AllN.mono (λ _ _ h=>h.2) g (z g hg))];simp
  ·unfold oB sB;rw [qP hx (n+1),zA];exact 210
theorem QM (nn:171)(i n:Nat)(hp:p∈l):tb (rwN f cr ev l (n+1) p.1).2 i=(!oB 236 i p.1&&sB 236 i p.1):=by
 unfold oB sB;rw [Jr nn hp n];exact zce f cr _ ev p.2 i
theorem z9i (nn:171)(N:Nat)(hev:∀ i,N<=i->tb ev i=false)(hd:∀ i,N<=i->∀ p∈l,∀ g∈p.2.bods,AllN (λ k _=>∀ d,k=.doo d->tb (f d) i=false) g) :
  ∃ m,m<=l.length*N*2+1/\Fix f cr ev l m:=by
 obtain ⟨m,hm,e⟩:=zcf ((l.map (·.1)).flatMap λ x=>(List.range N).flatMap λ i=>[(x,i,true),(x,i,false)]) (λ n q=>if q.2.2 then oB 191 q.2.1 q.1 else sB 191 q.2.1 q.1) (λ n q _ h=>by
  obtain ⟨x,i,b⟩:=q;cases b with
  | true=>exact (QL nn i n).1 x h
  | false=>exact (QL nn i n).2 x h)
 have ln:((l.map (·.1)).flatMap λ x=>(List.range N).flatMap λ i=>[(x,i,true),(x,i,false)]).length=l.length*N*2:=by
  have aux:∀ (L:XQ),(L.flatMap λ x=>(List.range N).flatMap λ i=>[(x,i,true),(x,i,false)]).length=L.length*(N*2):=λ L=>by
   induction L with
   | nil=>simp
   | cons x L ih =>
    rw [Y1c,Y05,ih,Y09]
    have:((List.range N).flatMap λ i=>[(x,i,true),(x,i,false)]).length=N*2:=by
     have aux2:∀ (M:List Nat),(M.flatMap λ i=>[(x,i,true),(x,i,false)]).length=M.length*2:=λ M=>by
      induction M with
      | nil=>rfl
      | cons i M ih=>rw [Y1c,Y05,ih];show 2+M.length*2=(M.length+1)*2;omega
     rw [aux2,Y2v]
    rw [this,Nat.add_mul,Nat.one_mul,Nat.add_comm]
  rw [aux,Y07,Nat.mul_assoc]
 rw [ln] at hm;refine ⟨m+1,by omega,λ x hx=>?_⟩;have eq:∀ i,oB (rwN f cr ev l (m+1)) i x=oB 144 i x/\sB (rwN f cr ev l (m+1)) i x=sB 144 i x:=λ i=>by
  by_cases hi:i<N
  ·have mem:∀ b,(x,i,b)∈(l.map (·.1)).flatMap λ x=>(List.range N).flatMap λ i=>[(x,i,true),(x,i,false)]:=λ b=>Y16.mpr ⟨x,hx,Y16.mpr ⟨i,Y1n.mpr hi,by cases b<;>simp⟩⟩;exact ⟨e _ (mem true),e _ (mem false)⟩
  ·have b1:=jT (cr:=cr) nn (hev i 128) (hd i 128) (m+1) x;have b2:=jT (cr:=cr) nn (hev i 128) (hd i 128) m x;rw [b1.1,b1.2,b2.1,b2.2];exact 210
 obtain ⟨p,hp,rfl⟩:=Y0e.mp hx;have eq2:∀ y∈l.map (·.1),∀ i,oB (rwN f cr ev l (m+1)) i y=oB 144 i y/\sB (rwN f cr ev l (m+1)) i y=sB 144 i y:=λ y hy i=>by
  by_cases hi:i<N
  ·have mem:∀ b,(y,i,b)∈(l.map (·.1)).flatMap λ x=>(List.range N).flatMap λ i=>[(x,i,true),(x,i,false)]:=λ b=>Y16.mpr ⟨y,hy,Y16.mpr ⟨i,Y1n.mpr hi,by cases b<;>simp⟩⟩;exact ⟨e _ (mem true),e _ (mem false)⟩
  ·have b1:=jT (cr:=cr) nn (hev i 128) (hd i 128) (m+1) y;have b2:=jT (cr:=cr) nn (hev i 128) (hd i 128) m y;rw [b1.1,b1.2,b2.1,b2.2];exact 210
 have all:∀ i,oB (rwN f cr ev l (m+1)) i=oB 144 i/\sB (rwN f cr ev l (m+1)) i=sB 144 i:=λ i=>by
  constructor<;>funext y<;>by_cases hy:y∈l.map (·.1)
  ·exact (eq2 y hy i).1
  ·unfold oB;rw [qP hy,qP hy]
  ·exact (eq2 y hy i).2
  ·unfold sB;rw [qP hy,qP hy]
 have o2:∀ i,oB (rwN f cr ev l (m+2)) i p.1=oB (rwN f cr ev l (m+1)) i p.1/\sB (rwN f cr ev l (m+2)) i p.1=sB (rwN f cr ev l (m+1)) i p.1:=λ i=>by
  unfold oB sB;rw [Jr nn hp (m+1),Jr nn hp m,Jp,Jp,Jo,Jo,(all i).1,(all i).2];exact 210
 refine Prod.ext (yG λ i=>(o2 i).1) (yG λ i=>?_);rw [QM nn i (m+1) hp,QM nn i m hp,(o2 i).1,(o2 i).2]
end
theorem z5o (a:Int):lsI a a=0:=yG λ k=>by rw [yg,zA];cases tb a k<;>rfl
theorem zcg (a b:Int):lsI b (Builtin.bitOr a b)=0:=yG λ k=>by rw [yg,qA,zA];cases tb a k<;>cases tb b k<;>rfl
theorem OR (cl:126)(L:Ji cl 8)(p:Int×Int)(h:Hh):d_within.run cl [pr2 p,pr2 p] h=.ok 214 h:=by
 have l1:=L p.1 p.1 h;have l2:=L p.2 (Builtin.bitOr p.1 p.2) h;rw [z5o] at l1;rw [zcg] at l2;exact zg (zf (zD 129 (cns 129 rfl) l1) (zf (zD 129 (cns (bnd 129 (bnd 129 rfl)) rfl) l2) (zo (jD (ji 299 299)))))
def zch (cl:126)(i:Nat):Prop:=∀ (p:Int×Int) (h:Hh),cl i [pr2 p,pr2 p] h=.ok 214 h
theorem Wx (ds:XQ)(nn:ds.Nodup)(R:Int)(hb:∀ i,ds.length<=i->tb R i=false):(zI R ds).foldl 183 0=R:=by
 have aux:∀ (xs:XQ) (a:Int) (i:Nat),tb (xs.foldl 183 a) i=(tb a i||xs.any λ y=>decide (i=ds.idxOf y)):=λ xs=>by
  induction xs with
  | nil=>intro a i;simp
  | cons y xs ih=>intro a i;rw [Y1g,ih,qA,Y0p,Y2c];unfold fB;rw [QJ]
 refine yG λ i=>?_;rw [aux,zA,Y2q,Y3q,Y23];constructor
 ·rintro ⟨y,hy,e⟩
  have e:=of_decide_eq_true e;obtain ⟨j,ej,t⟩:=(w5 ds R y).mp hy;obtain ⟨lj,ey⟩:=Y00.mp ej;have m:=Y0z ej
  have:ds.idxOf y=j:=by
   have l2:=Y1a m;have e2:=Y2o l2;rcases Y3b (ds.idxOf y) j with q | q | q
   ·exact absurd (e2.trans ey.symm) (Y15.mp nn _ _ l2 lj q)
   ·exact q
   ·exact absurd (ey.trans e2.symm) (Y15.mp nn _ _ lj l2 q)
  rw [e,this];exact t
 ·intro t;have hi:i<ds.length:=by
   rcases Nat.lt_or_ge i ds.length with z | z
   ·exact z
   ·rw [hb i z] at t;cases t
  refine ⟨ds[i],(w5 ds R _).mpr ⟨i,Y06 hi,t⟩,decide_eq_true ?_⟩;have m:=Y22 hi;have l2:=Y1a m;have e2:=Y2o l2;rcases Y3b i (ds.idxOf ds[i]) with q | q | q
  ·exact absurd e2.symm (Y15.mp nn _ _ hi l2 q)
  ·exact q
  ·exact absurd e2 (Y15.mp nn _ _ l2 hi q)
theorem z1u (cl:126)(Br:QC cl 22)(f cr:XY)(rw:XW)(ev:Int)(ns:XQ)(nr n:Nat)(h:Hh)(L:List Nr)(hr:h[nr]?=some (.dK (nrK L)))(ro:RestsOk h nr f cr L)(ra:RowsAt h n rw ns)(z:n≠nr)(nd:((L.map (·.1)).map (·.1)).Nodup)(ok:∀ q∈L,OkA ns cr q.1)(hl:L.length<=900) :
  d_asked_rows.run cl [.loc nr,.loc n,.int ev] h=.ok 136 (h.set nr 280++[.dK (wP f cr rw ev (L.map (·.1)))]):=by
 have lr:=(Y00.mp hr).1;have ro':RestsOk (h.set nr 280) nr f cr L:=λ q hq=>⟨(ro q hq).1,(ro q hq).2.keep 187 (ro q hq).1⟩;obtain ⟨t',lp⟩:=Jl cl Br f cr rw ev ns nr n (h.set nr 280) L (w4 hr) ro' (ra.keep 187 z) nd ok hl L [] none rfl;have ek:(nrK L).map (λ p=>dK1 p.1)=L.map λ q=>.str q.1.1:=by unfold nrK;rw [Y0m];rfl
 have eh:(h++[O.dK []]).set nr 280=h.set nr 280++[O.dK []]:=List.set_append_left _ _ lr;rw [Y1f] at lp;exact zg (zf rfl (zT (q:=([],L.map λ q:Nr=>D.str q.1.1)) ((QD rfl (zn hr)).trans (by rw [ek,eh];rfl)) lp 285))
theorem Ge:∀ {l:List Tl}{q:Tl},q∈l->(l.map (·.1)).Nodup->zK (kvT l) (.inr q.1)=some (.tup [.loc q.2.1,.loc q.2.2])
 | y::l,q,hq,nd=>by
  rw [Y0a,Y12] at nd;unfold kvT;rw [Y0a];rcases Y08.mp hq with rfl | hq
  ·simp [zK]
  ·have ne:¬ y.1=q.1:=λ z=>nd.1 (z▸Y0e.mpr ⟨q,hq,rfl⟩);have ih:=Ge hq nd.2;unfold kvT at ih;simp [zK,ne] at ih ⊢;exact ih
theorem QN (g:h[n]?=some (.fK kvs))(v:zK kvs (.inr x)=some d):jc 151 172 h=.ok d h:=by
 simp [jc,g,jG,v]
def z9j (cl:126)(i:Nat)(ds:XQ):Prop:=∀ (h:Hh) (nm nd:Nat) (xs:XQ),h[nm]?=some (.lst (txs xs))->h[nd]?=some 149->(∀ y∈xs,y∈ds)->cl i [.loc nm,.loc nd] h=.ok (.int (xs.foldl 183 0)) (h++[.dK (zw 0 ds)])
structure RowsIn (R:XW)(ds ns:XQ):Prop where
 b1:∀ x∈ns,∀ i,ds.length<=i->tb (R x).1 i=false
 b2:∀ x∈ns,∀ i,ds.length<=i->tb (R x).2 i=false
 nf:∀ x∈ns,lsI (R x).2 (R x).1=(R x).2
theorem Wy (cl:126)(ds ns:XQ)(nn:ds.Nodup)(nns:ns.Nodup)(hl:ns.length<=900)(R:XW)(rin:RowsIn R ds ns)(Rb:z9j cl 6 ds)(Oo:∀ x y h,cl 9 [.int x,.int y] h=.ok (opI x y) h)(pr:D)(nt nd nr:Nat)(tl:List Tl)(et:tl.map (·.1)=ns)(z1:nt≠nr)(z2:nd≠nr)(z3:∀ q∈tl,q.2.1≠nr/\q.2.2≠nr):∀ (rest dn:XQ) (t w:168) (h:Hh),ns=dn++rest->h[nt]?=some (.fK (kvT tl))->TabOk h nt R ds tl->h[nd]?=some 149->h[nr]?=some (.dK (zR dn R)) ->
  ∃ h' t',zu [] (zH YD λ ρ' h'=>b_fits_2.run cl ρ' h') (rest.map D.str) [some pr,some (.loc nt),some 161,some 242,t,w] h=.nx [some pr,some (.loc nt),some 161,some 242,t',w] h'/\Kx [nr] h h'/\h'[nr]?=some (.dK (zR ns R))
 | [],dn,t,w,h,e,gt,to,gd,gr=>⟨h,t,by rw [Y0u,zu,if_pos ze],Kx.refl _ _,by rw [gr,e,Y0v]⟩
 | x::rest,dn,t,w,h,e,gt,to,gd,gr=>by
  have hx:x∈ns:=by rw [e];simp
  obtain ⟨q,hq,eq⟩:∃ q∈tl,q.1=x:=by
   have:x∈tl.map (·.1):=by rw [et];exact hx
   obtain ⟨q,hq,e⟩:=Y0e.mp this;exact ⟨q,hq,e⟩
  have vq:=Ge hq (by rw [et];exact nns);rw [eq] at vq;have sv:=QN gt vq;obtain ⟨_,_,t1,t2⟩:=to q hq;rw [eq] at t1 t2;have sub:∀ R,∀ y∈zI R ds,y∈ds:=λ R y hy=>(jL ds R).subset hy;have e1:=Rb h q.2.1 nd _ t1 gd (sub _);rw [Wx ds nn _ (rin.b1 x hx)] at e1;have sv2:=QN (zn (J:=147) gt) vq;have e2:=Rb (h++147) q.2.2 nd _ (zn t2) (zn gd) (sub _);rw [Wx ds nn _ (rin.b2 x hx)] at e2;have e3:=Oo (R x).1 (R x).2 (h++147++147);have eo:opI (R x).1 (R x).2=pr2 (R x):=by unfold opI pr2;rw [rin.nf x hx]
  rw [eo] at e3;have hn:∀ u∈zR dn R,u.1≠.inr x:=λ u hu z=>by
   unfold zR at hu;obtain ⟨y,hy,rfl⟩:=Y0e.mp hu;have z:=Key.inr.inj z;rw [e] at nns;exact (Y2a.mp nns).2.2 y hy x Y04 z
  have ll:(zR dn R).length<1000000:=by
   unfold zR;rw [Y07];rw [e,Y05] at hl;omega
  have kk:Kx [nr] h ((h++147++147).set nr (.dK (zR dn R++[(.inr x,pr2 (R x))]))):=(Kx.app _ _).trans ((Kx.app _ _).trans 187);have st:zH YD (λ ρ' h'=>b_fits_2.run cl ρ' h') 172 [some pr,some (.loc nt),some 161,some 242,t,w] h=.nx [some pr,some (.loc nt),some 161,some 242,some 172,w] ((h++147++147).set nr (.dK (zR dn R++[(.inr x,pr2 (R x))]))) :=
   Wn (zD (zD (bnd (bnd rfl (bnd rfl sv)) 133) 141 e1) (cns (zD (bnd (bnd rfl (bnd rfl sv2)) 133) 141 e2) rfl) e3) rfl rfl (ye (zn (zn gr)) ll hn) rfl
  obtain ⟨h',t',e4,k4,g4⟩:=Wy cl ds ns nn nns hl R rin Rb Oo pr nt nd nr tl et z1 z2 z3 rest (dn++[x]) (some 172) w _ (by rw [e,Y0i];rfl) (kk.2 _ _ gt (by simpa using z1)) (λ q hq=>⟨(to q hq).1,(to q hq).2.1,kk.2 _ _ (to q hq).2.2.1 (by simpa using (z3 q hq).1),kk.2 _ _ (to q hq).2.2.2 (by simpa using (z3 q hq).2)⟩) (kk.2 _ _ gd (by simpa using z2)) (by rw [w4 (zn (zn gr))];unfold zR;rw [Y0o];rfl);refine ⟨h',t',?_,kk.trans k4,g4⟩;rw [Y0a,zu,if_pos ze,st];exact e4
theorem z9k (cl:126)(f cr:XY)(ev:Int)(ds:XQ)(l:196)(nn:ds.Nodup)(nns:171)(hl:l.length<=900)(m:Nat)(fx:Fix f cr ev l m)(rin:RowsIn 144 ds 140)
  (D4:∀ h:Hh,∃ nd h',cl 4 [.tup 134] h=.ok 161 h'/\Kx [] h h'/\h'[nd]?=some 149/\h.length<=nd)
  (Rb:z9j cl 6 ds) (hev:ds.foldl 183 0=ev) (Oo:∀ x y h,cl 9 [.int x,.int y] h=.ok (opI x y) h) (Wi:zch cl 13)
  (Rs:215)
  (A2:∀ (nr n:Nat) (L:List Nr) (h:Hh) (R:XW),L.map (·.1)=l->h[nr]?=some (.dK (nrK L))->RestsOk h nr f cr L->RowsAt h n R 140->n≠nr->cl 21 [.loc nr,.loc n,.int ev] h=.ok 136 (h.set nr 280++[.dK (wP f cr R ev l)]))
  (nt:Nat) (tl:List Tl) (et:tl.map (·.1)=l.map (·.1)) (h:Hh) (gt:h[nt]?=some (.fK (kvT tl))) (to:TabOk h nt 144 ds tl) :
  ∃ h',d_fits.run cl [.tup 134,.loc nt] h=.ok 214 h'/\Kx [] h h':=by
 have lt:=(Y00.mp gt).1;obtain ⟨nd,h1,e1,k1,g1,ln1⟩:=D4 h;have l1:=k1.1;have z3:∀ q∈tl,q.2.1≠h1.length/\q.2.2≠h1.length:=λ q hq=>by
  obtain ⟨_,_,t1,t2⟩:=to q hq
  have:=(Y00.mp t1).1
  have:=(Y00.mp t2).1
  omega
 have ln:=(Y00.mp g1).1;have to1:TabOk (h1++[O.dK []]) nt 144 ds tl:=to.keep (((k1.trans (Kx.app _ _)).more [nt]));obtain ⟨h2,t2,e2,k2,g2⟩:=Wy cl ds 140 nn nns (by rw [Y07];exact hl) 144 rin Rb Oo 228 nt nd h1.length tl et 128 128 z3 140 [] none none (h1++[O.dK []]) rfl (zn (k1.2 _ _ gt 130)) to1 (zn g1) 188;have gd2:=k2.2 _ _ (zn g1) 154;have k02:Kx [] h h2:=⟨by have:=k2.1;simp at this;omega,λ i o ei _=>k2.2 i o (zn (k1.2 i o ei 130)) (by have:=(Y00.mp ei).1;simp;omega)⟩;obtain ⟨h3,nr,L,e3,k3,ln3,el,g3,ro3⟩:=Rs h2 nd gd2;have gr3:=k3.2 _ _ g2 130;have lr2:h1.length<h2.length:=(Y00.mp g2).1;have e4:=Rb h3 nd nd ds (k3.2 _ _ gd2 130) (k3.2 _ _ gd2 130) (λ y hy=>hy);rw [hev] at e4;have ra:RowsAt (h3++147) h1.length 144 140:=RowsAt.tab (zn gr3);have e5:=A2 nr h1.length L (h3++147) 144 el (zn g3) ro3.app ra 128;have ea:wP f cr 144 ev l=zR 140 144:=by
  rw [QE f cr ev l nns];unfold zR;refine List.map_congr_left λ x hx=>?_
  have:=fx x hx
  show (Key.inr x,pr2 (yf f cr ev l 144 x))=_;rw [<- this];rfl
 rw [ea] at e5;obtain ⟨h5,eh5⟩:∃ h5,h5=(h3++[O.dK (zw 0 ds)]).set nr (.fK (nrK L))++[O.dK (zR (l.map (·.1)) (rwN f cr ev l m))]:=146;rw [<- eh5] at e5;have n5:(h3++147).length=((h3++147).set nr 280).length:=by rw [Y1f]
 have ga:h5[(h3++147).length]?=some (.dK 254):=by rw [eh5,n5];exact zc _ _
 have gr5:h5[h1.length]?=some (.dK 254):=by rw [eh5];exact zn (jK (zn gr3) 128)
 generalize hna:(h3++147).length=na at e5 ga;have na1:h1.length≠na:=by
  have:=k3.1
  rw [<- hna,Y05];omega
 have ga6:(h5.set na (.fK 254))[na]?=some (.fK 254):=w4 ga;have gr6:(h5.set na (.fK 254))[h1.length]?=some (.dK 254):=jK gr5 na1;have key:=zM D.str (f:=j1 z0t (jz [none,some 5,some 3] [some 228,some (.loc nt),some 161,some (.loc h1.length),t2,some (.loc na)]) (λ ρ' h2=>c_fits_1.evC cl ρ' h2) (λ ρ' h2=>e_fits_1.ev cl ρ' h2)) ze (λ _=>some 214) 140 [] (λ x hx=>ja rfl rfl (zD (bnd rfl (bnd rfl (QN ga6 (qo hx)))) (cns (bnd rfl (bnd rfl (Jh gr6 (qo hx)))) rfl) (Wi _ _)));rw [jb,Y0n] at key;have kt:(zR 140 144).map (λ p=>dK1 p.1)=(l.map (·.1)).map D.str:=YM _ _;have km:∀ M:List Str,(M.map λ _:Str=>D.bl true)=(M.map λ _:Str=>true).map D.bl:=λ M=>by rw [Y0m];rfl
 rw [km] at key;refine ⟨h5.set na (.fK 254)++[.lst (((l.map (·.1)).map λ _:Str=>true).map D.bl)],zg (zf (zD rfl rfl e1) (zf rfl (zT (q:=([],(l.map λ p:Ni=>p.1).map D.str)) ((z1i rfl (zn (k1.2 _ _ gt 130))).trans ?_) e2 (zf (zD (zD rfl 141 e3) (cns rfl (cns (zD rfl 141 e4) rfl)) e5) (zo (bnd (zO ((QD rfl ga).trans (by rw [kt])) (by rw [Y07,Y07];omega) key) ?_)))))),?_⟩
 ·have:(kvT tl).map (λ p=>dK1 p.1)=(l.map (·.1)).map D.str:=by unfold kvT;rw [<- et,Y0m,Y0m];rfl
  rw [this]
 ·show c1D .all (.loc _) _=_;unfold c1D;dsimp only;rw [zN 188];show (match wQ _ with | some bs=>Res.ok (D.bl (bs.all id)) _ | none=>.no)=_
  rw [VX];show Res.ok (D.bl _) _=_
  congr 2
  rw [Y17];intro b hb;obtain ⟨_,_,rfl⟩:=Y0e.mp hb;rfl
 ·refine ⟨?_,λ i o ei _=>?_⟩
  ·have:=k02.1;have:=k3.1
   rw [Y05,Y1f,eh5,Y05,Y1f,Y05];omega
  ·have li:=(Y00.mp ei).1;have l2:=k02.1;have l3:=k3.1;refine zn (jK ?_ ?_)
   ·rw [eh5];exact zn (jK (zn (k3.2 i o (k02.2 i o ei 130) 130)) 128)
   ·rw [<- hna,Y05];omega
section
variable {cl:126}{ρ:En}{h h1 h2:Hh}{e e':E}{p p1 p2 p3 p4:Pos}
theorem wx (he:e.ev cl ρ h=.ok 264 h1)(hk:287)(z:0<k/\k<1073741824):E.ev cl (.bin .FloorDiv e e' p) ρ h=.ok (.int (x/k)) h2:=bnd he (bnd hk (fdk z))
theorem jH (he:e.ev cl ρ h=.ok 264 h1)(hk:287)(z:0<k):E.ev cl (.bin .Mod e e' p) ρ h=.ok (.int (x%k)) h2:=bnd he (bnd hk (mdk z))
theorem qR (he:e.ev cl ρ h=.ok 264 h1)(hk:287):E.ev cl (.bin .Add e e' p) ρ h=.ok (.int (x+k)) h2:=bnd he (bnd hk rfl)
theorem z5p (g:h[n]?=some 195)(h0:0<=i)(q:xs[i.toNat]?=some d):jc 151 209 h=.ok d h:=by
 unfold jc;dsimp only;rw [g];dsimp only;rw [wj h0,q]
theorem yi (he:199)(hi:e'.ev cl ρ h1=.ok 209 h2)(g:h2[n]?=some 195)(h0:0<=i)(q:xs[i.toNat]?=some d):E.ev cl (.sub e e' p) ρ h=.ok d h2:=bnd he (bnd hi (z5p g h0 q))
theorem j8 (he:199)(g:h1[n]?=some 195):E.ev cl (.len e p p1) ρ h=.ok (.int xs.length) h1:=bnd he (by
 show Ym 151 h1=_;unfold Ym;dsimp only;rw [zN g])
theorem yj (he:e.ev cl ρ h=.ok 264 h1)(hk:287):E.evT cl (.cmp .Eq e e' p) ρ h=.ok (x==k) h2:=zm he hk eqI
theorem z1v (he:e.ev cl ρ h=.ok 264 h1)(hk:287):E.evT cl (.cmp .Lt e e' p) ρ h=.ok (decide (x<k)) h2:=zm he hk rfl
theorem QO (hb:jm tg x ρ=some ρ')(hc:ct ρ' h=.ok false h1):j1 tg ρ ct ce x h=.ok none h1:=by
 show 279=_
 rw [hb];exact bnd hc rfl
theorem z1w (hc:e.evT cl ρ h=.ok b h1):Es.evC cl (.cons e r) ρ h=.ok b h1:=by
 have:=jD hc
 exact bnd this rfl
end
def Smp (P:Nat->Prop)(x:Str)(n:Nat):Prop:=(∀ c∈cs x,P c)/\(cs x).length<=n
section
variable {P:Nat->Prop}{x y:Str}{a b:Nat}
theorem Smp.app (hx:Smp P x a)(hy:Smp P y b):Smp P (x++y) (a+b):=by
 have h1:=hx.2;have h2:=hy.2;refine ⟨λ c hc=>?_,by rw [qk,Y05];omega⟩;rw [qk] at hc;exact (Y0j.mp hc).elim (hx.1 c) (hy.1 c)
theorem z1x (x:Array Nat):∀ (n:Nat) (a:Array Nat),((List.replicate n x).foldl (·++·) a).toList=a.toList++(List.replicate n x.toList).flatten
 | 0,a=>by simp
 | n+1,a=>by rw [Y14,Y1g,z1x x n,Y14];simp
theorem Smp.mul {m:Nat}{j:Int}(hx:Smp P x a)(hj:j<=m):Smp P (Txt.mul x j) (m*a):=by
 unfold Txt.mul;by_cases c1:j<1
 ·rw [if_pos c1];exact ⟨λ c hc=>by simp [cs,Str.empty] at hc,by simp [cs,Str.empty]⟩
 rw [if_neg c1];by_cases c2:(j==1||x.length==0)=true
 ·rw [if_pos c2];exact ⟨hx.1,Y0y hx.2 (Nat.le_mul_of_pos_left a 128)⟩
 rw [if_neg c2];have e:cs ⟨(List.replicate j.toNat x.cps).foldl (·++·) #[]⟩=(List.replicate j.toNat (cs x)).flatten:=by
  unfold cs;rw [z1x];simp
 refine ⟨λ c hc=>?_,?_⟩
 ·rw [e] at hc;obtain ⟨l,hl,hc⟩:=List.mem_flatten.mp hc;rw [(List.mem_replicate.mp hl).2] at hc;exact hx.1 c hc
 ·rw [e,List.length_flatten,List.map_replicate,List.sum_replicate_nat];exact Y3t 128 hx.2
theorem z6w {i:Int}(hn:(cs x).length<=1000000)(h0:0<=i)(h1:i<(cs x).length):∃ y c,cs y=[c]/\(cs x)[i.toNat]?=some c/\∀ h,jc 172 209 h=.ok (.str y) h:=by
 have hi:i.toNat<(cs x).length:=by omega
 refine ⟨⟨#[(cs x)[i.toNat]]⟩,(cs x)[i.toNat],by simp [cs],Y06 hi,λ h=>?_⟩;show (if x.length<=1000000 then (match atI x.cps.toList i with | some c=>Res.ok (D.str ⟨#[c]⟩) h | none=>.no) else .no)=_
 rw [if_pos (by rw [Qd];omega),wj h0,show x.cps.toList=cs x from rfl,Y06 hi]
theorem z6x (hx:Smp P x a)(hy:Smp P y b)(hl:a+b<=1000000)(h:Hh):jE .Add 172 (.str y) h=.ok (.str (x++y)) h:=if_pos (by
 have:=hx.2
 have:=hy.2
 rw [Qd,Qd];omega)
theorem z6y (hx:Smp P x a)(ha:a<=1000)(h0:0<=j)(h1:j<=1000)(h:Hh):jE .Mult 172 (.int j) h=.ok (.str (Txt.mul x j)) h:=if_pos ⟨h0,h1,by
 have:=hx.2
 rw [Qd];omega⟩
end
def NmK (k:Nat)(x:Str):Prop:=Smp 300 x 100/\97+k∈cs x
theorem NmK.ok (h:NmK k x):PyData.strOk x=true:=zc0 λ c hc=>(h.1.1 c hc).1
theorem NmK.ne (hx:NmK k x)(hy:NmK j y)(hk:k<9)(h:k≠j):x≠y:=λ z=>by
 subst z
 have:=(hy.1.1 _ hx.2).2
 omega
theorem V0:cs "jqxz"=[106,113,120,122]:=by decide +kernel
theorem V1:cs "abcdefghi"=[97,98,99,100,101,102,103,104,105]:=by decide +kernel
theorem z9l (h:([97,98,99,100,101,102,103,104,105]:List Nat)[k]?=some c):c=97+k:=by
 have hk:k<9:=(Y00.mp h).1
 have:k=0\/k=1\/k=2\/k=3\/k=4\/k=5\/k=6\/k=7\/k=8:=by omega
 rcases this with rfl | rfl | rfl | rfl | rfl | rfl | rfl | rfl | rfl<;>(simp at h;omega)
theorem QP (k:Nat)(c:Int)(hk:k<9):∃ x,NmK k x/\∀ cl h,d_law_name.run cl [.int k,.int c] h=.ok 172 h:=by
 obtain ⟨fl,f0,f1,f2,f3⟩:=z6w (x:="jqxz") (i:=c/64%4) (by rw [V0];decide) 128 (by rw [V0];simp;omega);obtain ⟨a,a0,a1,a2,a3⟩:=z6w (i:=k) (by rw [V1];decide) 128 (by rw [V1];simp;omega);rw [V0] at f2;rw [V1,show ((k:Nat):Int).toNat=k from by omega] at a2;have ha:=z9l a2;have hf:=Y0z f2;simp only [Y08,Y0t,or_false] at hf;have sf:Smp 300 fl 1:=⟨λ x hx=>by rw [f1,Y0d] at hx;subst hx;omega,by rw [f1];simp⟩;have sa:Smp 300 a 1:=⟨λ x hx=>by rw [a1,Y0d] at hx;subst hx;omega,by rw [a1];simp⟩;obtain ⟨n,en⟩:∃ n,n=1+c%8:=146;have hn:1<=n/\n<=8:=by omega
 obtain ⟨t,et⟩:∃ t,t=c/8%n:=146;have ht:0<=t/\t<n:=by rw [et];exact ⟨Y34 _ 128,Y36 _ 128⟩
 have m1:Smp 300 (Txt.mul fl t) (8*1):=sf.mul 128;have m2:Smp 300 (Txt.mul fl (n-1-t)) (8*1):=sf.mul 128;have s1:=m1.app sa;have s2:=s1.app m2;refine ⟨Txt.mul fl t++a++Txt.mul fl (n-1-t),⟨⟨s2.1,Y0y s2.2 127⟩,?_⟩,λ cl h=>?_⟩
 ·rw [qk,qk,a1,ha];simp
 ·subst en;subst et;exact zg (zf (qR rfl (jH rfl rfl 127)) (zf (jH 217 rfl 128) (zf (bnd rfl (bnd (jH 217 rfl 127) (f3 h)))
   (zo (bnd (bnd (bnd rfl (bnd rfl (z6y sf 127 ht.1 128 h))) (bnd (bnd rfl (bnd rfl (a3 h))) (z6x m1 sa 127 h))) (bnd (bnd rfl (bnd rfl (z6y sf 127 128 128 h))) (z6x s1 m2 127 h)))))))
open Classical in
def nmv (k:Nat)(c:Int):Str:=if h:k<9 then Classical.choose (QP k c h) else ""
theorem V2 (h:k<9):NmK k (nmv k c):=by
 unfold nmv;rw [dif_pos h];exact (Classical.choose_spec (QP k c h)).1
theorem z9m {k:Nat}(hk:k<9)(cl:126)(h:Hh):d_law_name.run cl [.int k,.int c] h=.ok (.str (nmv k c)) h:=by
 unfold nmv;rw [dif_pos hk];exact (Classical.choose_spec (QP k c hk)).2 cl h
theorem z9n (cl:126)(h:Hh)(ns:179)(i:Int)(hi:0<=i):d_law_cell.run cl [scr ns,.int i] h=.ok (.int (jt ns i)) h:=by
 by_cases c:i<(ns.length:Int)
 ·exact zg (jd (zm rfl 133 (by show Res.ok (D.bl (decide _)) _=_;rw [Y07,decide_eq_true c])) (zo (bnd rfl (bnd rfl (by show (match atI (ns.map D.int) i with | some d=>Res.ok d h | none=>.no)=_;rw [z8x ns i hi c])))))
 ·rw [z0q ns i c];exact zg (zv (zm rfl 133 (by show Res.ok (D.bl (decide _)) _=_;rw [Y07,decide_eq_false c])) 285)
def V3 (cl:126)(i:Nat):Prop:=∀ (k:Nat) (c:Int) (h:Hh),k<9->cl i [.int k,.int c] h=.ok (.str (nmv k c)) h
def NmsK (l:XQ):Prop:=∀ k x,l[k]?=some x->NmK k x
theorem NmsK.nodup (h:NmsK l)(hl:l.length<=9):l.Nodup:=by
 refine Y15.mpr λ i j hi hj hij z=>?_;exact (h i _ (Y06 hi)).ne (h j _ (Y06 hj)) 128 128 z
theorem z5q (cl:126)(N:V3 cl 25)(m c:Int)(hm:1<=m/\m<=8)(h:Hh) :
  ∃ nms:List Str,d_law_names.run cl [.int m,.int c] h=.ok 136 (h++[.lst (txs nms)])/\nms.length=m.toNat/\NmsK nms:=by
 refine ⟨(List.range m.toNat).map λ k=>nmv k (c+k*9*(c/256%2)),?_,by simp,λ k x hx=>?_⟩
 ·have key:=zM (λ k:Nat=>D.int k) (f:=j1 JG (jz [none,some 1] [some (.int m),some (.int c)]) (λ ρ' h2=>c_law_names_1.evC cl ρ' h2) (λ ρ' h2=>e_law_names_1.ev cl ρ' h2)) ze (λ k=>some (.str (nmv k (c+k*9*(c/256%2))))) (List.range m.toNat) [] (λ k hk=>by
   have hk:=Y1n.mp hk;have z2:c/256%2=0\/c/256%2=1:=by omega
   exact ja rfl rfl (zD rfl (cns (qR rfl (bnd (bnd rfl (bnd rfl (mlk (jB 128) (jB 127)))) (bnd (jH 217 rfl 127) (mlk (jB 128) (jB 128))))) rfl) (N k _ h 128)))
  rw [jb,Y0n] at key;have em:(List.range m.toNat).map (λ k:Nat=>D.str (nmv k (c+k*9*(c/256%2))))=txs ((List.range m.toNat).map λ k=>nmv k (c+k*9*(c/256%2))):=by unfold txs;rw [Y0m];rfl
  rw [em] at key;exact zg (zo (zO (yY rfl 128) 154 key))
 ·rw [Y0r] at hx;have hk:k<m.toNat:=by
   rcases Nat.lt_or_ge k m.toNat with z | z
   ·exact z
   ·rw [Y1o (by simpa using z)] at hx;cases hx
  rw [List.getElem?_range hk] at hx;cases hx;exact V2 128
structure Nms where
 pl:List Str
 op:List (Str×Int)
 hd:List Str
 dd:List Str
def opD (q:Str×Int):D:=.tup [.str q.1,.int q.2]
structure Nms.Ok (N:Nms):Prop where
 p1:1<=N.pl.length
 p9:N.pl.length<=9
 o9:N.op.length<=9
 om:∀ q∈N.op,1<=q.2/\q.2<=2
 h9:N.hd.length<=9
 d1:1<=N.dd.length
 d9:N.dd.length<=9
structure At (N:Nms)(a b c d:Nat)(h:Hh):Prop where
 pl:h[a]?=some (.lst (txs N.pl))
 op:h[b]?=some (.lst (N.op.map opD))
 hd:h[c]?=some (.lst (txs N.hd))
 dd:h[d]?=some (.lst (txs N.dd))
theorem At.kx (A:At N a b c d h)(k:Kx [] h h'):At N a b c d h':=⟨k.2 _ _ A.pl 130,k.2 _ _ A.op 130,k.2 _ _ A.hd 130,k.2 _ _ A.dd 130⟩
def nmD (a b c d:Nat):D:=.tup [.loc a,.loc b,.loc c,.loc d]
def okT (N:Nms)(ob:XX)(k:Kd)(n:Nat):Prop:=match k with
 | .call f g=>(ob=some f/\g=none)\/(f∈N.pl/\g=none)\/(f∈N.op.map (·.1)/\∃ y,g=some y/\(ob=some y\/y∈N.pl))
 | .doo d=>d∈N.dd
 | .handle x=>x∈N.hd/\n=2
 | _=>True
mutual
noncomputable def dep:G->Nat
 | .nd _ ps=>deps ps+1
noncomputable def deps:List G->Nat
 | []=>0
 | g::r=>max (dep g) (deps r)
end
theorem Gf:∀ ps:List G,(∀ x∈ps,dep x<=m)->deps ps<=m
 | [],_=>by rw [deps];omega
 | g::r,h=>by
  rw [deps]
  have:=h g Y04
  have:=Gf r λ x hx=>h x (Y02 _ hx)
  omega
theorem Gh:∀ (ps:260) (x:G),x∈ps->dep x<=deps ps
 | [],x,h=>by cases h
 | g::r,x,h=>by
  rw [deps];rcases Y08.mp h with rfl | h
  ·omega
  ·have:=Gh r x h;omega
structure Tr (N:Nms)(ob:XX)(n:Nat)(g:G):Prop where
 al:AllN (okT N ob) g
 dp:dep g<=n+2
 sz:g.size<=4*n+1
def lf (k:Kd):G:=.nd k []
section
variable {N:Nms}{ob:XX}{n:Nat}{g:G}
theorem V4 (h:okT N ob k 0):AllN (okT N ob) (lf k):=QI h 130
theorem V5 (k:Kd):dep (lf k)=1:=by unfold lf;rw [dep,deps]
theorem qp (k:Kd):(lf k).size=1:=by unfold lf;rw [G.size,G.sizes]
def doT (d:Str)(i:Int):G:=.nd (.doo d) [lf (.num i)]
theorem z9o (h:d∈N.dd):AllN (okT N ob) (doT d i):=QI h λ x hx=>by rw [Y0d] at hx;subst hx;exact V4 trivial
theorem z9p (d:Str)(i:Int):dep (doT d i)=2:=by unfold doT;rw [dep,deps,deps,V5];rfl
theorem QQ (d:Str)(i:Int):(doT d i).size=2:=by unfold doT;rw [G.size,G.sizes,G.sizes,qp]
def Sm (N:Nms)(ob:XX)(x:G):Prop:=AllN (okT N ob) x/\dep x<=2
theorem Sm.num (i:Int):Sm N ob (lf (.num i)):=⟨V4 trivial,by rw [V5];omega⟩
theorem Sm.do (h:d∈N.dd):Sm N ob (doT d i):=⟨z9o h,by rw [z9p];omega⟩
theorem Tr.start (x:Str):Tr N ob 0 (lf (.var x)):=⟨V4 trivial,by rw [V5];omega,by rw [qp];omega⟩
theorem Tr.step (T:Tr N ob n g)(hk:okT N ob k ps.length)(hp:∀ x∈ps,x=g\/Sm N ob x)(hs:G.sizes ps+1<=g.size+4):Tr N ob (n+1) (.nd k ps):=by
 refine ⟨QI hk λ x hx=>(hp x hx).elim (λ z=>z▸T.al) λ z=>z.1,?_,?_⟩
 ·rw [dep]
  have:=Gf ps λ x hx=>(hp x hx).elim (λ z=>z▸T.dp) λ z=>by have:=z.2;omega
  omega
 ·rw [G.size]
  have:=T.sz
  omega
theorem Tr.le (T:Tr N ob n g)(h:n<=m):Tr N ob m g:=⟨T.al,by have:=T.dp;omega,by have:=T.sz;omega⟩
end
def Gw (N:Nms)(ob:XX)(n:Nat)(h:Hh)(r:Res D):Prop:=∃ g h',r=.ok g.d h'/\Kx [] h h'/\Tr N ob n g
noncomputable def JM (g t:G):List G:=[.nd (.op "+") [g,t],.nd (.op "<") [t,g],.nd (.lett "x") [g,t],.nd (.lett "y") [t,g],.nd .ite [g,t,lf (.num 0)],.nd .ite [lf (.num 1),g,t],.nd .ite [t,lf (.num 2),g],.nd .guard [g,t],.nd .guard [t,g]]
theorem z5r {ob:XX}(T:Tr N ob n g)(ht:Sm N ob t)(hz:t.size<=2):∀ x∈JM g t,Tr N ob (n+1) x:=by
 intro x hx;simp only [JM,Y08,Y0t,or_false] at hx;have aux:∀ (k:Kd) (ps:260),okT N ob k ps.length->(∀ x∈ps,x=g\/x=t\/∃ i,x=lf (.num i))->G.sizes ps+1<=g.size+4->Tr N ob (n+1) (.nd k ps):=λ k ps h1 h2 h3=>T.step h1 (λ x hx=>(h2 x hx).imp id λ z=>z.elim (λ z=>z▸ht) λ ⟨i,z⟩=>z▸Sm.num i) h3;rcases hx with rfl | rfl | rfl | rfl | rfl | rfl | rfl | rfl | rfl <;>
  exact aux _ _ trivial (by intro x hx;simp only [Y08,Y0t,or_false] at hx;first | (rcases hx with h | h<;>first | exact .inl h | exact .inr (.inl h) | exact .inr (.inr ⟨_,h⟩)) | (rcases hx with h | h | h<;>first | exact .inl h | exact .inr (.inl h) | exact .inr (.inr ⟨_,h⟩))) (by simp only [G.sizes,qp];omega)
theorem z1y (i:Int)(h0:0<=i)(h1:i<9)(g t:G)(h:Hh):∃ x h',d_law_beside.run cl [.int i,g.d,t.d] h=.ok x.d h'/\Kx [] h h'/\x∈JM g t:=by
 have hi:i.toNat<(JM g t).length:=by show _<9;omega
 have ed:((JM g t).map G.d)=[.tup [.str "op",.str "+",g.d,t.d],.tup [.str "op",.str "<",t.d,g.d],.tup [.str "let",.str "x",g.d,t.d],.tup [.str "let",.str "y",t.d,g.d],.tup [.str "if",g.d,t.d,.tup [.str "num",.int 0]],.tup [.str "if",.tup [.str "num",.int 1],g.d,t.d],.tup [.str "if",t.d,.tup [.str "num",.int 2],g.d],.tup [.str "guard",g.d,t.d],.tup [.str "guard",t.d,g.d]]:=by
  simp only [JM,lf,Y0a,Y0u,G.d,G.ds,Kd.enc]
 have eg:((JM g t).map G.d)[i.toNat]?=some ((JM g t)[i.toNat]).d:=by rw [Y0r,Y06 hi];rfl
 rw [ed] at eg;have a1:∀ (H:Hh) (xs ys:181),xs.length+ys.length<=1000->jE .Add (.loc H.length) (.loc (H++[O.lst xs]).length) (H++[O.lst xs]++[O.lst ys])=.ok (.loc (H++[O.lst xs]++[O.lst ys]).length) (H++[O.lst xs]++[O.lst ys]++[O.lst (xs++ys)]):=λ H xs ys hl=>by
  show JB (.loc _) (.loc _) _=_;unfold JB;dsimp only;rw [zn 188,zc];dsimp only;rw [if_pos 128]
 refine ⟨(JM g t)[i.toNat],_,zg (zf rfl (zf (bnd rfl (bnd rfl (a1 h _ _ 130))) (zf (bnd rfl (bnd rfl (a1 (h++[_]++[_]) _ _ 130))) (zo (yi rfl rfl 188 h0 eg))))),(Kx.app _ _).trans ((Kx.app _ _).trans ((Kx.app _ _).trans ((Kx.app _ _).trans (Kx.app _ _)))),Y22 hi⟩
def YR (cl:126)(i:Nat):Prop:=∀ (i':Int) (g t:G) (h:Hh),0<=i'->i'<9->∃ x h',cl i [.int i',g.d,t.d] h=.ok x.d h'/\Kx [] h h'/\x∈JM g t
theorem pick (φ:α->D)(l:List α)(c:Int)(h:1<=l.length):∃ x∈l,(l.map φ)[(c%((l.map φ).length:Nat)).toNat]?=some (φ x):=by
 have m0:0<=c%(l.length:Int):=Y34 _ 128;have m1:c%(l.length:Int)<l.length:=Y36 _ 128;have hi:(c%(l.length:Int)).toNat<l.length:=by omega
 refine ⟨l[(c%(l.length:Int)).toNat],Y22 hi,?_⟩;rw [Y07,Y0r,Y06 hi];rfl
theorem V6 {c:Int}(he:e.ev cl ρ h=.ok 151 h)(hc:ec.ev cl ρ h=.ok (.int c) h)(hl:el.ev cl ρ h=.ok 151 h)(g:h[n]?=some 195)(q:xs[(c%(xs.length:Nat)).toNat]?=some x):E.ev cl (.sub e (.bin .Mod ec (.len el p p1) p2) p3) ρ h=.ok x h:=by
 have z:0<xs.length:=by
  rcases Nat.eq_zero_or_pos xs.length with z | z
  ·rw [Y2n.mp z] at q;cases q
  ·exact z
 exact yi he (jH hc (j8 hl g) 128) g (Y34 _ 128) q
theorem QR (he:e.ev cl ρ h=.ok 264 h1)(hk:287):E.evT cl (.cmp .Gt e e' p) ρ h=.ok (decide (k<x)) h2:=zm he hk rfl
def z1z:Ss->Ss
 | .cons (.iff _ a _ _) _=>a
 | s=>s
section
variable {cl:126}{N:Nms}{ob:XX}{n:Nat}{g:G}{a b c d:Nat}{h:Hh}
theorem z9q (h1:ρ[1]?=some (some g.d))(h7:ρ[7]?=some (some (.int m)))(hm:1<=m/\m<=2) :
  ∃ h',E.ev cl (.tupE (.bin .Add (.bin .Mult (.ofL (.disp (.cons (.tup (.cons (.str "num" p1) (.cons (.int 5 p2) .nil)) p3) .nil) p4)) (.bin .Sub (.var 7 p5) (.int 1 p6) p7) p8) (.ofL (.disp (.cons (.var 1 p9) .nil) q1)) q2) q3 q4) ρ h=.ok (.tup (G.ds (List.replicate (m-1).toNat (lf (.num 5))++[g]))) h'/\Kx [] h h':=by
 have hc:m=1\/m=2:=by omega
 have gl:∀ xs:List D,(h++156++[O.lst xs]++[O.lst [g.d]])[(h++156).length]?=some 195:=λ xs=>zn 188;have m1:jE .Mult 136 (.int (m-1)) (h++156)=.ok (.loc (h++156).length) (h++156++176):=by
  show z4h 136 (.int (m-1)) (h++156)=_;unfold z4h;dsimp only;rw [zc];dsimp only;rw [if_pos ⟨by omega,by omega,by decide⟩];rcases hc with e | e<;>rw [e]<;>rfl
 have m2:jE .Add (.loc (h++156).length) (.loc (h++156++176).length) (h++156++176++[O.lst [g.d]])=.ok (.loc (h++156++176++[O.lst [g.d]]).length) (h++156++176++[O.lst [g.d]]++[O.lst (List.replicate (m-1).toNat (.tup [.str "num",.int 5])++[g.d])]):=by
  show JB (.loc _) (.loc _) _=_;unfold JB;dsimp only;rw [gl,zc];dsimp only;rw [if_pos (by rw [List.length_replicate];show _+1<=_;omega)]
 have e:G.ds (List.replicate (m-1).toNat (lf (.num 5))++[g])=List.replicate (m-1).toNat (.tup [.str "num",.int 5])++[g.d]:=by
  rw [yF,PI.ds_map,PI.ds_map,List.map_replicate];unfold lf;rw [G.d,G.ds];rfl
 have v7:∀ h p,E.ev cl (.var 7 p) ρ h=.ok (.int m) h:=λ h p=>by rw [qJ,h7]
 have v1:∀ h p,E.ev cl (.var 1 p) ρ h=.ok g.d h:=λ h p=>by rw [qJ,h1]
 rw [e];exact ⟨_,UR (bnd (bnd (z16 (cns (we 169 (show 2<=1000 by decide)) rfl) (show 1<=1000 by decide)) (bnd (bnd (v7 _ _) 133) m1)) (bnd (z16 (cns (v1 _ _) rfl) (show 1<=1000 by decide)) m2)) (zN 188),(Kx.app _ _).trans ((Kx.app _ _).trans ((Kx.app _ _).trans (Kx.app _ _)))⟩
theorem OS (n:Nat):G.sizes (List.replicate n (lf (.num 5)))=n:=by
 induction n with
 | zero=>rw [List.replicate_zero,G.sizes]
 | succ n ih=>rw [Y14,G.sizes,ih,qp];omega
theorem Wz:∀ a b:List G,G.sizes (a++b)=G.sizes a+G.sizes b
 | [],b=>by rw [Y0n,G.sizes];omega
 | x::a,b=>by rw [Y2i,G.sizes,G.sizes,Wz a b];omega
theorem Zq (a:G):G.sizes [a]=a.size:=by rw [G.sizes,G.sizes];omega
theorem Gi (a b:G):G.sizes [a,b]=a.size+b.size:=by rw [G.sizes,G.sizes,G.sizes];omega
theorem Js (O':N.Ok)(A:At N a b c d h)(T:Tr N ob n g)(x:Int)(y f:Str)(hy:ob=some y\/y∈N.pl)(ho:1<=N.op.length) :
  ∃ t h',Ss.run cl (jC 2 (z1z (jC 2 d_law_call.body))) [some 264,some g.d,some 162,some (zV ob),some (.str f),some (.str y),none,none] h=.rt (G.d t) h'/\Kx [] h h'/\Tr N ob (n+1) t:=by
 obtain ⟨q,hq,eq⟩:=pick opD N.op (x/32) ho;have hm:=O'.om q hq;obtain ⟨h',e1,k1⟩:=z9q (ρ:=[some 264,some g.d,some 162,some (zV ob),some (.str f),some (.str y),some (.str q.1),some (.int q.2)]) (m:=q.2) rfl rfl hm;refine ⟨.nd (.call q.1 (some y)) (List.replicate (q.2-1).toNat (lf (.num 5))++[g]),h',z8y (V6 rfl 217 rfl A.op eq) rfl (zo ?_),k1,T.step (.inr (.inr ⟨Y1k hq,y,rfl,hy⟩)) (λ z hz=>?_) ?_⟩
 ·rw [G.d];exact we (cns rfl (cns rfl (cns rfl (cns e1 rfl)))) (show 4<=1000 by decide)
 ·rcases Y0j.mp hz with hz | hz
  ·rw [(List.mem_replicate.mp hz).2];exact .inr (Sm.num 5)
  ·exact .inl (Y0d.mp hz)
 ·rw [Wz,OS,Zq];omega
theorem z9r (O':N.Ok)(A:At N a b c d h)(T:Tr N ob n g)(x:Int):Gw N ob (n+1) h (d_law_call.run cl [.int x,g.d,nmD a b c d,zV ob] h):=by
 obtain ⟨f,hf,ef⟩:=pick D.str N.pl (x/4) O'.p1;have st:Ss.run cl d_law_call.body [some 264,some g.d,some 162,some (zV ob),none,none,none,none] h=Ss.run cl (jC 1 d_law_call.body) 302 h:=zf (V6 rfl 217 rfl A.pl ef) rfl;refine (congrArg (Gw N ob (n+1) h) (congrArg w9 st)).mpr ?_;have pl:Gw N ob (n+1) h (w9 (Ss.run cl (jC 3 d_law_call.body) 302 h)):=by
  refine ⟨.nd (.call f none) [g],h,zg (zo ?_),Kx.refl _ _,T.step (.inr (.inl ⟨hf,rfl⟩)) (λ z hz=>.inl (Y0d.mp hz)) (by rw [Zq];omega)⟩;rw [G.d,G.ds,G.ds];rfl
 have op:Gw N ob (n+1) h (w9 (Ss.run cl (jC 2 d_law_call.body) 302 h)):=by
  have ln:((N.op.map opD).length:Int)=N.op.length:=by rw [Y07]
  by_cases z:1<=N.op.length
  ·by_cases z3:x%4<3
   ·cases ob with
    | none =>
     obtain ⟨t,h',e,k,T'⟩:=Js O' A T x f f (.inr hf) z;exact ⟨t,h',zg (jd 170 (zf rfl (zv (jY 299) e))),k,T'⟩
    | some y =>
     by_cases z1:x%4=1
     ·obtain ⟨t,h',e,k,T'⟩:=Js O' A T x y f 243 z;exact ⟨t,h',zg (jd 170 (zf rfl (wm (ji 299 ((yj (jH rfl rfl 127) rfl).trans (by rw [z1];rfl))) (zf rfl rfl) e))),k,T'⟩
     ·obtain ⟨t,h',e,k,T'⟩:=Js (cl:=cl) O' A T x f f (.inr hf) z;exact ⟨t,h',zg (jd 170 (zf rfl (zv (ji 299 ((yj (jH rfl rfl 127) rfl).trans (by rw [beq_false_of_ne z1]))) e))),k,T'⟩
   ·exact (congrArg (Gw N ob (n+1) h) (congrArg w9 (zv (ji ((QR (j8 rfl A.op) rfl).trans (by rw [ln,decide_eq_true 128])) ((z1v (jH rfl rfl 127) rfl).trans (by rw [decide_eq_false z3]))) rfl))).mpr pl
  ·exact (congrArg (Gw N ob (n+1) h) (congrArg w9 (zv (jY ((QR (j8 rfl A.op) rfl).trans (by rw [ln,decide_eq_false 128]))) rfl))).mpr pl
 cases ob with
 | none=>exact (congrArg (Gw N none (n+1) h) (congrArg w9 (zv (jY 299) rfl))).mpr op
 | some y =>
  by_cases z:x%4=0
  ·refine ⟨.nd (.call y none) [g],h,zg (jd (ji 299 ((yj (jH rfl rfl 127) rfl).trans (by rw [z];rfl))) (zo ?_)),Kx.refl _ _,T.step (.inl 210) (λ z hz=>.inl (Y0d.mp hz)) (by rw [Zq];omega)⟩;rw [G.d,G.ds,G.ds];rfl
  ·exact (congrArg (Gw N (some y) (n+1) h) (congrArg w9 (zv (ji 299 ((yj (jH rfl rfl 127) rfl).trans (by rw [beq_false_of_ne z]))) rfl))).mpr op
def z20 (cl:126)(i:Nat):Prop:=∀ (N:Nms) (ob:XX) (n:Nat) (g:G) (a b c d:Nat) (x:Int) (h:Hh),N.Ok->At N a b c d h->Tr N ob n g->Gw N ob (n+1) h (cl i [.int x,g.d,nmD a b c d,zV ob] h)
theorem z5s (Ca:z20 cl 28)(Be:YR cl 27)(O':N.Ok)(A:At N a b c d h)(T:Tr N ob n g)(x:Int)(gn:Bool):Gw N ob (n+1) h (d_law_grown.run cl [.int x,g.d,nmD a b c d,zV ob,.bl gn] h):=by
 obtain ⟨e,he,ee⟩:=pick D.str N.dd x O'.d1;obtain ⟨r,er⟩:∃ r,r=x/((txs N.dd).length:Nat):=146;have l9:=O'.d9;have l1:=O'.d1;have ll:(txs N.dd).length=N.dd.length:=Y07 ..
 have st:Ss.run cl d_law_grown.body [some 264,some g.d,some 162,some (zV ob),some (.bl gn),none,none,none] h=Ss.run cl (jC 2 d_law_grown.body) [some 264,some g.d,some 162,some (zV ob),some (.bl gn),some (.str e),some (.int r),none] h:=by
  rw [er];exact zf (V6 rfl rfl rfl A.dd ee) (zf (wx rfl (j8 rfl A.dd) 128) rfl)
 refine (congrArg (Gw N ob (n+1) h) (congrArg w9 st)).mpr ?_;have tm:∀ (ρ:En) (j:Int) (b:Bool) (p p1 p2 p3 p4:Pos),ρ[6]?=some (some (.int r))->decide (r%8<j)=b->E.evT cl (.cmp .Lt (.bin .Mod (.var 6 p) (.int 8 p1) p2) (.int j p3) p4) ρ h=.ok b h:=λ ρ j b p p1 p2 p3 p4 q z=>by rw [<- z];exact z1v (jH (by rw [qJ,q]) rfl 127) rfl
 by_cases z0:r%8<2
 ·refine ⟨.nd (.doo e) [g],h,zg (jd (tm _ 2 true _ _ _ _ _ rfl (decide_eq_true z0)) (zo ?_)),Kx.refl _ _,T.step he (λ z hz=>.inl (Y0d.mp hz)) (by rw [Zq];omega)⟩;rw [G.d,G.ds,G.ds];rfl
 by_cases z5:r%8<5
 ·obtain ⟨t,h',e1,k1,T1⟩:=Ca N ob n g a b c d (r/8) h O' A T;exact ⟨t,h',zg (zv (tm _ 2 false _ _ _ _ _ rfl (decide_eq_false z0)) (jd (tm _ 5 true _ _ _ _ _ rfl (decide_eq_true z5)) (zo (zD 217 (cns rfl 169) e1)))),k1,T1⟩
 have bs:Gw N ob (n+1) h (w9 (Ss.run cl (jC 5 d_law_grown.body) [some 264,some g.d,some 162,some (zV ob),some (.bl gn),some (.str e),some (.int r),none] h)):=by
  obtain ⟨t,h',e1,k1,m1⟩:=Be (r/8%9) g (doT e 4) h 128 128;have ed:(doT e 4).d=.tup [.str "do",.str e,.tup [.str "num",.int 4]]:=by unfold doT lf;rw [G.d,G.ds,G.ds,G.d,G.ds];rfl
  rw [ed] at e1;exact ⟨t,h',zg (zo (zD (jH 217 rfl 127) 169 e1)),k1,z5r T (Sm.do he) (Y41 (QQ ..)) t m1⟩
 refine (congrArg (Gw N ob (n+1) h) (congrArg w9 (zv (tm _ 2 false _ _ _ _ _ rfl (decide_eq_false z0)) (zv (tm _ 5 false _ _ _ _ _ rfl (decide_eq_false z5)) rfl)))).mpr ?_;have ln:((txs N.hd).length:Int)=N.hd.length:=congrArg _ (Y07 ..);by_cases z7:r%8<7
 ·by_cases zh:1<=N.hd.length
  ·obtain ⟨q,hq,eq⟩:=pick D.str N.hd (r/16) zh;by_cases zz:r/8%2=0/\gn=false
   ·refine ⟨.nd (.handle q) [lf (.num 3),g],h,zg (jd 182 (zf (V6 rfl 217 rfl A.hd eq) (jd (ji ((yj (jH 217 rfl 127) rfl).trans (by rw [zz.1];rfl)) (by rw [zz.2];rfl)) (zo ?_)))),Kx.refl _ _,T.step ⟨hq,rfl⟩ (λ z hz=>?_) (by rw [Gi,qp];omega)⟩
    ·unfold lf;rw [G.d,G.ds,G.ds,G.ds,G.d,G.ds];rfl
    ·simp only [Y08,Y0t,or_false] at hz;exact hz.symm.imp id λ w=>by rw [w];exact Sm.num 3
   ·have hx:(G.nd (.handle q) [g,doT e 0]).d=.tup [.str "handle",.str q,g.d,.tup [.str "do",.str e,.tup [.str "num",.int 0]]]:=by
     unfold doT lf;simp only [G.d,G.ds,Kd.enc]
    have T1:Tr N ob (n+1) (.nd (.handle q) [g,doT e 0]):=T.step ⟨hq,rfl⟩ (λ z hz=>by
     simp only [Y08,Y0t,or_false] at hz;exact hz.imp id λ w=>by rw [w];exact Sm.do he) (by rw [Gi,QQ];omega)
    by_cases z2:r/8%2=0
    ·have gt:gn=true:=by cases gn<;>simp_all
     refine ⟨_,h,zg (jd 182 (zf (V6 rfl 217 rfl A.hd eq) (zv (ji ((yj (jH 217 rfl 127) rfl).trans (by rw [z2];rfl)) (by rw [gt];rfl)) (zo ?_)))),Kx.refl _ _,T1⟩;rw [hx];rfl
    ·refine ⟨_,h,zg (jd 182 (zf (V6 rfl 217 rfl A.hd eq) (zv (jY ((yj (jH 217 rfl 127) rfl).trans (by rw [beq_false_of_ne z2]))) (zo ?_)))),Kx.refl _ _,T1⟩;rw [hx];rfl
  ·exact (congrArg (Gw N ob (n+1) h) (congrArg w9 (zv (ji (tm _ 7 true _ _ _ _ _ rfl (decide_eq_true z7)) ((QR (j8 rfl A.hd) rfl).trans (by rw [ln,decide_eq_false 128]))) rfl))).mpr bs
 ·exact (congrArg (Gw N ob (n+1) h) (congrArg w9 (zv (jY (tm _ 7 false _ _ _ _ _ rfl (decide_eq_false z7))) rfl))).mpr bs
def yk (cl:126)(i:Nat):Prop:=∀ (N:Nms) (ob:XX) (n:Nat) (g:G) (a b c d:Nat) (x:Int) (gn:Bool) (h:Hh),N.Ok->At N a b c d h->Tr N ob n g->Gw N ob (n+1) h (cl i [.int x,g.d,nmD a b c d,zV ob,.bl gn] h)
end
section
variable {cl:126}{N:Nms}{ob:XX}{n:Nat}{g:G}{a b c d:Nat}{h:Hh}
theorem WA (k:Kx [] h h')(hc:rd h nc=some all):rd h' nc=some all:=by
 unfold rd at hc ⊢;split at hc
 ·rename_i xs e;rw [k.2 _ _ e 130];exact hc
 ·cases hc
theorem WB (Gn:yk cl 29)(O':N.Ok)(nc:Nat)(all:181):∀ (cs:179) (n:Nat) (g:G) (x:168) (h:Hh),rd h nc=some all->At N a b c d h->Tr N ob n g ->
  ∃ h' g' x',zu [(nc,all)] (zH Qn λ ρ' h'=>b_law_body_1.run cl ρ' h') 213 [some 253,some 162,some (zV ob),some g.d,x] h=.nx [some 253,some 162,some (zV ob),some (G.d g'),x'] h'/\Kx [] h h'/\Tr N ob (n+cs.length) g'
 | [],n,g,x,h,hc,A,T=>⟨h,g,x,by rw [Y0u,zu,if_pos (stay_one.mpr hc)],Kx.refl _ _,T⟩
 | y::cs,n,g,x,h,hc,A,T=>by
  obtain ⟨g1,h1,e1,k1,T1⟩:=Gn N ob n g a b c d y false h O' A T;obtain ⟨h2,g2,x2,e2,k2,T2⟩:=WB Gn O' nc all cs (n+1) g1 (some (.int y)) h1 (WA k1 hc) (A.kx k1) T1;exact ⟨h2,g2,x2,ju (stay_one.mpr hc) (zf (zD rfl (cns rfl (cns rfl 169)) e1) rfl) e2,k1.trans k2,T2.le (by rw [Y09];omega)⟩
theorem z9s (Gn:yk cl 29)(O':N.Ok)(nc:Nat)(cs:179)(hc:h[nc]?=some (.lst 213))(A:At N a b c d h) :
  Gw N ob cs.length h (d_law_body.run cl [.loc nc,nmD a b c d,zV ob] h):=by
 obtain ⟨h',g',x',e,k,T⟩:=WB Gn O' nc _ cs 0 (lf (.var "x")) none h (zN hc) A (Tr.start "x");have e0:(lf (.var "x")).d=.tup [.str "var",.str "x"]:=by unfold lf;rw [G.d,G.ds];rfl
 rw [e0] at e;exact ⟨g',h',zg (zf rfl (zT (jZ rfl hc) e 285)),k,T.le 128⟩
def V7 (cl:126)(i:Nat):Prop:=∀ (N:Nms) (ob:XX) (a b c d nc:Nat) (cs:179) (h:Hh),N.Ok->h[nc]?=some (.lst 213)->At N a b c d h->Gw N ob cs.length h (cl i [.loc nc,nmD a b c d,zV ob] h)
theorem ze5 (O':N.Ok)(A:At N a b c d h)(T:Tr N ob n g)(x:Int):Gw N ob (n+1) h (d_law_go.run cl [.int x,g.d,nmD a b c d] h):=by
 obtain ⟨e,he,ee⟩:=pick D.str N.dd (x/4) O'.d1;have m:0<=x%4/\x%4<4:=by omega
 have ed:(([.nd .go [g,lf (.num 1)],.nd .go [lf (.num 2),g],.nd .go [g,doT e 1],.nd .go [doT e 1,g]]:List G).map G.d)=[.tup [.str "go",g.d,.tup [.str "num",.int 1]],.tup [.str "go",.tup [.str "num",.int 2],g.d],.tup [.str "go",g.d,.tup [.str "do",.str e,.tup [.str "num",.int 1]]],.tup [.str "go",.tup [.str "do",.str e,.tup [.str "num",.int 1]],g.d]]:=by
  simp only [doT,lf,Y0a,Y0u,G.d,G.ds,Kd.enc]
 obtain ⟨t,ht,et⟩:=pick G.d ([.nd .go [g,lf (.num 1)],.nd .go [lf (.num 2),g],.nd .go [g,doT e 1],.nd .go [doT e 1,g]]:List G) x 130;rw [ed] at et;refine ⟨t,_,zg (zf (we (cns rfl (cns (V6 rfl 217 rfl A.dd ee) 141)) (show 3<=1000 by decide)) (zf rfl (zo (yi rfl (jH rfl rfl 127) 188 m.1 et)))),Kx.app _ _,?_⟩;have aux:∀ (ps:260),(∀ x∈ps,x=g\/x=doT e 1\/∃ i,x=lf (.num i))->G.sizes ps+1<=g.size+4->Tr N ob (n+1) (.nd .go ps):=λ ps h2 h3=>T.step trivial (λ x hx=>(h2 x hx).imp id λ z=>z.elim (λ z=>z▸Sm.do he) λ ⟨i,z⟩=>z▸Sm.num i) h3;simp only [Y08,Y0t,or_false] at ht;rcases ht with rfl | rfl | rfl | rfl <;>
  exact aux _ (by intro x hx;simp only [Y08,Y0t,or_false] at hx;rcases hx with h | h<;>first | exact .inl h | exact .inr (.inl h) | exact .inr (.inr ⟨_,h⟩)) (by simp only [G.sizes,qp,QQ];omega)
def z9t (cl:126)(i:Nat):Prop:=∀ (N:Nms) (ob:XX) (n:Nat) (g:G) (a b c d:Nat) (x:Int) (h:Hh),N.Ok->At N a b c d h->Tr N ob n g->Gw N ob (n+1) h (cl i [.int x,g.d,nmD a b c d] h)
theorem bits_lt:Builtin.Int.intBits x<=m ↔ x.natAbs<2 ^ m:=by
 unfold Builtin.Int.intBits
 split
 ·rename_i z
  have:x=0:=by simpa using z
  subst this;exact ⟨λ _=>Nat.pow_pos 127,λ _=>Y19 _⟩
 ·rename_i z;have hz:x.natAbs≠0:=by simpa using z
  rw [<- Nat.log2_lt hz];omega
theorem z21:∀ cs:List Int,(∀ x∈cs,x.natAbs<=M)->cs.sum.natAbs<=cs.length*M
 | [],_=>by simp
 | x::cs,h=>by
  have h1:=h x Y04;have h2:=z21 cs λ y hy=>h y (Y02 _ hy);rw [List.sum_cons,Y09,Y3m];omega
theorem z22 {cs:179}{a b:Nat}(hab:6+a<=b)(hl:cs.length<=60)(h:∀ x∈cs,x.natAbs<2 ^ a):cs.sum.natAbs<2 ^ b:=by
 have h2:=z21 cs λ x hx=>Y21 (h x hx);have h3:=Y3r (2 ^ a) hl;have h6:=Nat.pow_le_pow_right (show 0<2 by decide) hab;rw [Nat.pow_add] at h6;have h7:0<2 ^ a:=Nat.pow_pos 127;omega
theorem z23 {cs:179}(hl:cs.length<=60)(hb:∀ x∈cs,fits x=true):Yl cs.sum=true :=
 decide_eq_true (bits_lt.mpr (z22 127 hl λ x hx=>bits_lt.mp (of_decide_eq_true (hb x hx))))
theorem Gj:∀ cs:List Int,wt 213=some cs
 | []=>rfl
 | x::cs=>by
  show (wt 213).map (x::·)=_;rw [Gj cs];rfl
end
theorem QS (ns:179)(j:Int)(hi:281)(m:Int)(hm:0<m)(hj:0<=j)(hh:hi=none\/hi=some 40):∃ cs:List Int,L2.cutS (ns.map D.int) (some j) hi m=cs.map D.int/\(∀ x∈cs,x∈ns)/\cs.length<=ns.length/\(hi=some 40->(cs.length:Int)<=max 0 (40-j)):=by
 refine ⟨L2.cutS ns (some j) hi m,?_,?_,?_⟩
 ·unfold L2.cutS;rw [Y07,List.map_filterMap]
  congr 1
  funext i
  rw [Y0r]
 ·intro x hx;unfold L2.cutS at hx;obtain ⟨i,_,q⟩:=Y1v.mp hx;exact Y0z q
 ·have key:(L2.cutS ns (some j) hi m).length<=((sliceBounds (some j) hi (some m) ns.length).2.1-(sliceBounds (some j) hi (some m) ns.length).1).toNat:=by
   unfold L2.cutS;refine Y0y (List.length_filterMap_le _ _) (Y0y (sliceRange_len_le _ _ _ (by show m≠0;omega)) ?_);show (if m > 0 then _ else _)<=_;rw [if_pos hm];omega
  rcases hh with rfl | rfl
  ·unfold sliceBounds at key;simp only [Y2x] at key;rw [if_neg (show ¬ (j<0) by omega),if_pos hm] at key;refine ⟨?_,λ z=>by cases z⟩;simp only [if_pos hm] at key;omega
  ·unfold sliceBounds at key;simp only [Y2x] at key;rw [if_neg (show ¬ (j<0) by omega),if_neg (show ¬ ((40:Int)<0) by omega),if_pos hm,if_pos hm] at key;exact ⟨by omega,λ _=>by omega⟩
section
variable {cl:126}{N:Nms}{ob:XX}{n:Nat}{g:G}{a b c d:Nat}{h:Hh}
theorem z24 (he:199)(hl:lo.ev cl ρ h1=.ok u h1)(hh:hi.ev cl ρ h1=.ok v h1)(hs:st.ev cl ρ h1=.ok (.int m) h1)(hm:0<m)(g:h1[n]?=some 195):E.ev cl (.cutS e lo hi st p p1) ρ h=.ok (.loc h1.length) (h1++[.lst (L2.cutS xs u v m)]):=bnd he (bnd hl (bnd hh (bnd hs (by
 show Wa 151 u v (.int m) h1=_;unfold Wa;dsimp only;rw [if_pos hm,zN g];rfl))))
theorem zci {n:Nat}{cs:179}(he:199)(g:h1[n]?=some (.lst 213)):E.ev cl (.c1 .sum e p p1) ρ h=.ok (.int cs.sum) h1:=bnd he (by
 show c1D .sum 151 h1=_;unfold c1D;dsimp only;rw [zN g];show (match wt _ with | some is=>Res.ok (D.int is.sum) _ | none=>.no)=_
 rw [Gj])
theorem Gk (Gn:yk cl 29)(Go:z9t cl 31)(O':N.Ok)(x at' nb:Int)(nc:Nat)(cs:179):∀ (m k:Nat) (n:Nat) (g:G) (y:168) (h:Hh),k+m<=cs.length->h[nc]?=some (.lst 213)->At N a b c d h->Tr N none n g ->
  ∃ h' g' y',zu [] (zH J8 λ ρ' h'=>b_law_clause_1.run cl ρ' h') ((List.range' k m).map λ k=>D.int (k:Nat)) [some 264,some 253,some 162,some (.int nb),some (.int at'),some g.d,y] h=.nx [some 264,some 253,some 162,some (.int nb),some (.int at'),some (G.d g'),y'] h'/\Kx [] h h'/\Tr N none (n+m+(if (k:Int)<=at'/\at'<(k:Int)+m then 1 else 0)) g'
 | 0,k,n,g,y,h,hj,hc,A,T=>⟨h,g,y,by rw [Y3h,Y0u,zu,if_pos ze],Kx.refl _ _,T.le 128⟩
 | m+1,k,n,g,y,h,hj,hc,A,T=>by
  have kl:k<cs.length:=by omega
  have ck:213[((k:Nat):Int).toNat]?=some (.int cs[k]):=by
   rw [show ((k:Nat):Int).toNat=k by omega,Y0r,Y06 kl];rfl
  have st:∃ h1 g1,Tr N none (n+1+(if ((k:Nat):Int)=at' then 1 else 0)) g1/\Kx [] h h1/\b_law_clause_1.run cl [some 264,some 253,some 162,some (.int nb),some (.int at'),some g.d,some (.int (k:Nat))] h=.nx [some 264,some 253,some 162,some (.int nb),some (.int at'),some (G.d g1),some (.int (k:Nat))] h1:=by
   by_cases z:((k:Nat):Int)=at'
   ·obtain ⟨g1,h1,e1,k1,T1⟩:=Go N none n g a b c d nb h O' A T;obtain ⟨g2,h2,e2,k2,T2⟩:=Gn N none (n+1) g1 a b c d cs[k] (decide (at'<=((k:Nat):Int))) h1 O' (A.kx k1) T1;exact ⟨h2,g2,by rw [if_pos z];exact T2,k1.trans k2,wm ((yj rfl rfl).trans (by rw [z];simp)) (zf (zD rfl 169 e1) rfl) (zf (zD (yi rfl rfl (k1.2 _ _ hc 130) 128 ck) (cns rfl (cns rfl (cns rfl (cns 129 rfl)))) e2) rfl)⟩
   ·obtain ⟨g2,h2,e2,k2,T2⟩:=Gn N none n g a b c d cs[k] (decide (at'<=((k:Nat):Int))) h O' A T;exact ⟨h2,g2,by rw [if_neg z];exact T2,k2,zv ((yj rfl rfl).trans (by rw [beq_false_of_ne z])) (zf (zD (yi rfl rfl hc 128 ck) (cns rfl (cns rfl (cns rfl (cns 129 rfl)))) e2) rfl)⟩
  obtain ⟨h1,g1,T1,k1,e1⟩:=st;obtain ⟨h2,g2,y2,e2,k2,T2⟩:=Gk Gn Go O' x at' nb nc cs m (k+1) _ g1 (some (.int (k:Nat))) h1 128 (k1.2 _ _ hc 130) (A.kx k1) T1;refine ⟨h2,g2,y2,by rw [Y2z,Y0a];exact ju ze e1 e2,k1.trans k2,T2.le ?_⟩;by_cases z:((k:Nat):Int)=at'
  ·rw [if_pos z,if_neg 128,if_pos 128];omega
  ·rw [if_neg z];by_cases z2:((k+1:Nat):Int)<=at'/\at'<((k+1:Nat):Int)+m
   ·rw [if_pos z2,if_pos 128];omega
   ·rw [if_neg z2];omega
theorem OT (Gn:yk cl 29)(Go:z9t cl 31)(O':N.Ok)(x:Int)(nc:Nat)(cs:179)(hb:∀ y∈cs,fits y=true)(hl:cs.length<=30)(hc:h[nc]?=some (.lst 213))(A:At N a b c d h) :
  Gw N none 31 h (d_law_clause.run cl [.int x,.loc nc,nmD a b c d] h):=by
 have ll:(cs.map D.int).length=cs.length:=Y07 ..
 obtain ⟨nb,en⟩:∃ nb,nb=(cs.sum*48271+x)%2147483647:=146;obtain ⟨t,et⟩:∃ t,t=nb%(((cs.map D.int).length:Nat)+2):=146;obtain ⟨nb',en'⟩:∃ nb',nb'=nb/(((cs.map D.int).length:Nat)+2):=146;have e0:(lf (.var "y")).d=.tup [.str "var",.str "y"]:=by unfold lf;rw [G.d,G.ds];rfl
 obtain ⟨h1,g1,y1,e1,k1,T1⟩:=Gk (cl:=cl) Gn Go O' x t nb' nc cs cs.length 0 0 (lf (.var "y")) none h 128 hc A (Tr.start "y");rw [e0] at e1;have st:∀ {o:RS},Ss.run cl (jC 5 d_law_clause.body) [some 264,some 253,some 162,some (.int nb'),some (.int t),some (G.d g1),y1] h1=o->Ss.run cl d_law_clause.body [some 264,some 253,some 162,none,none,none,none] h=o:=λ {o} k=>by
  subst et;subst en';subst en;refine zf (jH (qR (bnd (zci rfl hc) (bnd rfl (mlm (z23 128 hb) (Q0 (jB 127))))) rfl) rfl 127) (zf (jH rfl (qR (j8 rfl hc) rfl) 128) (zf (wx rfl (qR (j8 rfl hc) rfl) 128) (zf rfl (zT (q:=([],(List.range' 0 cs.length).map λ k=>.int (k:Nat))) ((yY (j8 rfl hc) 128).trans ?_) e1 k))));rw [ll,show ((cs.length:Nat):Int).toNat=cs.length by omega,Y31]
 have hc1:=k1.2 _ _ hc 130;by_cases z:t=((cs.map D.int).length:Nat)
 ·obtain ⟨g2,h2,e2,k2,T2⟩:=Go N none _ g1 a b c d nb' h1 O' (A.kx k1) T1;exact ⟨g2,h2,zg (st (wm ((yj rfl (j8 rfl hc1)).trans (by rw [z];simp)) (zf (zD rfl 169 e2) rfl) 285)),k1.trans k2,T2.le (by rw [if_neg 128];omega)⟩
 ·exact ⟨g1,h1,zg (st (zv ((yj rfl (j8 rfl hc1)).trans (by rw [beq_false_of_ne z])) 285)),k1,T1.le (by split<;>omega)⟩
def z25 (cl:126)(i:Nat):Prop:=∀ (N:Nms) (x:Int) (a b c d nc:Nat) (cs:179) (h:Hh),N.Ok->(∀ y∈cs,fits y=true)->cs.length<=30->h[nc]?=some (.lst 213)->At N a b c d h->Gw N none 31 h (cl i [.int x,.loc nc,nmD a b c d] h)
end
theorem z26 (c:α->Bool)(f:α->β)(l:List α):l.filterMap (λ x=>if c x then some (f x) else none)=(l.filter c).map f:=by
 induction l with
 | nil=>rfl
 | cons x r ih =>
  rw [Y1l,Y2h];cases e:c x<;>simp [ih]
section
variable {cl:126}{N:Nms}{ob:XX}{n:Nat}{g:G}{a b c d:Nat}{h:Hh}
theorem At.kn (A:At N a b c d h)(k:Kx [m] h h')(na:a≠m)(nb:b≠m)(nc:c≠m)(nd:d≠m):At N a b c d h':=⟨k.2 _ _ A.pl (by simpa using na),k.2 _ _ A.op (by simpa using nb),k.2 _ _ A.hd (by simpa using nc),k.2 _ _ A.dd (by simpa using nd)⟩
theorem Kx.up (k:Kx [] h h'):Kx [m] h h':=⟨k.1,λ i o e _=>k.2 i o e 130⟩
theorem Kx.fresh {h a b:Hh}(x:Kx [] h a)(hn:h.length<=n)(y:Kx [n] a b):Kx [] h b:=⟨Y0y x.1 y.1,λ i o e _=>y.2 i o (x.2 i o e 130) (by have:=(Y00.mp e).1;simp;omega)⟩
theorem Gm (Lc:z25 cl 32)(O':N.Ok)(x0 x7:168)(x:Int)(nc nsm ncl:Nat)(cs:179)(hb:∀ y∈cs,fits y=true)(hl:cs.length<=30)(hs:XQ)(hs9:hs.length<=9)(na:a≠ncl)(nb:b≠ncl)(n3:c≠ncl)(nd:d≠ncl)(n1:nc≠ncl)(n2:nsm≠ncl):∀ (m k:Nat) (A:List (Str×G)) (y:168) (h:Hh),k+m=hs.length->A.map (·.1)=hs.take k->(∀ q∈A,Tr N none 31 q.2)->h[nsm]?=some (.lst (txs hs))->h[nc]?=some (.lst 213)->At N a b c d h->h[ncl]?=some (.lst (A.map clD)) ->
  ∃ (h':Hh) (A':List (Str×G)) (y':168),zu [] (zH Zb λ ρ' h'=>b_law_handler_1.run cl ρ' h') ((List.range' k m).map λ k=>D.int (k:Nat)) [x0,some 264,some 253,some 162,some (.loc nsm),some (.loc ncl),y,x7] h=.nx [x0,some 264,some 253,some 162,some (.loc nsm),some (.loc ncl),y',x7] h'/\Kx [ncl] h h'/\h'[ncl]?=some (.lst (A'.map clD))/\A'.map (·.1)=hs/\∀ q∈A',Tr N none 31 q.2
 | 0,k,A,y,h,e,hA,hT,hsm,hc,At',hcl=>⟨h,A,y,by rw [Y3h,Y0u,zu,if_pos ze],Kx.refl _ _,hcl,by rw [hA,Y2s 128],hT⟩
 | m+1,k,A,y,h,e,hA,hT,hsm,hc,At',hcl=>by
  have kl:k<hs.length:=by omega
  have ls:(txs hs).length=hs.length:=Y07 ..
  have lA:A.length=k:=by have:=congrArg List.length hA;rw [Y07,Y1t] at this;omega
  have sk:(txs hs)[((k:Nat):Int).toNat]?=some (.str hs[k]):=by
   rw [show ((k:Nat):Int).toNat=k by omega];unfold txs;rw [Y0r,Y06 kl];rfl
  obtain ⟨cs',ec,m1,l1,_⟩:=QS cs (k:Nat) none (((txs hs).length:Nat)+1) 128 128 243;have k0:Kx [] h (h++238):=Kx.app _ _;obtain ⟨g1,h1,e1,k1,T1⟩:=Lc N (x/16+7*((k:Nat):Int)) a b c d h.length cs' (h++238) O' (λ z hz=>hb z (m1 z hz)) 128 188 (At'.kx k0);have k01:=k0.trans k1;have cut:E.ev cl (.cutS (.var 2 138) (.some (.var 6 138)) .none (.bin .Add (.len (.var 4 138) 138 138) (.int 1 138) 138) 138 138) 220 h=.ok 136 (h++238):=by
   rw [<- ec];exact z24 rfl (wv rfl) rfl (qR (j8 rfl hsm) rfl) 128 hc
  have hcl1:=k01.2 _ _ hcl 130;have ks:Kx [ncl] h1 (h1.set ncl (.lst (A.map clD++[clD (hs[k],g1)]))):=Kx.set _ _ 130;have st:b_law_handler_1.run cl 220 h=.nx 220 (h1.set ncl (.lst (A.map clD++[clD (hs[k],g1)]))) :=
   J2 (YJ rfl ⟨_,hcl⟩ (we (cns (yi rfl rfl hsm 128 sk) (cns rfl (cns rfl (cns (zD (qR 217 (bnd rfl (bnd rfl (mlk (jB 127) (jB 128))))) (cns cut 141) e1) rfl)))) (show 4<=1000 by decide)) hcl1 (by rw [Y07];omega)) rfl
  have kk:=k01.up.trans ks;obtain ⟨h2,A2,y2,e2,k2,q2,q3,q4⟩:=Gm Lc O' x0 x7 x nc nsm ncl cs hb hl hs hs9 na nb n3 nd n1 n2 m (k+1) (A++[(hs[k],g1)]) (some (.int (k:Nat))) _ 128 (by rw [Y0o,hA,List.map_singleton,List.take_succ,Y06 kl];rfl) (λ q hq=>by
   rcases Y0j.mp hq with hq | hq
   ·exact hT q hq
   ·rw [Y0d.mp hq];exact T1) (kk.2 _ _ hsm (by simpa using n2)) (kk.2 _ _ hc (by simpa using n1)) (At'.kn kk na nb n3 nd) (by rw [w4 hcl1,Y0o];rfl)
  exact ⟨h2,A2,y2,by rw [Y2z,Y0a];exact ju ze st e2,kk.trans k2,q2,q3,q4⟩
def Nms.noh (N:Nms):Nms:=⟨N.pl,N.op,[],N.dd⟩
theorem Nms.Ok.noh (O':N.Ok):N.noh.Ok:=⟨O'.p1,O'.p9,O'.o9,O'.om,Y19 _,O'.d1,O'.d9⟩
theorem Tr.noh (T:Tr N.noh ob n g):Tr N ob n g:=⟨T.al.mono (λ k m q=>by cases k<;>first | exact q | exact absurd q.1 Y0t),T.dp,T.sz⟩
structure ItG (N:Nms)(nm:Str)(it:It):Prop where
 nm:it.nm=.str nm
 hs:it.heads.Sublist N.dd
 tr:∀ g∈it.bods,Tr N it.ownS 31 g
 own:it.own=zV it.ownS
def ItR (N:Nms)(nm:Str)(P:It->Prop)(h:Hh)(r:Res D):Prop:=∃ h' it,r=.ok it.d h'/\Kx [] h h'/\ItG N nm it/\P it
theorem OU (Bo:V7 cl 30)(Lc:z25 cl 32)(O':N.Ok)(x:Int)(nm:Str)(nc:Nat)(cs:179)(hb:∀ y∈cs,fits y=true)(hl:cs.length<=30)(hc:h[nc]?=some (.lst 213))(A:At N a b c d h) :
  ItR N nm (λ it=>it.isH=true) h (d_law_handler.run cl [.str nm,.int x,.loc nc,nmD a b c d] h):=by
 have l9:=O'.d9;have ll:(txs N.dd).length=N.dd.length:=Y07 ..
 have key:=zM (λ k:Nat=>D.int k) (f:=j1 Zd (jz [none,some 1,some 3] [some (.str nm),some 264,some 253,some 162,none,none,none,none]) (λ ρ' h2=>c_law_handler_2.evC cl ρ' h2) (λ ρ' h2=>e_law_handler_2.ev cl ρ' h2)) ze (λ k=>if x/2 ^ k%2==1 then some (.str (N.dd.getD k "")) else none) (List.range N.dd.length) [] (λ k hk=>by
  have kl:=Y1n.mp hk;have rs:jE .RShift 264 (.int (k:Nat)) h=.ok (.int (x/2 ^ ((k:Nat):Int).toNat)) h:=by rw [bin_shr,if_pos 128]
  rw [show ((k:Nat):Int).toNat=k by omega] at rs;have s2:(txs N.dd)[((k:Nat):Int).toNat]?=some (.str (N.dd.getD k "")):=by
   rw [show ((k:Nat):Int).toNat=k by omega];unfold txs;rw [Y0r,Y0h,Y06 kl];rfl
  have e2:∀ b',(x/2 ^ k%2==1)=b'->Es.evC cl c_law_handler_2 [some (.int (k:Nat)),some 264,some 162] h=.ok b' h:=λ b' hb=>z1w (zm (jH (bnd rfl (bnd rfl rs)) rfl 127) rfl (by rw [<- hb];exact eqI));cases hb:x/2 ^ k%2==1 with
  | true=>rw [if_pos rfl];exact ja rfl (e2 _ hb) (yi rfl rfl A.dd 128 s2)
  | false=>rw [if_neg 130];exact QO rfl (e2 _ hb))
 rw [z26,Y0n] at key;obtain ⟨hs,eh⟩:∃ hs,hs=((List.range N.dd.length).filter λ k=>x/2 ^ k%2==1).map λ k=>N.dd.getD k "":=146;have sb:hs.Sublist N.dd:=by
  have q:(List.range N.dd.length).map (λ k=>N.dd.getD k "")=N.dd:=by
   refine List.ext_getElem 130 λ i h1 h2=>?_;rw [List.getElem_map,List.getElem_range,Y0h,Y06 h2];rfl
  rw [eh]
  have:=(List.filter_sublist (p:=λ k=>x/2 ^ k%2==1) (l:=List.range N.dd.length)).map λ k=>N.dd.getD k ""
  rw [q] at this;exact this
 have et:((List.range N.dd.length).filter λ k=>x/2 ^ k%2==1).map (λ k=>D.str (N.dd.getD k ""))=txs hs:=by rw [eh];unfold txs;rw [Y0m];rfl
 rw [et] at key;have h9:=Y0y sb.length_le l9;have ls:(txs hs).length=hs.length:=Y07 ..
 have k0:Kx [] h (h++[O.lst (txs hs)]++[O.lst []]):=(Kx.app _ _).trans (Kx.app _ _);have lt:∀ {i o},h[i]?=some o->i≠(h++[O.lst (txs hs)]).length:=λ {i o} e=>by have:=(Y00.mp e).1;simp;omega
 obtain ⟨h1,A1,y1,e1,k1,q1,q2,q3⟩:=Gm Lc O' (some (.str nm)) none x nc h.length (h++[O.lst (txs hs)]).length cs hb hl hs h9 (lt A.pl) (lt A.op) (lt A.hd) (lt A.dd) (lt hc) 130 hs.length 0 [] none (h++[O.lst (txs hs)]++[O.lst []]) 128 130 130 (zn 188) (k0.2 _ _ hc 130) (A.kx k0) 188;have k01:=k0.fresh 130 k1;have hc1:=k01.2 _ _ hc 130;have hs1:=k1.2 _ _ (zn 188) 130;obtain ⟨cs',ec,m1,l1,_⟩:=QS cs ((txs hs).length:Nat) none (((txs hs).length:Nat)+1) 128 128 243;have k2:Kx [] h1 (h1++238++[O.lst []]):=(Kx.app _ _).trans (Kx.app _ _);have A1':=A.kx k01;have A2:At N.noh a b (h1++238).length d (h1++238++[O.lst []]):=⟨(A1'.kx k2).pl,(A1'.kx k2).op,zc _ _,(A1'.kx k2).dd⟩;obtain ⟨g3,h3,e3,k3,T3⟩:=Bo N.noh none a b (h1++238).length d h1.length cs' (h1++238++[O.lst []]) O'.noh (zn 188) A2;have k23:=k2.trans k3;have cut:E.ev cl (.cutS (.var 2 138) (.some (.len (.var 4 138) 138 138)) .none (.bin .Add (.len (.var 4 138) 138 138) (.int 1 138) 138) 138 138) [some (.str nm),some 264,some 253,some 162,some 136,some (.loc (h++[O.lst (txs hs)]).length),y1,none] h1=.ok (.loc h1.length) (h1++238):=by
  rw [<- ec];exact z24 rfl (wv (j8 rfl hs1)) rfl (qR (j8 rfl hs1) rfl) 128 hc1
 refine ⟨h3,.hd (.str nm) A1 g3,zg (zf (zO (q:=([],(List.range N.dd.length).map λ k:Nat=>D.int k)) ((yY (j8 rfl A.dd) 128).trans ?_) 154 key) (zf rfl (zT (q:=([],(List.range' 0 hs.length).map λ k:Nat=>D.int k)) ((yY (j8 rfl (zn 188)) 128).trans ?_) e1 (zf (zD cut (cns (bnd rfl (bnd (we 169 (show 2<=1000 by decide)) rfl)) 141) e3) (zo (we (cns rfl (cns rfl (cns (UR rfl (zN (k23.2 _ _ q1 130))) 141))) (show 4<=1000 by decide))))))),k01.trans k23,⟨rfl,?_,λ g hg=>?_,rfl⟩,rfl⟩
 ·rw [ll,show ((N.dd.length:Nat):Int).toNat=N.dd.length by omega]
 ·rw [ls,show ((hs.length:Nat):Int).toNat=hs.length by omega,Y31]
 ·show (A1.map (·.1)).Sublist _;rw [q2];exact sb
 ·rcases Y0j.mp (show g∈A1.map (·.2)++[g3] from hg) with hg | hg
  ·obtain ⟨q,hq,rfl⟩:=Y0e.mp hg;exact q3 q hq
  ·rw [Y0d.mp hg];exact T3.noh.le 128
def z6z (cl:126)(i:Nat):Prop:=∀ (N:Nms) (x:Int) (nm:Str) (a b c d nc:Nat) (cs:179) (h:Hh),N.Ok->(∀ y∈cs,fits y=true)->cs.length<=30->h[nc]?=some (.lst 213)->At N a b c d h->ItR N nm (λ it=>it.isH=true) h (cl i [.str nm,.int x,.loc nc,nmD a b c d] h)
end
theorem Gp:PyData.strOk "open"=true:=by decide +kernel
theorem yl:PyData.strOk "plain"=true:=by decide +kernel
noncomputable def Jt (kinds:XQ)(kind:Str):List Nat:=(List.range kinds.length).filter λ k=>kinds.getD k ""==kind
noncomputable def ofL (said kinds:XQ)(kind:Str):List Str:=(Jt kinds kind).map λ k=>said.getD k ""
theorem sel_mem:k∈Jt kinds kind ↔ kinds[k]?=some kind:=by
 unfold Jt;rw [Y27,Y1n,Y0h];constructor
 ·rintro ⟨h1,h2⟩
  rw [Y06 h1] at h2 ⊢;exact congrArg some (by simpa using h2)
 ·intro h;have h1:=(Y00.mp h).1;rw [h];exact ⟨h1,by simp⟩
theorem V8 (hl:said.length=kinds.length):x∈ofL said kinds kind ↔ ∃ k:Nat,kinds[k]?=some kind/\said[k]?=some x:=by
 unfold ofL;rw [Y0e];constructor
 ·rintro ⟨k,h1,h2⟩
  have h1:=sel_mem.mp h1;refine ⟨k,h1,?_⟩;have lk:k<said.length:=by rw [hl];exact (Y00.mp h1).1
  rw [Y0h,Y06 lk] at h2;rw [Y06 lk];exact congrArg some h2
 ·rintro ⟨k,h1,h2⟩
  exact ⟨k,sel_mem.mpr h1,by rw [Y0h,h2];rfl⟩
theorem z5t (kinds:XQ)(kind:Str):(Jt kinds kind).length<=kinds.length:=by
 unfold Jt;exact Y0y (Y3p _ _) (by rw [Y2v];exact Y0b _)
section
variable {cl:126}{N:Nms}{ob:XX}{n:Nat}{g:G}{a b c d:Nat}{h:Hh}
theorem yK (hk:k<l.length):(txs l)[((k:Nat):Int).toNat]?=some (.str (l.getD k "")):=by
 rw [show ((k:Nat):Int).toNat=k by omega];unfold txs;rw [Y0r,Y0h,Y06 hk];rfl
theorem ze6 (said kinds:XQ)(kind:Str)(n1 n2:Nat)(h1:h[n1]?=some (.lst (txs said)))(h2:h[n2]?=some (.lst (txs kinds)))(hl:said.length=kinds.length)(sk:PyData.strOk kind=true)(ss:∀ x∈kinds,PyData.strOk x=true)(l9:kinds.length<=9) :
  d_law_of.run cl [.loc n1,.loc n2,.str kind] h=.ok 136 (h++[.lst (txs (ofL said kinds kind))]):=by
 have key:=zM (λ k:Nat=>D.int k) (f:=j1 UT (jz [none,some 2,some 1,some 0] [some (.loc n1),some (.loc n2),some (.str kind)]) (λ ρ' h2=>c_law_of_1.evC cl ρ' h2) (λ ρ' h2=>e_law_of_1.ev cl ρ' h2)) ze (λ k=>if kinds.getD k ""==kind then some (.str (said.getD k "")) else none) (List.range kinds.length) [] (λ k hk=>by
  have kl:=Y1n.mp hk;have sg:PyData.strOk (kinds.getD k "")=true:=by
   rw [Y0h,Y06 kl];exact ss _ (Y22 kl)
  have e2:∀ b',(kinds.getD k ""==kind)=b'->Es.evC cl c_law_of_1 [some (.int (k:Nat)),some (.str kind),some (.loc n2),some (.loc n1)] h=.ok b' h:=λ b' hb=>z1w (zm (yi rfl rfl h2 128 (yK kl)) rfl (by rw [<- hb];exact eqS sg sk));cases hb:kinds.getD k ""==kind with
  | true=>rw [if_pos rfl];exact ja rfl (e2 _ hb) (yi rfl rfl h1 128 (yK 128))
  | false=>rw [if_neg 130];exact QO rfl (e2 _ hb))
 rw [z26,Y0n] at key;have et:((List.range kinds.length).filter λ k=>kinds.getD k ""==kind).map (λ k=>D.str (said.getD k ""))=txs (ofL said kinds kind):=by unfold txs ofL Jt;rw [Y0m];rfl
 rw [et] at key;refine zg (zo (zO (q:=([],(List.range kinds.length).map λ k:Nat=>D.int k)) ((yY (j8 rfl h2) (by rw [txs_len];omega)).trans ?_) 154 key));rw [txs_len,show ((kinds.length:Nat):Int).toNat=kinds.length by omega]
def zcj (cl:126)(i:Nat):Prop:=∀ (said kinds:XQ) (kind:Str) (n1 n2:Nat) (h:Hh),h[n1]?=some (.lst (txs said))->h[n2]?=some (.lst (txs kinds))->said.length=kinds.length->PyData.strOk kind=true->(∀ x∈kinds,PyData.strOk x=true)->kinds.length<=9->cl i [.loc n1,.loc n2,.str kind] h=.ok 136 (h++[.lst (txs (ofL said kinds kind))])
def yL (cl:126)(j:Nat)(ns:179):Prop:=∀ (i:Int) (h:Hh),0<=i->cl j [scr ns,.int i] h=.ok (.int (jt ns i)) h
def mny (ns:179)(k:Nat):Int:=1+jt ns (3+(k:Int))/4%2
theorem z70 (ns:179)(k:Nat):1<=mny ns k/\mny ns k<=2:=by unfold mny;omega
theorem z9u (ns:179)(Ce:yL cl 24 ns)(k:Nat):d_law_many.run cl [scr ns,.int k] h=.ok (.int (mny ns k)) h :=
 zg (zo (qR rfl (jH (wx (zD rfl (cns (qR rfl rfl) rfl) (Ce (3+(k:Int)) h 128)) rfl 127) rfl 127)))
def V9 (cl:126)(j:Nat)(ns:179):Prop:=∀ (k:Nat) (h:Hh),cl j [scr ns,.int k] h=.ok (.int (mny ns k)) h
theorem z9v (h0:i=0\/i=1)(h:Hh):∃ ps:List D,yz (.tup [.str "y",.str "x"]) (some i) none h=.ok (.tup ps) h/\1<=ps.length/\ps.length<=2:=by
 rcases h0 with rfl | rfl
 ·exact ⟨[.str "y",.str "x"],by rfl,by simp,by simp⟩
 ·exact ⟨[.str "x"],by rfl,by simp,by simp⟩
def Gq (kind:Str)(it:It):Prop:=(it.isH=true ↔ kind="handler")/\(it.ownS=none ↔ kind="handler"\/kind="plain")/\∀ y,it.ownS=some y->∃ c,y=nmv 8 c
theorem zck (T:Tr N ob 31 g):ItG N nm (.df (.str nm) ps (zV ob) g):=by
 have eo:(It.df (.str nm) ps (zV ob) g).ownS=ob:=by cases ob<;>rfl
 refine ⟨rfl,List.nil_sublist _,λ x hx=>?_,by rw [eo];rfl⟩;rw [eo,Y0d.mp (show x∈[g] from hx)];exact T
theorem z9w (ns:179)(Ce:yL cl 24 ns)(Na:V3 cl 25)(Bo:V7 cl 30)(Hd:z6z cl 33)(Ma:V9 cl 35 ns)(O':N.Ok)(k:Nat)(hk:k<=100)(nm kind:Str)(sk:PyData.strOk kind=true)(nc:Nat)(cs:179)(hb:∀ y∈cs,fits y=true)(hl:cs.length<=30)(hc:h[nc]?=some (.lst 213))(A:At N a b c d h) :
  ItR N nm (Gq kind) h (d_law_item.run cl [scr ns,.int k,.str nm,.str kind,nmD a b c d,.loc nc] h):=by
 by_cases z:kind="handler"
 ·obtain ⟨h1,it,e1,k1,i1,q1⟩:=Hd N (jt ns (3+(k:Int))/4) nm a b c d nc cs h O' hb hl hc A;have on:it.ownS=none:=by cases it with | hd=>rfl | df=>cases q1
  refine ⟨h1,it,zg (jd (zm rfl rfl ((eqS sk jg).trans (by rw [z];simp))) (zo (zD rfl (cns (wx (zD rfl (cns (qR rfl rfl) rfl) (Ce (3+(k:Int)) h 128)) rfl 127) 169) e1))),k1,i1,⟨λ _=>z,λ _=>q1⟩,⟨λ _=>.inl z,λ _=>on⟩,λ y hy=>by rw [on] at hy;cases hy⟩
 ·have b0:(kind=="handler")=false:=by simpa using z
  by_cases zp:kind="plain"
  ·obtain ⟨g1,h1,e1,k1,T1⟩:=Bo N none a b c d nc cs h O' hc A;refine ⟨h1,.df (.str nm) (.tup [.str "x"]) (zV none) g1,zg (zv (zm rfl rfl ((eqS sk jg).trans (by rw [b0]))) (jd (zm rfl rfl ((eqS sk yl).trans (by rw [zp];simp))) (zo (we (cns rfl (cns rfl (cns rfl (cns rfl (cns (zD rfl 169 e1) rfl))))) (show 5<=1000 by decide))))),k1,zck (T1.le 128),⟨(λ q=>by cases q),λ q=>absurd q z⟩,⟨λ _=>.inr zp,λ _=>rfl⟩,λ y hy=>by cases hy⟩
  ·have b1:(kind=="plain")=false:=by simpa using zp
   obtain ⟨y,ey⟩:∃ y,y=nmv 8 (jt ns 1/3+5*(k:Int)):=146;obtain ⟨g1,h1,e1,k1,T1⟩:=Bo N (some y) a b c d nc cs h O' hc A;have mb:=z70 ns k;obtain ⟨ps,ep,_⟩:=z9v (i:=2-mny ns k) 128 h;rw [ey] at e1;refine ⟨h1,.df (.str nm) (.tup ps) (zV (some y)) g1,zg (zv (zm rfl rfl ((eqS sk jg).trans (by rw [b0]))) (zv (zm rfl rfl ((eqS sk yl).trans (by rw [b1]))) (zf (zD rfl (cns (qR (wx (zD rfl 141 (Ce 1 h 127)) rfl 127) (bnd rfl (bnd rfl (mlk (jB 127) (jB 128))))) rfl) (Na 8 _ h 127)) (zo ?_)))),k1,zck (T1.le 128),⟨(λ q=>by cases q),λ q=>absurd q z⟩,⟨(λ q=>by cases q),λ q=>q.elim (λ q=>absurd q z) λ q=>absurd q zp⟩,λ w hw=>?_⟩
   ·rw [ey];exact we (cns rfl (cns rfl (cns (bnd rfl (bnd (wv (bnd rfl (bnd (zD rfl 141 (Ma k h)) rfl))) (bnd rfl ep))) (cns rfl (cns (zD rfl 169 e1) rfl))))) (show 5<=1000 by decide)
   ·have:some y=some w:=hw
    injection this with this;exact ⟨_,this.symm.trans ey⟩
def Va (cl:126)(j:Nat)(ns:179):Prop:=∀ (N:Nms) (k:Nat) (nm kind:Str) (a b c d nc:Nat) (cs:179) (h:Hh),N.Ok->PyData.strOk kind=true->(∀ y∈cs,fits y=true)->cs.length<=30->h[nc]?=some (.lst 213)->At N a b c d h->k<=100->ItR N nm (Gq kind) h (cl j [scr ns,.int k,.str nm,.str kind,nmD a b c d,.loc nc] h)
end
theorem z27 {s:Nat}(h:s<=xs.length):jU xs (some (s:Int)) none=xs.drop s:=by
 unfold jU HT.sIx;simp only [show ¬ ((s:Int)<0) by omega,if_false,Y2w];rw [show min s xs.length=s by omega,Y2s 130]
theorem z28 {s:Nat}(h:s<=xs.length):jU xs none (some (s:Int))=xs.take s:=by
 unfold jU HT.sIx;simp only [show ¬ ((s:Int)<0) by omega,if_false,Y2w,List.drop_zero,Nat.sub_zero];rw [show min s xs.length=s by omega]
def isK (x:Str):Prop:=x="plain"\/x="open"\/x="handler"
theorem isK.ok (h:isK x):PyData.strOk x=true:=by
 rcases h with rfl | rfl | rfl
 ·exact yl
 ·exact Gp
 ·exact jg
abbrev nD (k:Nat):D:=.int k
section
variable {cl:126}{N:Nms}{a b c d:Nat}{ns:179}
theorem z29 {a b:281}(he:199)(hl:lo.ev cl ρ h1=.ok a h1)(hh:hi.ev cl ρ h1=.ok b h1)(g:h1[n]?=some 195):E.ev cl (.cut e lo hi p p1) ρ h=.ok (.loc h1.length) (h1++[.lst (jU xs a b)]):=bnd he (bnd hl (bnd hh (by
 show yz 151 a b h1=_;unfold yz;dsimp only;rw [zN g];rfl)))
theorem Gr (Ce:yL cl 24 ns)(x1:168)(nk:Nat):∀ (m k:Nat) (K:XQ) (y:168) (h:Hh),h[nk]?=some (.lst (txs K))->K.length+m<=100 ->
  ∃ (h':Hh) (E:XQ) (y':168),zu [] (zH Zg λ ρ' h'=>b_law_program_3.run cl ρ' h') ((List.range' k m).map nD) [some (scr ns),x1,some (.loc nk),y,none,none,none,none,none] h=.nx [some (scr ns),x1,some (.loc nk),y',none,none,none,none,none] h'/\Kx [nk] h h'/\h'[nk]?=some (.lst (txs (K++E)))/\E.length=m/\∀ x∈E,isK x
 | 0,k,K,y,h,hk,hl=>⟨h,[],y,by rw [Y3h,Y0u,zu,if_pos ze],Kx.refl _ _,by rw [Y0v];exact hk,rfl,by simp⟩
 | m+1,k,K,y,h,hk,hl=>by
  obtain ⟨x,hx,ex⟩:=pick D.str ["plain","open","handler","handler"] (jt ns (4+(k:Int))) 130;have kx:isK x:=by
   simp only [Y08,Y0t,or_false] at hx;rcases hx with q | q | q | q
   ·exact .inl q
   ·exact .inr (.inl q)
   ·exact .inr (.inr q)
   ·exact .inr (.inr q)
  have k0:Kx [] h (h++[O.lst [.str "plain",.str "open",.str "handler",.str "handler"]]):=Kx.app _ _;have hk0:=k0.2 _ _ hk 130;have st:b_law_program_3.run cl [some (scr ns),x1,some (.loc nk),some (nD k),none,none,none,none,none] h=.nx [some (scr ns),x1,some (.loc nk),some (nD k),none,none,none,none,none] 197 :=
   J2 (YJ rfl ⟨_,hk⟩ (yi rfl (jH (zD rfl (cns (qR rfl rfl) rfl) (Ce (4+(k:Int)) _ 128)) rfl 127) 188 128 ex) hk0 (by rw [txs_len];omega)) rfl
  have kk:Kx [nk] h 197:=k0.up.trans 187;obtain ⟨h2,E2,y2,e2,k2,q2,l2,i2⟩:=Gr Ce x1 nk m (k+1) (K++[x]) (some (nD k)) 197 (by rw [w4 hk0];unfold txs;rw [Y0o];rfl) (by rw [Y05];simp;omega);refine ⟨h2,x::E2,y2,by rw [Y2z,Y0a];exact ju ze st e2,kk.trans k2,by rw [q2,Y0i];rfl,by rw [Y09,l2],λ z hz=>?_⟩;rcases Y08.mp hz with rfl | hz
  ·exact kx
  ·exact i2 z hz
def z2a (N:Nms)(S K:XQ)(L:List It):Prop:=∀ (i:Nat) (it:It),L[i]?=some it->ItG N (S.getD i "") it/\Gq (K.getD i "") it
theorem Gs (Im:Va cl 36 ns)(O':N.Ok)(hb:∀ y∈ns,fits y=true)(x1 x5 x8:168)(nk nsd nit:Nat)(S K:XQ)(hl:S.length=K.length)(k9:K.length<=9)(ks:∀ x∈K,isK x)(na:a≠nit)(nb:b≠nit)(n3:c≠nit)(nd:d≠nit)(n1:nk≠nit)(n2:nsd≠nit):∀ (m k:Nat) (L:List It) (y:168) (h:Hh),k+m=K.length->L.length=k->h[nk]?=some (.lst (txs K))->h[nsd]?=some (.lst (txs S))->At N a b c d h->h[nit]?=some (.lst (L.map It.d))->z2a N S K L ->
  ∃ (h':Hh) (L':List It) (y':168),zu [] (zH Ze λ ρ' h'=>b_law_program_1.run cl ρ' h') ((List.range' k m).map nD) [some (scr ns),x1,some (.loc nk),y,some (.loc nsd),x5,some 162,some (.loc nit),x8] h=.nx [some (scr ns),x1,some (.loc nk),y',some (.loc nsd),x5,some 162,some (.loc nit),x8] h'/\Kx [nit] h h'/\h'[nit]?=some (.lst (L'.map It.d))/\L'.length=K.length/\z2a N S K L'
 | 0,k,L,y,h,e,lL,hk,hs,A,hi,ok=>⟨h,L,y,by rw [Y3h,Y0u,zu,if_pos ze],Kx.refl _ _,hi,by omega,ok⟩
 | m+1,k,L,y,h,e,lL,hk,hs,A,hi,ok=>by
  have kl:k<K.length:=by omega
  have lk:(txs K).length=K.length:=Y07 ..
  have sk:isK (K.getD k ""):=by rw [Y0h,Y06 kl];exact ks _ (Y22 kl)
  obtain ⟨cs,ec,m1,l1,l2⟩:=QS ns (10+(k:Int)) (some 40) ((txs K).length:Nat) 128 128 (.inr rfl);have l3:=l2 rfl;have k0:Kx [] h (h++[O.lst 213]):=Kx.app _ _;obtain ⟨h1,it,e1,k1,i1,p1⟩:=Im N k (S.getD k "") (K.getD k "") a b c d h.length cs (h++[O.lst 213]) O' sk.ok (λ z hz=>hb z (m1 z hz)) 128 188 (A.kx k0) 128;have k01:=k0.trans k1;have cut:E.ev cl (.cutS (.var 0 138) (.some (.bin .Add (.int 10 138) (.var 3 138) 138)) (.some (.int 40 138)) (.len (.var 2 138) 138 138) 138 138) 221 h=.ok 136 (h++[O.lst 213]):=by
   refine bnd rfl (bnd (wv (qR rfl rfl)) (bnd (wv rfl) (bnd (j8 rfl hk) ?_)));show Wa (.fl (ns.map .int)) (some (10+(k:Int))) (some 40) (.int ((txs K).length:Nat)) h=_;unfold Wa;dsimp only;rw [if_pos 128,ec];rfl
  have hi1:=k01.2 _ _ hi 130;have st:b_law_program_1.run cl 221 h=.nx 221 (h1.set nit (.lst (L.map It.d++[it.d]))) :=
   J2 (YJ rfl ⟨_,hi⟩ (zD rfl (cns rfl (cns (yi rfl rfl hs 128 (yK 128)) (cns (yi rfl rfl hk 128 (yK kl)) (cns rfl (cns cut rfl))))) e1) hi1 (by rw [Y07];omega)) rfl
  have kk:Kx [nit] h (h1.set nit (.lst (L.map It.d++[it.d]))):=k01.up.trans 187;obtain ⟨h2,L2,y2,e2,k2,q2,l2,i2⟩:=Gs Im O' hb x1 x5 x8 nk nsd nit S K hl k9 ks na nb n3 nd n1 n2 m (k+1) (L++[it]) (some (nD k)) _ 128 (by rw [Y05,lL];rfl) (kk.2 _ _ hk (by simpa using n1)) (kk.2 _ _ hs (by simpa using n2)) (A.kn kk na nb n3 nd) (by rw [w4 hi1,Y0o];rfl) (λ i x hx=>by
   by_cases q:i<L.length
   ·rw [Y10 q] at hx;exact ok i x hx
   ·rw [Y0q 128] at hx
    have:i-L.length=0:=by
     have:=(Y00.mp hx).1
     simp at this;omega
    rw [this] at hx;cases hx;rw [show i=k by omega];exact ⟨i1,p1⟩)
  exact ⟨h2,L2,y2,by rw [Y2z,Y0a];exact ju ze st e2,kk.trans k2,q2,l2,i2⟩
end
structure PrG (dd:XQ)(l:196)(N:Nms):Prop where
 nn:(l.map (·.1)).Nodup
 it:∀ p∈l,ItG N p.1 p.2
 nm:∀ p∈l,∃ k,k<8/\NmK k p.1
 ow:∀ p∈l,∀ y,p.2.ownS=some y->∃ c,y=nmv 8 c
 pl:∀ x∈N.pl,∃ p∈l,p.1=x/\p.2.isH=false/\p.2.ownS=none
 op:∀ x∈N.op.map (·.1),∃ p∈l,p.1=x/\p.2.isH=false/\∃ y,p.2.ownS=some y
 hd:∀ x∈N.hd,∃ p∈l,p.1=x/\p.2.isH=true
 l6:l.length<=6
 dd:N.dd=dd
theorem Gu (l:List α)(t:Nat)(x:α):x∈l.drop t++l.take t ↔ x∈l:=by
 rw [Y0j,Or.comm,<- Y0j,List.take_append_drop]
theorem OV {l:List α}(t:Nat)(h:l.Nodup):(l.drop t++l.take t).Nodup:=by
 rw [<- List.take_append_drop t l] at h;exact List.perm_append_comm.nodup_iff.mp h
def QT (cl:126)(i:Nat):Prop:=∀ (m c:Int) (h:Hh),1<=m/\m<=8->∃ nms:List Str,cl i [.int m,.int c] h=.ok 136 (h++[.lst (txs nms)])/\nms.length=m.toNat/\NmsK nms
theorem YS {K:XQ}(ks:∀ x∈K,isK x):∀ x∈K,PyData.strOk x=true:=λ x hx=>(ks x hx).ok
theorem z5u {S:XQ}{L:List It}(h:p∈S.zip L):∃ i:Nat,S[i]?=some p.1/\L[i]?=some p.2:=by
 obtain ⟨i,hi⟩:=List.mem_iff_getElem?.mp h;exact ⟨i,(List.getElem?_zip_eq_some.mp hi)⟩
theorem z9x {dd S K:XQ}{L:List It}(hl:S.length=K.length)(lL:L.length=K.length)(k1:1<=K.length)(k8:K.length<=6)(ks:∀ x∈K,isK x)(nS:NmsK S)
  (ok:z2a ⟨ofL S K "plain",(Jt K "open").map λ k=>(S.getD k "",mny ns k),ofL S K "handler",dd⟩ S K L) :
  PrG dd ((S.zip L).drop t++(S.zip L).take t) ⟨ofL S K "plain",(Jt K "open").map λ k=>(S.getD k "",mny ns k),ofL S K "handler",dd⟩:=by
 have e1:(S.zip L).map (·.1)=S:=List.map_fst_zip 128;have zl:(S.zip L).length=K.length:=by rw [List.length_zip];omega
 have at':∀ i:Nat,i<K.length->∃ x it k,S[i]?=some x/\L[i]?=some it/\K[i]?=some k/\(x,it)∈(S.zip L).drop t++(S.zip L).take t/\Gq k it:=λ i hi=>by
  have h1:i<S.length:=by omega
  have h2:i<L.length:=by omega
  refine ⟨S[i],L[i],K[i],Y06 h1,Y06 h2,Y06 hi,(Gu _ _ _).mpr (List.mem_iff_getElem?.mpr ⟨i,List.getElem?_zip_eq_some.mpr ⟨Y06 h1,Y06 h2⟩⟩),?_⟩
  have:=(ok i _ (Y06 h2)).2
  rw [Y0h,Y06 hi] at this;exact this
 have fr:∀ p∈(S.zip L).drop t++(S.zip L).take t,∃ i:Nat,S[i]?=some p.1/\L[i]?=some p.2:=λ p hp=>z5u ((Gu _ _ _).mp hp);refine ⟨?_,λ p hp=>?_,λ p hp=>?_,λ p hp y hy=>?_,λ x hx=>?_,λ x hx=>?_,λ x hx=>?_,?_,rfl⟩
 ·rw [Y0o,List.map_drop,List.map_take,e1];exact OV t (nS.nodup 128)
 ·obtain ⟨i,h1,h2⟩:=fr p hp
  have:=(ok i _ h2).1
  rw [Y0h,h1] at this;exact this
 ·obtain ⟨i,h1,h2⟩:=fr p hp
  have:=(Y00.mp h1).1
  exact ⟨i,by omega,nS i _ h1⟩
 ·obtain ⟨i,h1,h2⟩:=fr p hp;exact (ok i _ h2).2.2.2 y hy
 ·obtain ⟨i,h1,h2⟩:=(V8 hl).mp hx;obtain ⟨x',it,k,q1,q2,q3,q4,q5⟩:=at' i (Y00.mp h1).1;rw [h1] at q3;rw [h2] at q1;cases q3;cases q1;refine ⟨_,q4,rfl,?_,q5.2.1.mpr (.inr rfl)⟩;show it.isH=false;cases e:it.isH with
  | false=>rfl
  | true=>exact absurd (q5.1.mp e) 127
 ·obtain ⟨q,hq,rfl⟩:=Y0e.mp hx;obtain ⟨i,hi,rfl⟩:=Y0e.mp hq;have h1:=sel_mem.mp hi;obtain ⟨x',it,k,q1,q2,q3,q4,q5⟩:=at' i (Y00.mp h1).1;rw [h1] at q3;cases q3;refine ⟨_,q4,by show x'=S.getD i "";rw [Y0h,q1];rfl,?_,?_⟩
  ·show it.isH=false;cases e:it.isH with
   | false=>rfl
   | true=>exact absurd (q5.1.mp e) 127
  ·show ∃ y,it.ownS=some y;cases e:it.ownS with
   | some y=>exact ⟨y,rfl⟩
   | none=>exact absurd (q5.2.1.mp e) 127
 ·obtain ⟨i,h1,h2⟩:=(V8 hl).mp hx;obtain ⟨x',it,k,q1,q2,q3,q4,q5⟩:=at' i (Y00.mp h1).1;rw [h1] at q3;rw [h2] at q1;cases q3;cases q1;exact ⟨_,q4,rfl,q5.1.mpr rfl⟩
 ·rw [Y05,Y3i,Y1t,zl];omega
section
variable {cl:126}{ns:179}{h:Hh}
def Hid (p:Prop):Prop:=p
theorem OW (Ce:yL cl 24 ns)(Nm:QT cl 26)(Of:zcj cl 34)(Ma:V9 cl 35 ns)(Im:Va cl 36 ns)(hb:∀ y∈ns,fits y=true)(dd:XQ)(nd:Nat)(hd:h[nd]?=some (.lst (txs dd)))(d1:1<=dd.length)(d9:dd.length<=9) :
  ∃ h' l N,d_law_program.run cl [scr ns,.loc nd] h=.ok (.tup (l.map λ p:Ni=>p.2.d)) h'/\Kx [] h h'/\PrG dd l N:=by
 obtain ⟨m,em,m5⟩:∃ m:Nat,Hid ((m:Int)=jt ns 0%6)/\m<=5:=⟨(jt ns 0%6).toNat,(show (_:Int)=_ by omega),by omega⟩;have c0:=Ce 0 (h++[O.lst [.str "plain"]]) 127;obtain ⟨h1,E1,y1,e1,k1,q1,l1,i1⟩:=Gr Ce (some 161) h.length m 0 ["plain"] none (h++[O.lst [.str "plain"]]) 188 154;obtain ⟨K,eK⟩:∃ K:List Str,K=([("plain":Str)]:List Str)++E1:=146;rw [<- eK] at q1;have lK:K.length=m+1:=by rw [eK,Y05,l1];simp;omega
 have lk:(txs K).length=K.length:=Y07 ..
 have ks:∀ x∈K,isK x:=λ x hx=>by
  rw [eK] at hx;rcases Y0j.mp hx with hx | hx
  ·exact .inl (Y0d.mp hx)
  ·exact i1 x hx
 have K0:K[0]?=some ("plain":Str):=by rw [eK];rfl
 have k01:Kx [] h h1:=(Kx.app _ _).fresh 175 k1;obtain ⟨S,eS,lS,nS⟩:=Nm ((txs K).length:Nat) (jt ns 1) h1 128;have hl:S.length=K.length:=by omega
 have k2:Kx [] h1 (h1++[O.lst (txs S)]):=Kx.app _ _;obtain ⟨h2,eh2⟩:∃ h2,h2=h1++[O.lst (txs S)]:=146;have s2:h2[h1.length]?=some (.lst (txs S)):=by rw [eh2];exact zc _ _
 rw [<- eh2] at eS k2;have kk2:=k2.2 _ _ q1 130;have key:=zM (λ k:Nat=>D.int k) (f:=j1 Zf (jz [none,some 2,some 4,some 0] [some (scr ns),some 161,some 136,y1,some (.loc h1.length),none,none,none,none]) (λ ρ' h2=>c_law_program_2.evC cl ρ' h2) (λ ρ' h2=>e_law_program_2.ev cl ρ' h2)) ze (λ k=>if K.getD k ""=="open" then some (opD (S.getD k "",mny ns k)) else none) (List.range K.length) [] (λ k hk=>by
  have kl:=Y1n.mp hk;have sg:PyData.strOk (K.getD k "")=true:=by
   rw [Y0h,Y06 kl];exact (ks _ (Y22 kl)).ok
  have e2:∀ b',(K.getD k ""=="open")=b'->Es.evC cl c_law_program_2 [some (.int (k:Nat)),some 136,some (.loc h1.length),some (scr ns)] h2=.ok b' h2:=λ b' hb=>z1w (zm (yi rfl rfl kk2 128 (yK kl)) rfl (by rw [<- hb];exact eqS sg Gp));cases hb:K.getD k ""=="open" with
  | true=>rw [if_pos rfl];exact ja rfl (e2 _ hb) (we (cns (yi rfl rfl s2 128 (yK 128)) (cns (zD rfl 141 (Ma k h2)) rfl)) (show 2<=1000 by decide))
  | false=>rw [if_neg 130];exact QO rfl (e2 _ hb))
 rw [z26,Y0n] at key;have et:((List.range K.length).filter λ k=>K.getD k ""=="open").map (λ k=>opD (S.getD k "",mny ns k))=((Jt K "open").map λ k=>(S.getD k "",mny ns k)).map opD:=by unfold Jt;rw [Y0m];rfl
 rw [et] at key;obtain ⟨N,eN⟩:∃ N:Nms,N=⟨ofL S K "plain",(Jt K "open").map λ k=>(S.getD k "",mny ns k),ofL S K "handler",dd⟩:=146;have O':N.Ok:=by
  have len:=λ x:Str=>z5t K x;have p0:S[0]?=some (S.getD 0 ""):=by rw [Y0h,Y06 128];rfl
  rw [eN];refine ⟨Y3k ((V8 hl).mpr ⟨0,K0,p0⟩),?_,?_,λ q hq=>?_,?_,d1,d9⟩
  ·show (ofL S K "plain").length<=9;unfold ofL;rw [Y07];have:=len "plain";omega
  ·show (List.map _ _).length<=9;rw [Y07];have:=len "open";omega
  ·obtain ⟨k,_,rfl⟩:=Y0e.mp hq;exact z70 ns k
  ·show (ofL S K "handler").length<=9;unfold ofL;rw [Y07];have:=len "handler";omega
 obtain ⟨h3,eh3⟩:∃ h3,h3=h2++[O.lst (N.op.map opD)]:=146;have k3:Kx [] h2 h3:=by rw [eh3];exact Kx.app _ _
 have o1:=Of S K "plain" h1.length h.length h3 (k3.2 _ _ s2 130) (k3.2 _ _ kk2 130) hl yl (YS ks) 128;obtain ⟨h4,eh4⟩:∃ h4,h4=h3++[O.lst (txs (ofL S K "plain"))]:=146;rw [<- eh4] at o1;have k4:Kx [] h3 h4:=by rw [eh4];exact Kx.app _ _
 have k24:=k3.trans k4;have o2:=Of S K "handler" h1.length h.length h4 (k24.2 _ _ s2 130) (k24.2 _ _ kk2 130) hl jg (YS ks) 128;obtain ⟨h5,eh5⟩:∃ h5,h5=h4++[O.lst (txs (ofL S K "handler"))]:=146;rw [<- eh5] at o2;have k5:Kx [] h4 h5:=by rw [eh5];exact Kx.app _ _
 have k25:=k24.trans k5;have k6:Kx [] h5 (h5++[O.lst []]):=Kx.app _ _;have k26:=k25.trans k6;have A:At N h3.length h2.length h4.length nd (h5++[O.lst []]):=⟨(k5.trans k6).2 _ _ (by rw [eh4,eN];exact zc _ _) 130,(k4.trans (k5.trans k6)).2 _ _ (by rw [eh3];exact zc _ _) 130,k6.2 _ _ (by rw [eh5,eN];exact zc _ _) 130,(k01.trans (k2.trans k26)).2 _ _ (by rw [eN];exact hd) 130⟩;have lt:∀ {i o},h5[i]?=some o->i≠h5.length:=λ {i o} e=>by have:=(Y00.mp e).1;omega
 have z3:h5[h3.length]?=some (.lst (txs (ofL S K "plain"))):=k5.2 _ _ (by rw [eh4];exact zc _ _) 130;have z2:h5[h2.length]?=some (.lst (N.op.map opD)):=(k4.trans k5).2 _ _ (by rw [eh3];exact zc _ _) 130;have z4:h5[h4.length]?=some (.lst (txs (ofL S K "handler"))):=by rw [eh5];exact zc _ _
 have zd:=(k01.trans (k2.trans k25)).2 _ _ hd 130;have zk:=k25.2 _ _ kk2 130;have zs:=k25.2 _ _ s2 130;obtain ⟨h7,L,y7,e7,k7,q7,l7,ok7⟩:=Gs Im O' hb (some 161) (some (.loc h2.length)) none h.length h1.length h5.length S K hl 128 ks (lt z3) (lt z2) (lt z4) (lt zd) (lt zk) (lt zs) K.length 0 [] y1 (h5++[O.lst []]) 128 rfl (k6.2 _ _ zk 130) (k6.2 _ _ zs 130) A 188 (λ i it hi=>by cases hi);have k17:Kx [] h1 h7:=(k2.trans k26).fresh (by
  have:=(k2.trans k25).1
  exact this) k7
 have ll:(L.map It.d).length=L.length:=Y07 ..
 obtain ⟨t,et⟩:∃ t:Nat,(t:Int)=jt ns 3/4%((L.map It.d).length:Nat):=⟨(jt ns 3/4%((L.map It.d).length:Nat)).toNat,by have:=Y34 (jt ns 3/4) (show (((L.map It.d).length:Nat):Int)≠0 by omega);omega⟩;have tl:t<L.length:=by have:=Y36 (jt ns 3/4) (show 0<(((L.map It.d).length:Nat):Int) by omega);omega
 have c3:=Ce 3 h7 127;have ac:jE .Add (.loc h7.length) (.loc (h7++294).length) (h7++294++[O.lst ((L.map It.d).take t)])=.ok (.loc (h7++294++[O.lst ((L.map It.d).take t)]).length) (h7++294++[O.lst ((L.map It.d).take t)]++[O.lst ((L.map It.d).drop t++(L.map It.d).take t)]):=by
  show JB (.loc _) (.loc _) _=_;unfold JB;dsimp only;rw [zn 188,zc];dsimp only;rw [if_pos (by rw [Y3i,Y1t];omega)]
 have cA:=z29 (cl:=cl) (ρ:=233) (e:=.var 7 138) (lo:=.some (.var 8 138)) (hi:=.none) (p:=138) (p1:=138) rfl (wv rfl) rfl q7;rw [z27 128] at cA;have cB:=z29 (cl:=cl) (ρ:=233) (e:=.var 7 138) (lo:=.none) (hi:=.some (.var 8 138)) (p:=138) (p1:=138) rfl rfl (wv rfl) (zn (J:=294) q7);rw [z28 128] at cB;have eD:(L.map It.d).drop t++(L.map It.d).take t=((S.zip L).drop t++(S.zip L).take t).map λ p:Ni=>p.2.d:=by
  have e2:(S.zip L).map (λ p:Ni=>p.2.d)=L.map It.d:=by
   have:=congrArg (List.map It.d) (List.map_snd_zip (l₁:=S) (l₂:=L) 128)
   rw [Y0m] at this;exact this
  rw [Y0o,List.map_drop,List.map_take,e2]
 rw [eN] at ok7;refine ⟨h7++294++[O.lst ((L.map It.d).take t)]++[O.lst ((L.map It.d).drop t++(L.map It.d).take t)],(S.zip L).drop t++(S.zip L).take t,N,?_,?_,by rw [eN];exact z9x hl l7 128 128 ks nS ok7⟩
 ·rw [<- eD];refine zg (zf rfl (zT (q:=([],(List.range' 0 m).map nD)) ((yY (jH (zD rfl 141 c0) rfl 127) 128).trans ?_) e1 (zf (zD (j8 rfl q1) (cns (zD rfl 141 (Ce 1 h1 127)) rfl) eS) (zf (d:=.loc h2.length) (h':=h3) ?_ (zf (d:=nmD h3.length h2.length h4.length nd) (we (cns (zD rfl 169 o1) (cns rfl (cns (zD rfl 169 o2) 141))) (show 4<=1000 by decide)) (zf rfl (zT (q:=([],(List.range' 0 K.length).map nD)) ((yY (j8 rfl (k6.2 _ _ zk 130)) 128).trans ?_) e7 (zf (d:=.int (t:Nat)) (by rw [et];exact jH (wx (zD rfl 141 c3) rfl 127) (j8 rfl q7) 128) (zo (UR (bnd cA (bnd cB ac)) (zN 188)))))))))))
  ·rw [<- (show (m:Int)=jt ns 0%6 from em),show ((m:Nat):Int).toNat=m by omega,Y31]
  ·rw [eh3,eN];refine zO (q:=([],(List.range K.length).map λ k:Nat=>D.int k)) ((yY (j8 rfl kk2) 128).trans ?_) 154 key;rw [lk,show ((K.length:Nat):Int).toNat=K.length by omega]
  ·rw [lk,show ((K.length:Nat):Int).toNat=K.length by omega,Y31]
 ·exact (k01.trans k17).trans ((Kx.app _ _).trans ((Kx.app _ _).trans (Kx.app _ _)))
end
def hdA:Kd->List D
 | .num n=>[.int n]
 | .var x=>[.str x]
 | .op x=>[.str x]
 | .lett x=>[.str x]
 | .doo x=>[.str x]
 | .handle x=>[.str x]
 | _=>[]
theorem z9y (k:Kd)(ps:181)(hk:∀ f g,k≠.call f g):k.enc ps=.tup (.str k.tag::(hdA k++ps)):=by
 cases k<;>first | rfl | exact absurd rfl (hk _ _)
theorem Vb (g:G):∃ xs,g.d=.tup xs:=by
 obtain ⟨k,ps⟩:=g;rw [G.d];cases k<;>exact 146
def Gv:D->Bool
 | .tup _=>true
 | _=>false
theorem z2b (k:Kd)(ps:260):(hdA k++G.ds ps).filterMap (λ x=>if Gv x then some x else none)=G.ds ps:=by
 rw [List.filterMap_append];have e1:(hdA k).filterMap (λ x=>if Gv x then some x else none)=[]:=by cases k<;>rfl
 have e2:∀ ps:List G,(G.ds ps).filterMap (λ x=>if Gv x then some x else none)=G.ds ps:=λ ps=>by
  induction ps with
  | nil=>rw [G.ds];rfl
  | cons g r ih =>
   obtain ⟨xs,e⟩:=Vb g;rw [G.ds,Y1l,ih,e];rfl
 rw [e1,e2];rfl
section
variable {cl:126}{h:Hh}
theorem Gy (k:Kd)(ps:181):jc (k.enc ps) (.int 0) h=.ok (.str k.tag) h:=J3 k ps h
theorem z2c (k:Kd)(ps:260)(hl:ps.length<=1000):d_law_parts.run cl [(G.nd k ps).d] h=.ok 136 (h++[.lst 240]):=by
 rw [G.d];by_cases hc:∃ f g,k=.call f g
 ·obtain ⟨f,g,rfl⟩:=hc;exact zg (jd (zm 129 rfl (eqS wn wn)) 285)
 ·have hk:=λ f g z=>hc ⟨f,g,z⟩;have hn:(k.tag==("call":Str))=false:=by cases k<;>first | rfl | exact absurd rfl (hk _ _)
  have key:=zM (λ x:D=>x) (f:=j1 JH (jz [none] [some (k.enc 240)]) (λ ρ' h2=>c_law_parts_1.evC cl ρ' h2) (λ ρ' h2=>e_law_parts_1.ev cl ρ' h2)) (h:=h) ze (λ x=>if Gv x then some x else none) (hdA k++G.ds ps) [] (λ x hx=>by
   have hx':(∃ i,x=.int i)\/(∃ s,x=.str s)\/∃ xs,x=.tup xs:=by
    rcases Y0j.mp hx with hx | hx
    ·cases k<;>simp [hdA] at hx<;>first | exact .inl ⟨_,hx⟩ | exact .inr (.inl ⟨_,hx⟩)
    ·rw [PI.ds_map] at hx;obtain ⟨g,_,rfl⟩:=Y0e.mp hx;exact .inr (.inr (Vb g))
   rcases hx' with ⟨i,rfl⟩ | ⟨s,rfl⟩ | ⟨xs,rfl⟩<;>rfl)
  rw [z2b,Y0n,List.map_id'] at key;have ct:yz (k.enc 240) (some 1) none h=.ok (.tup (hdA k++G.ds ps)) h:=by
   rw [z9y k _ hk];unfold yz;dsimp only;rw [if_neg (by intro z;have:=z.1;simp [HT.sIx] at this)]
   congr 2
   exact z27 130
  refine zg (zv (zm (bnd rfl (bnd rfl (Gy k _))) rfl ((eqS (j7 k) wn).trans (by rw [hn]))) (zo (zO (bnd (bnd rfl (bnd (wv rfl) (bnd rfl ct))) rfl) ?_ key)))
  have:(hdA k).length<=1:=by cases k<;>simp [hdA]
  show (hdA k++G.ds ps).length<=_;rw [Y05,Qf];omega
def z9z (cl:126)(i:Nat):Prop:=∀ (k:Kd) (ps:260) (h:Hh),ps.length<=1000->cl i [(G.nd k ps).d] h=.ok 136 (h++[.lst 240])
theorem OX (it:It)(hn:it.bods.length<=1000):∃ h',d_law_bodies.run cl [it.d] h=.ok (.loc (h'.length-1)) h'/\h'[h'.length-1]?=some (.lst (it.bods.map G.d))/\Kx [] h h':=by
 cases it with
 | df nm ps o b=>exact ⟨h++[.lst [b.d]],by
   rw [Y05];exact zg (jd (zm 129 rfl (eqS jj jj)) (zo (z16 141 (show 1<=1000 by decide)))),by rw [Y05];exact zc _ _,Kx.app _ _⟩
 | hd nm cs e =>
  have hn:cs.length+1<=1000:=by simpa [It.bods] using hn
  have key:=zM clD (f:=j1 J9 [none] (λ ρ' h2=>c_law_bodies_1.evC cl ρ' h2) (λ ρ' h2=>e_law_bodies_1.ev cl ρ' h2)) (h:=h) ze (λ x=>some x.2.d) cs [] (λ x _=>ja rfl rfl 129);rw [jb,Y0n] at key;have ac:jE .Add 136 (.loc (h++[O.lst (cs.map λ x=>x.2.d)]).length) (h++[O.lst (cs.map λ x=>x.2.d)]++[O.lst [e.d]])=.ok (.loc (h++[O.lst (cs.map λ x=>x.2.d)]++[O.lst [e.d]]).length) (h++[O.lst (cs.map λ x=>x.2.d)]++[O.lst [e.d]]++[O.lst ((cs.map λ x=>x.2.d)++[e.d])]):=by
   show JB (.loc _) (.loc _) _=_;unfold JB;dsimp only;rw [zn 188,zc];dsimp only;rw [if_pos 154]
  refine ⟨h++[O.lst (cs.map λ x=>x.2.d)]++[O.lst [e.d]]++[O.lst ((cs.map λ x=>x.2.d)++[e.d])],?_,?_,(Kx.app _ _).trans ((Kx.app _ _).trans (Kx.app _ _))⟩
  ·rw [Y05];exact zg (zv (zm 129 rfl ((eqS jg jj).trans (by rfl))) (zo (bnd (zO (bnd 129 rfl) 154 key) (bnd (z16 141 (show 1<=1000 by decide)) ac))))
  ·rw [Y05];refine (zc _ _).trans ?_;show _=some (O.lst ((cs.map (·.2)++[e]).map G.d));rw [Y0o,Y0m];rfl
def z5v (cl:126)(i:Nat):Prop:=∀ (it:It) (h:Hh),it.bods.length<=1000->∃ h',cl i [it.d] h=.ok (.loc (h'.length-1)) h'/\h'[h'.length-1]?=some (.lst (it.bods.map G.d))/\Kx [] h h'
end
noncomputable def do1:Kd->List Str
 | .doo d=>[d]
 | _=>[]
theorem z5w (k:Kd)(d:Str):d∈do1 k ↔ k=.doo d:=by cases k<;>simp [do1,eq_comm]
theorem Gz (k:Kd):(do1 k).length<=1:=by cases k<;>simp [do1]
mutual
noncomputable def dnL:G->List Str
 | .nd k ps=>do1 k++dnLs ps
noncomputable def dnLs:List G->List Str
 | []=>[]
 | g::r=>dnL g++dnLs r
end
mutual
theorem z5x (d:Str):∀ g:G,d∈dnL g ↔ d∈gdd g
 | .nd k ps=>by
  rw [dnL,Y0j,Zp,dnLs_mem d ps,z5w]
theorem dnLs_mem (d:Str):∀ ps:List G,d∈dnLs ps ↔ ∃ g∈ps,d∈gdd g
 | []=>by rw [dnLs];simp
 | g::r=>by rw [dnLs,Y0j,z5x d g,dnLs_mem d r];simp
end
mutual
theorem QU:∀ g:G,(dnL g).length<=g.size
 | .nd k ps=>by
  rw [dnL,Y05,G.size]
  have:=dnLs_len ps
  have:=Gz k
  omega
theorem dnLs_len:∀ ps:List G,(dnLs ps).length<=G.sizes ps
 | []=>by rw [dnLs];simp
 | g::r=>by rw [dnLs,Y05,G.sizes];have:=QU g;have:=dnLs_len r;omega
end
def yM (cl:126)(i m:Nat):Prop:=∀ (g:G) (h:Hh),dep g<=m->g.size<=1000->∃ h' n,cl i [g.d] h=.ok 151 h'/\h.length<=n/\h'[n]?=some (.lst (txs (dnL g)))/\Kx [] h h'
theorem QV:∀ ps:List G,ps.length<=G.sizes ps
 | []=>by simp
 | g::r=>by rw [G.sizes,Y09];have:=QV r;have:=Jf g;omega
section
variable {cl:126}
theorem WC (Dn:yM cl 41 m)(x0:168)(nl np:Nat)(hn:nl≠np)(all:181):∀ (ps:260) (F:XQ) (y:168) (h:Hh),deps ps<=m->F.length+G.sizes ps<=1000->h[nl]?=some (.lst (txs F))->rd h np=some all ->
  ∃ h' y',zu [(np,all)] (zH Qp λ ρ' h'=>b_law_done_1.run cl ρ' h') 240 [x0,some (.loc nl),y] h=.nx [x0,some (.loc nl),y'] h'/\Kx [nl] h h'/\h'[nl]?=some (.lst (txs (F++dnLs ps)))
 | [],F,y,h,hd,hs,hl,hp=>⟨h,y,by rw [G.ds,zu,if_pos 250],Kx.refl _ _,by rw [dnLs,Y0v];exact hl⟩
 | g::r,F,y,h,hd,hs,hl,hp=>by
  rw [deps] at hd;rw [G.sizes] at hs;obtain ⟨h1,n,e1,n1,g1,k1⟩:=Dn g h 128 128;have hl1:=k1.2 _ _ hl 130;have lg:=QU g;have nl':=(Y00.mp hl).1;have k2:Kx [nl] h 219:=k1.up.trans 187;have hp2:rd 219 np=some all:=by
   have:=WA k1 hp
   unfold rd at this ⊢;rw [Y13 hn];exact this
  obtain ⟨h3,y3,e3,k3,g3⟩:=WC Dn x0 nl np hn all r (F++dnL g) (some g.d) 219 128 (by rw [Y05];omega) (by rw [w4 hl1];unfold txs;rw [Y0o]) hp2;refine ⟨h3,y3,?_,k2.trans k3,by rw [g3,dnLs,Y0i]⟩;rw [G.ds];exact ju 250 (J2 (Wq rfl ⟨_,hl⟩ (zD rfl rfl e1) hl1 g1 (by rw [txs_len,txs_len];omega)) rfl) e3
theorem za0 (Lp:z9z cl 38)(Dn:yM cl 41 m)(g:G)(h:Hh)(hd:dep g<=m+1)(hs:g.size<=1000) :
  ∃ h' n,d_law_done.run cl [g.d] h=.ok 151 h'/\h.length<=n/\h'[n]?=some (.lst (txs (dnL g)))/\Kx [] h h':=by
 obtain ⟨k,ps⟩:=g;rw [dep] at hd;rw [G.size] at hs;have lp:=QV ps;obtain ⟨F,eF⟩:∃ F:List Str,F=do1 k:=146;have F1:F.length<=1:=by rw [eF];exact Gz k
 have gl:(h++[O.lst (txs F)])[h.length]?=some (.lst (txs F)):=zc _ _;have st:Ss.run cl (wD 2 d_law_done.body) [some (G.nd k ps).d,none,none] h=.nx [some (G.nd k ps).d,some 136,none] (h++[O.lst (txs F)]):=by
  by_cases hc:∃ d,k=.doo d
  ·obtain ⟨d,rfl⟩:=hc;rw [eF,show (G.nd (.doo d) ps).d=.tup (.str "do"::.str d::G.ds ps) by rw [G.d];rfl];have s1:jc (.tup (.str "do"::.str d::G.ds ps)) (.int 1) (h++[O.lst []])=.ok 184 (h++[O.lst []]):=by rw [sub_tup,wj 127];rfl
   have eh:(h++[O.lst []]).set h.length (O.lst ([]++[D.str d]))=h++[O.lst (txs (do1 (.doo d)))]:=by
    rw [Y3n _ _ 175,Y1z];rfl
   rw [<- eh];exact zf rfl (wm (zm (bnd rfl (bnd rfl (Gy (.doo d) 240))) rfl (eqS qC qC)) (J2 (YJ rfl ⟨_,zc _ _⟩ (bnd rfl (bnd rfl s1)) 188 130) rfl) rfl)
  ·have hn:(k.tag==("do":Str))=false:=by cases k<;>first | rfl | exact absurd 146 hc
   have e0:F=[]:=by rw [eF];cases k<;>first | rfl | exact absurd 146 hc
   rw [e0];exact zf rfl (zv (zm (bnd rfl (bnd rfl (by rw [G.d];exact Gy k _))) rfl ((eqS (j7 k) qC).trans (by rw [hn];rfl))) rfl)
 have pe:=Lp k ps (h++[O.lst (txs F)]) 128;have k1:Kx [] (h++[O.lst (txs F)]) (h++[O.lst (txs F)]++[O.lst 240]):=Kx.app _ _;obtain ⟨h2,y2,e2,k2,g2⟩:=WC Dn (some (G.nd k ps).d) h.length (h++[O.lst (txs F)]).length 130 240 ps F none (h++[O.lst (txs F)]++[O.lst 240]) 128 128 (zn gl) (zN 188);refine ⟨h2,h.length,(congrArg w9 ((J0 cl 2 _ _ _).trans (congrArg (λ z=>jP z _) st))).trans (zg (zT (jZ (zD rfl rfl pe) 188) e2 285)),Y0b _,by rw [g2,dnL,eF],((Kx.app _ _).trans k1).fresh 175 k2⟩
end
section
variable {cl:126}
theorem GA (Dn:yM cl 41 m)(x0 x2:168)(nl np:Nat)(hn:nl≠np)(all:181):∀ (ps:260) (F:XQ) (y:168) (h:Hh),(∀ g∈ps,dep g<=m/\g.size<=1000)->F.length+G.sizes ps<=100000->h[nl]?=some (.lst (txs F))->rd h np=some all ->
  ∃ h' y',zu [(np,all)] (zH JK λ ρ' h'=>b_law_deeds_2.run cl ρ' h') (ps.map G.d) [x0,some (.loc nl),x2,y] h=.nx [x0,some (.loc nl),x2,y'] h'/\Kx [nl] h h'/\h'[nl]?=some (.lst (txs (F++dnLs ps)))
 | [],F,y,h,hd,hs,hl,hp=>⟨h,y,by rw [Y0u,zu,if_pos 250],Kx.refl _ _,by rw [dnLs,Y0v];exact hl⟩
 | g::r,F,y,h,hd,hs,hl,hp=>by
  rw [G.sizes] at hs;have hg:=hd g Y04;obtain ⟨h1,n,e1,n1,g1,k1⟩:=Dn g h hg.1 hg.2;have hl1:=k1.2 _ _ hl 130;have lg:=QU g;have k2:Kx [nl] h 219:=k1.up.trans 187;have hp2:rd 219 np=some all:=by
   have:=WA k1 hp
   unfold rd at this ⊢;rw [Y13 hn];exact this
  obtain ⟨h3,y3,e3,k3,g3⟩:=GA Dn x0 x2 nl np hn all r (F++dnL g) (some g.d) 219 (λ x hx=>hd x (Y02 _ hx)) (by rw [Y05];omega) (by rw [w4 hl1];unfold txs;rw [Y0o]) hp2;refine ⟨h3,y3,?_,k2.trans k3,by rw [g3,dnLs,Y0i]⟩;rw [Y0a];exact ju 250 (J2 (Wq rfl ⟨_,hl⟩ (zD rfl rfl e1) hl1 g1 (by rw [txs_len,txs_len];omega)) rfl) e3
def dsI (it:It):List Str:=it.heads++dnLs it.bods
structure Ld (m:Nat)(it:It):Prop where
 b:it.bods.length<=10
 g:∀ g∈it.bods,dep g<=m/\g.size<=125
theorem Ju:∀ ps:List G,(∀ g∈ps,g.size<=M)->G.sizes ps<=ps.length*M
 | [],_=>by rw [G.sizes];omega
 | g::r,h=>by
  rw [G.sizes,Y09,Y3m]
  have:=h g Y04
  have:=Ju r λ x hx=>h x (Y02 _ hx)
  omega
theorem Ld.sz (L:Ld m it):G.sizes it.bods<=1250:=by
 have:=Ju it.bods λ g hg=>(L.g g hg).2
 have:=L.b
 have:it.bods.length*125<=10*125:=Y3r _ L.b
 omega
theorem OY (it:It):it.heads.length<=it.bods.length:=by cases it<;>simp [It.heads,It.bods]
theorem GB (Dn:yM cl 41 m)(Lb:z5v cl 39)(x0:168)(nl:Nat):∀ (its:List It) (F:XQ) (y z:168) (h:Hh),(∀ it∈its,Ld m it)->F.length+its.length*2000<=50000->h[nl]?=some (.lst (txs F)) ->
  ∃ h' y' z',zu [] (zH JI λ ρ' h'=>b_law_deeds_1.run cl ρ' h') (its.map It.d) [x0,some (.loc nl),y,z] h=.nx [x0,some (.loc nl),y',z'] h'/\Kx [nl] h h'/\h'[nl]?=some (.lst (txs (F++its.flatMap dsI)))
 | [],F,y,z,h,ok,hs,hl=>⟨h,y,z,by rw [Y0u,zu,if_pos ze],Kx.refl _ _,by rw [List.flatMap_nil,Y0v];exact hl⟩
 | it::its,F,y,z,h,ok,hs,hl=>by
  rw [Y09,Y3m] at hs;have L:=ok it Y04;have sz:=L.sz;have hb:=L.b;have hh:=OY it;obtain ⟨h1,k1,g1,st⟩:∃ h1,Kx [nl] h h1/\h1[nl]?=some (.lst (txs (F++it.heads)))/\Ss.run cl (wD 1 b_law_deeds_1) [x0,some (.loc nl),some it.d,z] h=.nx [x0,some (.loc nl),some it.d,z] h1:=by
   cases it with
   | df nm ps o b=>exact ⟨h,Kx.refl _ _,by rw [show (It.df nm ps o b).heads=[] from rfl,Y0v];exact hl,zv 252 rfl⟩
   | hd nm cs e =>
    have hc:cs.length+1<=10:=by simpa [It.bods] using hb
    have hc:cs.length<=10:=Y3y hc;have key:=zM clD (f:=j1 JL [none] (λ ρ' h2=>c_law_deeds_3.evC cl ρ' h2) (λ ρ' h2=>e_law_deeds_3.ev cl ρ' h2)) (h:=h) ze (λ x=>some (.str x.1)) cs [] (λ x _=>ja rfl rfl 129);rw [jb,Y0n] at key;have et:cs.map (λ x=>D.str x.1)=txs (It.hd nm cs e).heads:=by unfold txs;show _=(cs.map (·.1)).map D.str;rw [Y0m];rfl
    rw [et] at key;have k0:Kx [] h (h++[O.lst (txs (It.hd nm cs e).heads)]):=Kx.app _ _;refine ⟨_,k0.up.trans 187,(w4 (k0.2 _ _ hl 130)).trans (by unfold txs;rw [Y0o]),wm (zm 129 rfl (eqS jg jg)) (J2 (Wq rfl ⟨_,hl⟩ (zO (bnd 129 rfl) 154 key) (k0.2 _ _ hl 130) 188 (by rw [txs_len,txs_len];omega)) rfl) rfl⟩
  obtain ⟨h2,e2,g2,k2⟩:=Lb it h1 128;have l1:=(Y00.mp g1).1;have l2:=(Y00.mp g2).1;have gl2:=k2.2 _ _ g1 130;have ne:nl≠h2.length-1:=by
   intro q;rw [<- q,gl2] at g2;injection g2 with g2;injection g2 with g2
   have:∃ b,b∈it.bods:=by cases it with | df nm ps o b=>exact ⟨b,by simp [It.bods]⟩ | hd nm cs e=>exact ⟨e,by simp [It.bods]⟩
   obtain ⟨b,hb'⟩:=this;have hm:b.d∈txs (F++it.heads):=by rw [g2];exact Y1k hb'
   obtain ⟨s,_,es⟩:=Y0e.mp hm;obtain ⟨xs,ex⟩:=Vb b;rw [ex] at es;cases es
  obtain ⟨h3,y3,e3,k3,g3⟩:=GA Dn x0 (some it.d) nl (h2.length-1) ne (it.bods.map G.d) it.bods (F++it.heads) z h2 (λ g hg=>⟨(L.g g hg).1,by have:=(L.g g hg).2;omega⟩) (by rw [Y05];omega) gl2 (zN g2);have k13:=k1.trans (k2.up.trans k3);have lds:=dnLs_len it.bods;obtain ⟨h4,y4,z4,e4,k4,g4⟩:=GB Dn Lb x0 nl its (F++dsI it) (some it.d) y3 h3 (λ x hx=>ok x (Y02 _ hx)) (by unfold dsI;rw [Y05,Y05];omega) (by rw [g3,Y0i];rfl);refine ⟨h4,y4,z4,?_,k13.trans k4,by rw [g4,Y1c,Y0i]⟩;rw [Y0a];exact ju ze ((J0 cl 1 _ _ _).trans ((congrArg (λ q=>jP q _) st).trans (zT (jZ (zD rfl rfl e2) g2) e3 rfl))) e4
theorem za1 (it:It)(d:Str):d∈dsI it ↔ d∈it.dds:=by
 unfold dsI It.dds;rw [Y0j,Y0j,dnLs_mem,Y16]
theorem z2d (Dn:yM cl 41 m)(Lb:z5v cl 39)(its:List It)(h:Hh)(ok:∀ it∈its,Ld m it)(l6:its.length<=6)(hF:(its.flatMap dsI).length<=4000)(h64:(jO (its.flatMap It.dds)).length<64) :
  ∃ h' n,d_law_deeds.run cl [.tup (its.map It.d)] h=.ok 151 h'/\h.length<=n/\h'[n]?=some (.lst (txs (jO (its.flatMap It.dds))))/\Kx [] h h':=by
 have es:jO (its.flatMap dsI)=jO (its.flatMap It.dds):=z53 λ d=>by
  rw [Y16,Y16];exact exists_congr λ it=>and_congr Iff.rfl (za1 it d)
 obtain ⟨h1,y1,z1,e1,k1,g1⟩:=GB Dn Lb (some (.tup (its.map It.d))) h.length its [] none none (h++[O.lst []]) ok 154 188;have kk:=(Kx.app _ _).fresh 175 k1;refine ⟨h1++[O.lst (txs (jO (its.flatMap It.dds)))],h1.length,?_,kk.1,zc _ _,kk.trans (Kx.app _ _)⟩;rw [<- es];exact zg (zf rfl (zT 133 e1 (zo (z93 rfl g1 hF (by rw [es];exact h64)))))
noncomputable def wT:List Ni->Str->Str->Bool
 | [],_,_=>false
 | p::l,x,d=>if p.2.isH&&p.1==x then decide (d∈p.2.heads) else wT l x d
end
theorem ze7 (ha:PyData.strOk a=true):jv .Eq (.str a) .non h=.ok (.bl false) h:=if_pos ⟨ha,rfl,Y19 _⟩
theorem ze8 (ha:PyData.strOk a=true):jv .NotEq (.str a) .non h=.ok 214 h:=if_pos ⟨ha,rfl,Y19 _⟩
theorem z71 (a y:Str):(a==y)=decide (some y=some a):=by
 by_cases e:a=y
 ·rw [e,decide_eq_true rfl,beq_self_eq_true]
 ·rw [beq_false_of_ne e,decide_eq_false λ q=>e (Option.some.inj q).symm]
theorem eqO {ob:XX}(ha:PyData.strOk a=true)(ho:∀ y,ob=some y->PyData.strOk y=true):jv .Eq (.str a) (zV ob) h=.ok (.bl (decide (ob=some a))) h:=by
 cases ob with
 | none=>exact ze7 ha
 | some y =>
  refine (eqS ha (ho y rfl)).trans ?_;rw [z71]
theorem neO {ob:XX}(ha:PyData.strOk a=true)(ho:∀ y,ob=some y->PyData.strOk y=true):jv .NotEq (.str a) (zV ob) h=.ok (.bl (!decide (ob=some a))) h:=by
 cases ob with
 | none=>exact ze8 ha
 | some y =>
  refine (neS ha (ho y rfl)).trans ?_;rw [z71]
structure NiOk (p:Ni):Prop where
 nm:p.2.nm=.str p.1
 so:PyData.strOk p.1=true
 bl:p.2.bods.length<=10
section
variable {cl:126}
theorem GC (x0:168)(x d:Str)(sx:PyData.strOk x=true):∀ (l:196) (y:168) (h:Hh),(∀ p∈l,NiOk p) ->
  (∃ h',Kx [] h h'/\zu [] 286 134 [x0,some 172,some 184,y] h=.rt (.bl (wT l x d)) h') \/
  (wT l x d=false/\∃ y',zu [] 286 134 [x0,some 172,some 184,y] h=.nx [x0,some 172,some 184,y'] h)
 | [],y,h,ok=>.inr ⟨rfl,y,by rw [Y0u,zu,if_pos ze]⟩
 | p::l,y,h,ok=>by
  obtain ⟨nm,so,bl⟩:=ok p Y04;obtain ⟨n,it⟩:=p;have ih:=λ y=>GC x0 x d sx l y h λ q hq=>ok q (Y02 _ hq);have go:∀ st:b_law_answers_1.run cl [x0,some 172,some 184,some it.d] h=.nx [x0,some 172,some 184,some it.d] h,(it.isH&&n==x)=false->(∃ h',Kx [] h h'/\zu [] 286 (((n,it)::l).map λ p=>p.2.d) [x0,some 172,some 184,y] h=.rt (.bl (wT ((n,it)::l) x d)) h')\/(wT ((n,it)::l) x d=false/\∃ y',zu [] 286 (((n,it)::l).map λ p=>p.2.d) [x0,some 172,some 184,y] h=.nx [x0,some 172,some 184,y'] h):=λ st hf=>by
   have e:wT ((n,it)::l) x d=wT l x d:=by show (if (it.isH&&n==x)=true then _ else _)=_;rw [if_neg (by rw [hf];simp)]
   rw [e];rcases ih (some it.d) with ⟨h',k,q⟩ | ⟨q1,y',q2⟩
   ·exact .inl ⟨h',k,ju ze st q⟩
   ·exact .inr ⟨q1,y',ju ze st q2⟩
  cases it with
  | df nm' ps o b=>exact go (zv (jY 252) rfl) rfl
  | hd nm' cs e =>
   have nm:nm'=.str n:=nm;subst nm;have eq:=eqS (h:=h) so sx;by_cases z:n=x
   ·subst z;have hc:cs.length+1<=10:=by simpa [It.bods] using bl
    have hc:cs.length<=10:=Y3y hc;have key:=zM clD (f:=j1 Zh [none] (λ ρ' h2=>c_law_answers_2.evC cl ρ' h2) (λ ρ' h2=>e_law_answers_2.ev cl ρ' h2)) (h:=h) ze (λ x=>some (.str x.1)) cs [] (λ x _=>ja rfl rfl 129);rw [jb,Y0n] at key;have et:cs.map (λ x=>D.str x.1)=(cs.map (·.1)).map D.str:=by rw [Y0m];rfl
    rw [et] at key;have ci:jv .In 184 136 (h++[O.lst ((cs.map (·.1)).map D.str)])=.ok (.bl (decide (d∈cs.map (·.1)))) (h++[O.lst ((cs.map (·.1)).map D.str)]):=by
     show inD false 184 136 _=_;unfold inD;dsimp only;rw [zc];refine in_strs.trans ?_
     congr 2
     rw [ngB_f,Y3q];simp
    refine .inl ⟨h++[O.lst ((cs.map (·.1)).map D.str)],Kx.app _ _,?_⟩;rw [Y0a,zu,if_pos ze];have st:zH je (λ ρ' h'=>b_law_answers_1.run cl ρ' h') (It.hd (.str n) cs e).d [x0,some (.str n),some 184,y] h=.rt (.bl (wT ((n,It.hd (.str n) cs e)::l) n d)) (h++[O.lst ((cs.map (·.1)).map D.str)]):=by
     have ea:wT ((n,It.hd (.str n) cs e)::l) n d=decide (d∈cs.map (·.1)):=by
      show (if (true&&n==n)=true then decide (d∈cs.map (·.1)) else _)=_;rw [if_pos 130]
     rw [ea];exact jd (ji (zm 129 rfl (eqS jg jg)) (zm 129 rfl (eq.trans 130))) (zo (bnd rfl (bnd (zO (bnd 129 rfl) 154 key) ci)))
    rw [st]
   ·have bz:(n==x)=false:=by simpa using z
    exact go (zv (ji (zm 129 rfl (eqS jg jg)) (zm 129 rfl (eq.trans (by rw [bz])))) rfl) (by rw [bz];rfl)
theorem OZ (l:196)(x d:Str)(h:Hh)(sx:PyData.strOk x=true)(ok:∀ p∈l,NiOk p):∃ h',d_law_answers.run cl [.tup 134,.str x,.str d] h=.ok (.bl (wT l x d)) h'/\Kx [] h h':=by
 rcases GC (some 228) x d sx l none h ok with ⟨h',k,q⟩ | ⟨q1,y',q2⟩
 ·exact ⟨h',zg (z91 133 q),k⟩
 ·exact ⟨h,by rw [q1];exact zg (zT 133 q2 285),Kx.refl _ _⟩
def z72 (cl:126)(i:Nat):Prop:=∀ (l:196) (x d:Str) (h:Hh),PyData.strOk x=true->(∀ p∈l,NiOk p)->∃ h',cl i [.tup 134,.str x,.str d] h=.ok (.bl (wT l x d)) h'/\Kx [] h h'
end
noncomputable def val (o s:Bool):Int:=if o then 2 else if s then 1 else 0
def LvAt (h:Hh)(nv:Nat)(ns:XQ)(d:Str)(o s:Str->Bool):Prop:=∃ kvs:List (List Key×D),h[nv]?=some (.dT kvs)/\∀ x∈ns,zK kvs 266=some (.int (val (o x) (s x)))
section
variable {cl:126}{h:Hh}{nv:Nat}{ns:XQ}{d:Str}{o s:Str->Bool}
theorem LvAt.kx (L:LvAt h nv ns d o s)(k:Kx [] h h'):LvAt h' nv ns d o s:=by
 obtain ⟨kvs,e,v⟩:=L;exact ⟨kvs,k.2 _ _ e 130,v⟩
theorem z5y (L:LvAt h nv ns d o s)(hx:x∈ns)(he:e.ev cl ρ h=.ok 224 h)(h1:ex.ev cl ρ h=.ok 172 h)(h2:ed.ev cl ρ h=.ok 184 h):E.ev cl (.sub e (.tup (.cons ex (.cons ed .nil)) p) p1) ρ h=.ok (.int (val (o x) (s x))) h:=by
 obtain ⟨kvs,g,v⟩:=L;refine bnd he (bnd (we (cns h1 (cns h2 rfl)) (show 2<=1000 by decide)) ?_);unfold jc;dsimp only;rw [g];show (match zK kvs 266 with | some d=>Res.ok d h | none=>.no)=_
 rw [v x hx]
structure LvOk (N:Nms)(ns:XQ)(ob:XX)(d:Str)(fd:Str->Bool)(o s:Str->Bool):Prop where
 os:∀ x,o x=true->s x=true
 pl:∀ x∈N.pl,x∈ns/\s x=o x
 op:∀ x∈N.op.map (·.1),x∈ns
 hd:∀ x∈N.hd,x∈ns/\s x=o x
 sn:∀ x∈ns,PyData.strOk x=true
 so:∀ y,ob=some y->PyData.strOk y=true
 nb:∀ y,ob=some y->y∉ns
 dd:∀ e∈N.dd,fd e=decide (e=d)/\PyData.strOk e=true
 sd:PyData.strOk d=true
theorem z2e {ob:XX}(Q:LvOk N ns ob d fd o s)(L:LvAt h nv ns d o s)(f:Str)(g:XX)(ps:260)(hk:okT N ob (.call f g) ps.length) :
  d_law_call_level.run cl [(G.nd (.call f g) ps).d,.str d,.loc nv,zV ob] h=.ok (.int (val (cO fd ob o s (.call f g)) (cS fd true ob o s (.call f g)))) h:=by
 rw [show (G.nd (.call f g) ps).d=.tup [.str "call",.str f,zV g,.tup 240] by rw [G.d];rfl];by_cases z:ob=some f
 ·have sf:=Q.so f z;have e1:val (cO fd ob o s (.call f g)) (cS fd true ob o s (.call f g))=1:=by unfold cO cS;dsimp only;rw [if_pos z,if_pos z];rfl
  rw [e1];exact zg (jd (zm 129 rfl ((eqO sf Q.so).trans (by rw [decide_eq_true z]))) 285)
 ·have fn:f∈ns:=by
   rcases hk with q | q | q
   ·exact absurd q.1 z
   ·exact (Q.pl f q.1).1
   ·exact Q.op f q.1
  have sf:=Q.sn f fn;have os:=Q.os f;have lf:=λ {ρ:En}{e ex ed:E}{p p1:Pos}=>z5y (cl:=cl) (ρ:=ρ) (e:=e) (ex:=ex) (ed:=ed) (p:=p) (p1:=p1) L fn;have st:∀ {r:RS},Ss.run cl (jC 2 d_law_call_level.body) [some (.tup [.str "call",.str f,zV g,.tup 240]),some 184,some 224,some (zV ob),some (.int (val (o f) (s f)))] h=r->Ss.run cl d_law_call_level.body [some (.tup [.str "call",.str f,zV g,.tup 240]),some 184,some 224,some (zV ob),none] h=r:=λ {r} k=>zv (zm 129 rfl ((eqO sf Q.so).trans (by rw [decide_eq_false z]))) (zf (lf rfl 129 rfl) k);by_cases z1:val (o f) (s f)=1
  ·have v1:o f=false/\s f=true:=by
    revert z1
    cases o f<;>cases s f<;>simp [val]
   rcases hk with q | q | q
   ·exact absurd q.1 z
   ·have:=(Q.pl f q.1).2
    rw [v1.1,v1.2] at this;cases this
   ·obtain ⟨_,y,rfl,hy⟩:=q;by_cases zy:ob=some y
    ·have sy:=Q.so y zy;have e1:val (cO fd ob o s (.call f (some y))) (cS fd true ob o s (.call f (some y)))=val (o f) (s f):=by unfold cO cS;dsimp only;rw [if_neg z,if_neg z];rw [if_pos zy,if_pos zy]
     rw [e1];exact zg (st (zv (ji ((yj rfl rfl).trans (by rw [z1];rfl)) (zm 129 rfl ((neO sy Q.so).trans (by rw [decide_eq_true zy];rfl)))) 285))
    ·have hy:=hy.resolve_left zy;obtain ⟨yn,ys⟩:=Q.pl y hy;have e1:val (cO fd ob o s (.call f (some y))) (cS fd true ob o s (.call f (some y)))=val (o y) (s y):=by unfold cO cS;dsimp only;rw [if_neg z,if_neg z];rw [if_neg zy,if_neg zy,v1.1,v1.2,ys];cases o y<;>rfl
     rw [e1];exact zg (st (jd (ji ((yj rfl rfl).trans (by rw [z1];rfl)) (zm 129 rfl ((neO (Q.sn y yn) Q.so).trans (by rw [decide_eq_false zy];rfl)))) (zo (z5y L yn rfl 129 rfl))))
  ·have e1:val (cO fd ob o s (.call f g)) (cS fd true ob o s (.call f g))=val (o f) (s f):=by
    have v2:(o f=true/\s f=true)\/(o f=false/\s f=false):=by
     revert z1 os
     cases o f<;>cases s f<;>simp [val]
    unfold cO cS;dsimp only;rw [if_neg z,if_neg z];cases g with
    | none=>dsimp only;rcases v2 with v | v<;>rw [v.1,v.2]
    | some y =>
     dsimp only;by_cases zy:ob=some y
     ·rw [if_pos zy,if_pos zy]
     ·rw [if_neg zy,if_neg zy];rcases v2 with v | v<;>rw [v.1,v.2]<;>rfl
   rw [e1];exact zg (st (zv (jY ((yj rfl rfl).trans (by rw [beq_false_of_ne z1]))) 285))
def zcl (cl:126)(i:Nat):Prop:=∀ (N:Nms) (ns:XQ) (ob:XX) (d:Str) (fd o s:Str->Bool) (nv:Nat) (h:Hh),LvOk N ns ob d fd o s->LvAt h nv ns d o s->∀ (f:Str) (g:XX) (ps:260),okT N ob (.call f g) ps.length->cl i [(G.nd (.call f g) ps).d,.str d,.loc nv,zV ob] h=.ok (.int (val (cO fd ob o s (.call f g)) (cS fd true ob o s (.call f g)))) h
end
theorem GD (h1:a=true->b=true)(h2:c=true->d=true):(if val c d > val a b then val c d else val a b)=val (a||c) (b||d):=by
 revert h1 h2
 revert a b c d
 decide
theorem cOS {ob:XX}(os:∀ x,o x=true->s x=true)(k:Kd):cO fd ob o s k=true->cS fd true ob o s k=true:=by
 cases k with
 | call f g =>
  unfold cO cS;dsimp only;by_cases z:ob=some f
  ·rw [if_pos z,if_pos z];exact λ _=>rfl
  ·rw [if_neg z,if_neg z];cases g with
   | none=>exact id
   | some y =>
    dsimp only;by_cases zy:ob=some y
    ·rw [if_pos zy,if_pos zy];exact os f
    ·rw [if_neg zy,if_neg zy];exact id
 | _=>exact id
def z2f (hb:Str->Bool)(k:Kd)(ps:260):List G:=match k with
 | .handle x=>if hb x then ps.take 1 else ps
 | _=>ps
theorem GE {ob:XX}(hb:Str->Bool)(P:Kd->Bool)(k:Kd)(ps:260)(hk:okT N ob k ps.length):sm hb P (.nd k ps)=(P k||(z2f hb k ps).any (sm hb P)):=by
 cases k with
 | handle x =>
  have h2:=hk.2
  match ps,h2 with
  | [a,b],_ =>
   rw [zcb];unfold z2f;dsimp only;cases hb x
   ·rw [if_neg 130,Y0p,Y0p,Y35,Y1d];rfl
   ·rw [if_pos rfl];show _=(_||[a].any _);rw [Y0p,Y35];rfl
 | _=>exact zca hb P _ ps rfl
def ym (cl:126)(i m:Nat):Prop:=∀ (N:Nms) (ns:XQ) (ob:XX) (d:Str) (fd o s hb:Str->Bool) (l:196) (nv:Nat) (h:Hh),LvOk N ns ob d fd o s->LvAt h nv ns d o s->(∀ x∈N.hd,hb x=wT l x d)->(∀ p∈l,NiOk p)->∀ g:G,dep g<=m->g.size<=1000->AllN (okT N ob) g->∃ h',cl i [g.d,.str d,.loc nv,zV ob,.tup 134] h=.ok (.int (val (sm hb (cO fd ob o s) g) (sm hb (cS fd true ob o s) g))) h'/\Kx [] h h'
theorem YT:∀ (ps:260),AllNs Q ps->∀ g∈ps,AllN Q g
 | [],_,g,hg=>by cases hg
 | x::r,a,g,hg=>by
  rw [AllNs] at a;rcases Y08.mp hg with rfl | hg
  ·exact a.1
  ·exact YT r a.2 g hg
section
variable {cl:126}{N:Nms}{ns:XQ}{ob:XX}{d:Str}{fd o s hb:Str->Bool}{l:196}{nv:Nat}
theorem GF (Lv:ym cl 44 m)(Q:LvOk N ns ob d fd o s)(ha:∀ x∈N.hd,hb x=wT l x d)(ok:∀ p∈l,NiOk p)(x0:168)(np:Nat)(all:181):∀ (qs:260) (a b:Bool) (y:168) (h:Hh),(a=true->b=true)->(∀ g∈qs,dep g<=m/\g.size<=1000/\AllN (okT N ob) g)->LvAt h nv ns d o s->rd h np=some all ->
  ∃ h' y',zu [(np,all)] (zH JJ λ ρ' h'=>b_law_level_1.run cl ρ' h') (G.ds qs) [x0,some 184,some 224,some (zV ob),some 228,some (.int (val a b)),some (.loc np),y] h=.nx [x0,some 184,some 224,some (zV ob),some 228,some (.int (val (a||qs.any (sm hb (cO fd ob o s))) (b||qs.any (sm hb (cS fd true ob o s))))),some (.loc np),y'] h'/\Kx [] h h'
 | [],a,b,y,h,ab,hq,L,hp=>⟨h,y,by rw [G.ds,zu,if_pos 250,Y35,Y35,Y1d,Y1d],Kx.refl _ _⟩
 | g::r,a,b,y,h,ab,hq,L,hp=>by
  obtain ⟨q1,q2,q3⟩:=hq g Y04;obtain ⟨h1,e1,k1⟩:=Lv N ns ob d fd o s hb l nv h Q L ha ok g q1 q2 q3;have mo:sm hb (cO fd ob o s) g=true->sm hb (cS fd true ob o s) g=true:=yh (cOS Q.os) g;obtain ⟨h2,y2,e2,k2⟩:=GF Lv Q ha ok x0 np all r (a||sm hb (cO fd ob o s) g) (b||sm hb (cS fd true ob o s) g) (some g.d) h1 (λ z=>by rw [Y1q] at z ⊢;exact z.imp ab mo) (λ x hx=>hq x (Y02 _ hx)) (L.kx k1) (WA k1 hp);refine ⟨h2,y2,?_,k1.trans k2⟩;rw [Y0p,Y0p,<- Y2c,<- Y2c,G.ds];refine ju 250 (zf ?_ rfl) e2;rw [<- GD ab mo];exact bnd rfl (bnd (zD rfl (cns rfl (cns rfl 169)) e1) rfl)
theorem z5z (Lp:z9z cl 38)(An:z72 cl 40)(Cl:zcl cl 43)(Lv:ym cl 44 m)(h:Hh)(Q:LvOk N ns ob d fd o s)(L:LvAt h nv ns d o s)(ha:∀ x∈N.hd,hb x=wT l x d)(ok:∀ p∈l,NiOk p)(g:G)(hd:dep g<=m+1)(hs:g.size<=1000)(al:AllN (okT N ob) g) :
  ∃ h',d_law_level.run cl [g.d,.str d,.loc nv,zV ob,.tup 134] h=.ok (.int (val (sm hb (cO fd ob o s) g) (sm hb (cS fd true ob o s) g))) h'/\Kx [] h h':=by
 obtain ⟨k,ps⟩:=g;rw [dep] at hd;rw [G.size] at hs;rw [AllN] at al;have lp:=QV ps;have hk:=al.1;have pe:=λ h=>Lp k ps h 128;have big:∃ h1 np,Kx [] h h1/\h1[np]?=some (.lst (G.ds (z2f hb k ps)))/\Ss.run cl (wD 5 d_law_level.body) [some (G.nd k ps).d,some 184,some 224,some (zV ob),some 228,none,none,none] h=.nx [some (G.nd k ps).d,some 184,some 224,some (zV ob),some 228,some (.int (val (cO fd ob o s k) (cS fd true ob o s k))),some (.loc np),none] h1:=by
  have k0:Kx [] h (h++[O.lst 240]):=Kx.app _ _;have t0:∀ (h:Hh),jc (G.nd k ps).d (.int 0) h=.ok (.str k.tag) h:=λ h=>by rw [G.d];exact Gy k _
  cases k with
  | doo e =>
   obtain ⟨de,se⟩:=Q.dd e hk;have s1:jc (G.nd (.doo e) ps).d (.int 1) h=.ok (.str e) h:=by rw [G.d];show jc (.tup (.str "do"::.str e::G.ds ps)) (.int 1) h=_;rw [sub_tup,wj 127];rfl
   have eq:=eqS (h:=h) se Q.sd;have tl:∀ v:Int,Ss.run cl (wD 3 (jC 2 d_law_level.body)) [some (G.nd (.doo e) ps).d,some 184,some 224,some (zV ob),some 228,some (.int v),none,none] h=.nx [some (G.nd (.doo e) ps).d,some 184,some 224,some (zV ob),some 228,some (.int v),some 136,none] (h++[O.lst 240]):=λ v=>zv (zm 164 rfl ((eqS (j7 (.doo e)) wn).trans (by rfl))) (zf (zD rfl rfl (pe _)) (zv (zm 164 rfl ((eqS (j7 (.doo e)) yI).trans (by rfl))) rfl));refine ⟨_,h.length,k0,zc _ _,?_⟩;show Ss.run cl (wD 5 d_law_level.body) _ _=.nx [_,_,_,_,_,some (.int (val (fd e) (fd e))),_,_] _;rw [de];by_cases z:e=d
   ·rw [decide_eq_true z];exact zf rfl (wm (ji (zm 164 rfl (eqS (j7 (.doo e)) qC)) (zm (bnd rfl (bnd rfl s1)) rfl (eq.trans (by rw [z,beq_self_eq_true])))) (zf rfl rfl) (tl 2))
   ·rw [decide_eq_false z];exact zf rfl (zv (ji (zm 164 rfl (eqS (j7 (.doo e)) qC)) (zm (bnd rfl (bnd rfl s1)) rfl (eq.trans (by rw [beq_false_of_ne z])))) (tl 0))
  | call f g =>
   exact ⟨_,h.length,k0,zc _ _,zf rfl (zv (jY (zm 164 rfl ((eqS (j7 (.call f g)) qC).trans (by rfl)))) (wm (zm 164 rfl (eqS (j7 (.call f g)) wn)) (zf (zD rfl (cns rfl 169) (Cl N ns ob d fd o s nv h Q L f g ps hk)) rfl) (zf (zD rfl rfl (pe _)) (zv (zm 164 rfl ((eqS (j7 (.call f g)) yI).trans (by rfl))) rfl))))⟩
  | handle x =>
   obtain ⟨xn,xs⟩:=Q.hd x hk.1;have hx:=ha x hk.1;have s1:∀ h:Hh,jc (G.nd (.handle x) ps).d (.int 1) h=.ok 172 h:=λ h=>by rw [G.d];show jc (.tup (.str "handle"::.str x::G.ds ps)) (.int 1) h=_;rw [sub_tup,wj 127];rfl
   obtain ⟨h1,e1,k1⟩:=An l x d (h++[O.lst 240]) (Q.sn x xn) ok;rw [<- hx] at e1;have k01:=k0.trans k1;have g1:=k1.2 _ _ 188 130;have eb:val (cO fd ob o s (.handle x)) (cS fd true ob o s (.handle x))=val (o x) (s x):=by rw [xs];rfl
   have tl:∀ {r:RS}{h2:Hh}{np:Nat},Ss.run cl (z1z (jC 4 (wD 5 d_law_level.body))) [some (G.nd (.handle x) ps).d,some 184,some 224,some (zV ob),some 228,some (.int 0),some 136,none] (h++[O.lst 240])=.nx [some (G.nd (.handle x) ps).d,some 184,some 224,some (zV ob),some 228,some (.int (val (o x) (s x))),some (.loc np),none] h2->Ss.run cl (wD 5 d_law_level.body) [some (G.nd (.handle x) ps).d,some 184,some 224,some (zV ob),some 228,none,none,none] h=.nx [some (G.nd (.handle x) ps).d,some 184,some 224,some (zV ob),some 228,some (.int (val (o x) (s x))),some (.loc np),none] h2:=λ {r h2 np} k=>zf rfl (zv (jY (zm 164 rfl ((eqS (j7 (.handle x)) qC).trans (by rfl)))) (zv (zm 164 rfl ((eqS (j7 (.handle x)) wn).trans (by rfl))) (zf (zD rfl rfl (pe _)) (wm (zm 164 rfl (eqS (j7 (.handle x)) yI)) k rfl))));rw [eb];cases hv:hb x with
   | false =>
    rw [hv] at e1;refine ⟨h1,h.length,k01,?_,tl (r:=.no) (zf (z5y (L.kx k0) xn rfl (bnd rfl (bnd rfl (s1 _))) rfl) (zv (bnd (zD rfl (cns (bnd rfl (bnd rfl (s1 _))) 141) e1) rfl) rfl))⟩;show h1[h.length]?=some (.lst (G.ds (if hb x=true then _ else _)));rw [hv];exact g1
   | true =>
    rw [hv] at e1;have ct:=z29 (cl:=cl) (ρ:=[some (G.nd (.handle x) ps).d,some 184,some 224,some (zV ob),some 228,some (.int (val (o x) (s x))),some 136,none]) (e:=.var 6 138) (lo:=.none) (hi:=.some (.int 1 138)) (p:=138) (p1:=138) rfl rfl (wv rfl) g1;have h2:=hk.2;have c1:jU 240 none (some 1)=(G.ds ps).take 1:=z28 (s:=1) (by rw [Qf];omega);rw [c1] at ct;refine ⟨h1++[O.lst ((G.ds ps).take 1)],h1.length,k01.trans (Kx.app _ _),?_,tl (r:=.no) (zf (z5y (L.kx k0) xn rfl (bnd rfl (bnd rfl (s1 _))) rfl) (wm (bnd (zD rfl (cns (bnd rfl (bnd rfl (s1 _))) 141) e1) rfl) (zf ct rfl) rfl))⟩;show _=some (O.lst (G.ds (if hb x=true then _ else _)));rw [hv,if_pos rfl,zc,PI.ds_map,PI.ds_map,List.map_take]
  | _=>exact ⟨_,h.length,k0,zc _ _,zf rfl (zv (jY (zm 164 rfl ((eqS (j7 _) qC).trans (by rfl)))) (zv (zm 164 rfl ((eqS (j7 _) wn).trans (by rfl))) (zf (zD rfl rfl (pe _)) (zv (zm 164 rfl ((eqS (j7 _) yI).trans (by rfl))) rfl))))⟩
 obtain ⟨h1,np,k1,g1,st⟩:=big;have sub:∀ x∈z2f hb k ps,x∈ps:=λ x hx=>by
  cases k with
  | handle y =>
   have hx:x∈(if hb y=true then ps.take 1 else ps):=hx;split at hx
   ·exact List.mem_of_mem_take hx
   ·exact hx
  | _=>exact hx
 have szm:∀ ps:List G,∀ x∈ps,x.size<=G.sizes ps:=λ ps=>by
  induction ps with
  | nil=>intro x hx;cases hx
  | cons g r ih =>
   intro x hx;rw [G.sizes];rcases Y08.mp hx with rfl | hx
   ·omega
   ·have:=ih x hx;omega
 obtain ⟨h2,y2,e2,k2⟩:=GF Lv Q ha ok (some (G.nd k ps).d) np _ (z2f hb k ps) (cO fd ob o s k) (cS fd true ob o s k) none h1 (cOS Q.os k) (λ x hx=>⟨by have:=Gh ps x (sub x hx);omega,by have:=szm ps x (sub x hx);omega,YT ps al.2 x (sub x hx)⟩) (L.kx k1) (zN g1);refine ⟨h2,?_,k1.trans k2⟩;rw [GE hb _ k ps hk,GE hb _ k ps hk];exact (congrArg w9 ((J0 cl 5 _ _ _).trans (congrArg (λ z=>jP z _) st))).trans (zg (zT (jZ rfl g1) e2 285))
end
section
variable {cl:126}{N:Nms}{ns:XQ}{ob:XX}{d:Str}{fd o s hb:Str->Bool}{l:196}{nv:Nat}
theorem GG {m:Nat}(Lv:ym cl 44 m)(Q:LvOk N ns ob d fd o s)(ha:∀ x∈N.hd,hb x=wT l x d)(ok:∀ p∈l,NiOk p)(x0:168)(np:Nat)(all:181):∀ (qs:260) (a b:Bool) (y:168) (h:Hh),(a=true->b=true)->(∀ g∈qs,dep g<=m/\g.size<=1000/\AllN (okT N ob) g)->LvAt h nv ns d o s->rd h np=some all ->
  ∃ h' y',zu [(np,all)] (zH qM λ ρ' h'=>b_law_item_level_1.run cl ρ' h') (qs.map G.d) [x0,some 184,some 224,some 228,some (zV ob),some (.int (val a b)),y] h=.nx [x0,some 184,some 224,some 228,some (zV ob),some (.int (val (a||qs.any (sm hb (cO fd ob o s))) (b||qs.any (sm hb (cS fd true ob o s))))),y'] h'/\Kx [] h h'
 | [],a,b,y,h,ab,hq,L,hp=>⟨h,y,by rw [Y0u,zu,if_pos 250,Y35,Y35,Y1d,Y1d],Kx.refl _ _⟩
 | g::r,a,b,y,h,ab,hq,L,hp=>by
  obtain ⟨q1,q2,q3⟩:=hq g Y04;obtain ⟨h1,e1,k1⟩:=Lv N ns ob d fd o s hb l nv h Q L ha ok g q1 q2 q3;have mo:sm hb (cO fd ob o s) g=true->sm hb (cS fd true ob o s) g=true:=yh (cOS Q.os) g;obtain ⟨h2,y2,e2,k2⟩:=GG Lv Q ha ok x0 np all r (a||sm hb (cO fd ob o s) g) (b||sm hb (cS fd true ob o s) g) (some g.d) h1 (λ z=>by rw [Y1q] at z ⊢;exact z.imp ab mo) (λ x hx=>hq x (Y02 _ hx)) (L.kx k1) (WA k1 hp);refine ⟨h2,y2,?_,k1.trans k2⟩;rw [Y0p,Y0p,<- Y2c,<- Y2c,Y0a];refine ju 250 (zf ?_ rfl) e2;rw [<- GD ab mo];exact bnd rfl (bnd (zD rfl (cns rfl (cns rfl 169)) e1) rfl)
theorem z2g {m:Nat}(Lb:z5v cl 39)(Lv:ym cl 44 m)(h:Hh)(it:It)(eo:it.own=zV it.ownS)(b10:it.bods.length<=10)(Q:LvOk N ns it.ownS d fd o s)(L:LvAt h nv ns d o s)(ha:∀ x∈N.hd,hb x=wT l x d)(ok:∀ p∈l,NiOk p)(hq:∀ g∈it.bods,dep g<=m/\g.size<=1000/\AllN (okT N it.ownS) g) :
  ∃ h',d_law_item_level.run cl [it.d,.str d,.loc nv,.tup 134] h=.ok (.int (val (it.bods.any (sm hb (cO fd it.ownS o s))) (it.bods.any (sm hb (cS fd true it.ownS o s))))) h'/\Kx [] h h':=by
 obtain ⟨h1,e1,g1,k1⟩:=Lb it h 128;obtain ⟨h2,y2,e2,k2⟩:=GG Lv Q ha ok (some it.d) (h1.length-1) _ it.bods false false none h1 (λ z=>z) hq (L.kx k1) (zN g1);have st:Ss.run cl (wD 2 d_law_item_level.body) [some it.d,some 184,some 224,some 228,none,none,none] h=.nx [some it.d,some 184,some 224,some 228,some (zV it.ownS),none,none] h:=by
  rw [<- eo];cases it with
  | df nm ps o b=>exact zf rfl (wm (zm 129 rfl (eqS jj jj)) (zf 129 rfl) rfl)
  | hd nm cs e=>exact zf rfl (zv (zm 129 rfl ((eqS jg jj).trans (by rfl))) rfl)
 refine ⟨h2,?_,k1.trans k2⟩;rw [Y2q,Y2q] at e2;exact (congrArg w9 ((J0 cl 2 _ _ _).trans (congrArg (λ z=>jP z _) st))).trans (zg (show Ss.run cl (jC 2 d_law_item_level.body) [some it.d,some 184,some 224,some 228,some (zV it.ownS),none,none] h=.rt _ h2 from zf rfl (zT (jZ (zD rfl rfl e1) g1) e2 285)))
def z73 (cl:126)(l:196)(ds:XQ)(nv:Nat)(kvs:List (List Key×D)):Prop:=∀ p∈l,p.2.nm=.str p.1/\∀ d∈ds,∃ v:Int,zK kvs [.inr p.1,.inr d]=some (.int v)/\∀ h:Hh,h[nv]?=some (.dT kvs)->∃ h',cl 45 [p.2.d,.str d,.loc nv,.tup 134] h=.ok (.int v) h'/\Kx [] h h'
theorem za2 (g:h[nv]?=some (.dT kvs))(q:zK kvs 266=some v):jc 224 (.tup [.str x,.str d]) h=.ok v h:=by
 unfold jc;dsimp only;rw [g];show (match zK kvs 266 with | some d=>Res.ok d h | none=>.no)=_
 rw [q]
theorem za3 {it:It}(e:it.nm=.str n)(h:Hh):jc it.d (.int 1) h=.ok (.str n) h:=by
 cases it with
 | df nm ps o b=>have e:=e;subst e;rfl
 | hd nm cs g=>have e:=e;subst e;rfl
theorem GH (pr:181)(p:Ni)(hn:p.2.nm=.str p.1)(nd:Nat)(all:181):∀ (ds:XQ) (y:168) (h:Hh),(∀ d∈ds,∃ v:Int,zK kvs [.inr p.1,.inr d]=some (.int v)/\∀ h:Hh,h[nv]?=some (.dT kvs)->∃ h',cl 45 [p.2.d,.str d,.loc nv,.tup pr] h=.ok (.int v) h'/\Kx [] h h')->h[nv]?=some (.dT kvs)->rd h nd=some all ->
  ∃ h' y',zu [(nd,all)] (zH YE λ ρ' h'=>b_law_fit_2.run cl ρ' h') (txs ds) [some 224,some (.tup pr),some 161,some p.2.d,y] h=.nx [some 224,some (.tup pr),some 161,some p.2.d,y'] h'/\Kx [] h h'
 | [],y,h,H,hv,hp=>⟨h,y,by show zu _ _ [] _ _=_;rw [zu,if_pos 250],Kx.refl _ _⟩
 | d::ds,y,h,H,hv,hp=>by
  obtain ⟨v,q1,q2⟩:=H d Y04;obtain ⟨h1,e1,k1⟩:=q2 h hv;have hv1:=k1.2 _ _ hv 130;obtain ⟨h2,y2,e2,k2⟩:=GH pr p hn nd all ds (some 184) h1 (λ e he=>H e (Y02 _ he)) hv1 (WA k1 hp);refine ⟨h2,y2,ju 250 (zv (zm (zD rfl (cns rfl 169) e1) (bnd rfl (bnd (we (cns (bnd rfl (bnd rfl (za3 hn _))) 141) (show 2<=1000 by decide)) (za2 hv1 q1))) (by show Res.ok (D.bl (decide (v<v))) _=_;rw [decide_eq_false 128])) rfl) e2,k1.trans k2⟩
theorem GI {kvs:List (List Key×D)}(pr:181)(nd:Nat)(ds:XQ):∀ (l:196) (y z:168) (h:Hh),(∀ p∈l,p.2.nm=.str p.1/\∀ d∈ds,∃ v:Int,zK kvs [.inr p.1,.inr d]=some (.int v)/\∀ h:Hh,h[nv]?=some (.dT kvs)->∃ h',cl 45 [p.2.d,.str d,.loc nv,.tup pr] h=.ok (.int v) h'/\Kx [] h h')->h[nv]?=some (.dT kvs)->h[nd]?=some 149 ->
  ∃ h' y' z',zu [] (zH yZ λ ρ' h'=>b_law_fit_1.run cl ρ' h') 134 [some 224,some (.tup pr),some 161,y,z] h=.nx [some 224,some (.tup pr),some 161,y',z'] h'/\Kx [] h h'
 | [],y,z,h,H,hv,hd=>⟨h,y,z,by rw [Y0u,zu,if_pos ze],Kx.refl _ _⟩
 | p::l,y,z,h,H,hv,hd=>by
  obtain ⟨q1,q2⟩:=H p Y04;obtain ⟨h1,z1,e1,k1⟩:=GH pr p q1 nd (txs ds) ds z h q2 hv (zN hd);obtain ⟨h2,y2,z2,e2,k2⟩:=GI pr nd ds l (some p.2.d) z1 h1 (λ e he=>H e (Y02 _ he)) (k1.2 _ _ hv 130) (k1.2 _ _ hd 130);exact ⟨h2,y2,z2,ju ze (zT (jZ rfl hd) e1 rfl) e2,k1.trans k2⟩
theorem zcm {kvs:List (List Key×D)}(h:Hh)(ds:XQ)(nd:Nat)(F:z73 cl l ds nv kvs)(hv:h[nv]?=some (.dT kvs))(hd:h[nd]?=some 149) :
  ∃ h',d_law_fit.run cl [.loc nv,.tup 134,.loc nd] h=.ok 214 h'/\Kx [] h h':=by
 obtain ⟨h1,y1,z1,e1,k1⟩:=GI (l.map λ p:Ni=>p.2.d) nd ds l none none h F hv hd;exact ⟨h1,zg (zT 133 e1 285),k1⟩
end
theorem z2h:∀ {l:XQ},(∀ x∈l,PyData.strOk x=true)->PyData.canLayAll0 290=true
 | [],_=>rfl
 | b::r,h=>by rw [Y0a];simp [PyData.canLayAll0,PyData.canLay0,z2h (λ x hx=>h x (Y02 _ hx)),h b (Y04 ..)]
theorem z2i:∀ (l:XQ),PyData.depthAll 290=0
 | []=>rfl
 | b::r=>by rw [Y0a];simp [PyData.depthAll,PyData.depth,z2i r]
theorem z2j:∀ (l:XQ),PyData.eqvAll 290 290=true
 | []=>rfl
 | b::r=>by rw [Y0a];simp [PyData.eqvAll,PyData.eqv,z2j r]
theorem z2k:∀ (l:XQ),D.pds h (txs l)=some 290
 | []=>by unfold txs;rw [Y0u,D.pds];rfl
 | b::r=>by
  have:=z2k (h:=h) r
  unfold txs at this ⊢;rw [Y0a,D.pds,this];simp [D.pd]
theorem YU (ga:h[a]?=some (.lst (txs l)))(gb:h[b]?=some (.lst (txs l)))(ok:∀ x∈l,PyData.strOk x=true):jv .Eq (.loc a) (.loc b) h=.ok 214 h/\jv .NotEq (.loc a) (.loc b) h=.ok (.bl false) h:=by
 have pa:∀ {a:Nat},h[a]?=some (.lst (txs l))->pdT h (.loc a)=some (.list 290):=λ {a} ga=>by
  show (PI.rd h a).bind (λ xs=>(D.pds h xs).map PyData.list)=_;rw [zN ga];show (D.pds h (txs l)).map PyData.list=_;rw [z2k];rfl
 rw [cmp_ne,cmp_eq,pa ga,pa gb];have c1:(PyData.list 290).canLay0=true:=by simp [PyData.canLay0,z2h ok]
 have c2:(PyData.list 290).depth<=60:=by simp [PyData.depth,z2i]
 have c3:PyData.eqv (.list 290) (.list 290)=true:=by simp [PyData.eqv,z2j]
 constructor
 ·show (if _ then _ else _)=_;rw [if_pos ⟨c1,c1,c2⟩,c3];rfl
 ·show (if _ then _ else _)=_;rw [if_pos ⟨c1,c1,c2⟩,c3];rfl
section
variable {cl:126}{h:Hh}
theorem Z2 (he:e.ev cl ρ h=.ok (.bl b) h1):E.evT cl (.un .Not e p) ρ h=.ok (!b) h1:=bnd (bnd he rfl) rfl
theorem z2l (b:Bool):∀ T:List α,wQ (T.map λ _=>D.bl b)=some (T.map λ _=>b)
 | []=>rfl
 | x::T=>by
  show (wQ (T.map λ _=>D.bl b)).map (b::·)=_;rw [z2l b T];rfl
theorem z74 {T:List α}(he:199)(g:h1[n]?=some (.lst (T.map λ _=>D.bl true))):E.ev cl (.c1 .all e p p1) ρ h=.ok 214 h1:=bnd he (by
 show c1D .all 151 h1=_;unfold c1D;dsimp only;rw [zN g];show (match wQ _ with | some bs=>Res.ok (D.bl (bs.all id)) h1 | none=>.no)=_
 rw [z2l];dsimp only
 congr 2
 simp)
theorem zcn {T:List α}(he:199)(g:h1[n]?=some (.lst (T.map λ _=>D.bl false))):E.ev cl (.c1 .any e p p1) ρ h=.ok (.bl false) h1:=bnd he (by
 show c1D .any 151 h1=_;unfold c1D;dsimp only;rw [zN g];show (match wQ _ with | some bs=>Res.ok (D.bl (bs.any id)) h1 | none=>.no)=_
 rw [z2l];dsimp only
 congr 2
 simp)
theorem z60 (g:h[n]?=some 149):jv .In 172 151 h=.ok (.bl (decide (x∈ds))) h:=by
 show inD false 172 151 _=_;unfold inD;dsimp only;rw [g];refine in_strs.trans ?_
 congr 2
 rw [ngB_f,Y3q];simp
theorem ze9 (n nd:Nat)(T ds:XQ)(hT:h[n]?=some (.lst (txs T)))(hd:h[nd]?=some 149)(up:jO T=T)(sub:∀ x∈T,x∈ds)(so:∀ x∈T,PyData.strOk x=true)(l64:T.length<64) :
  ∃ h',d_law_names_told.run cl [.loc n,.loc nd] h=.ok 214 h'/\Kx [] h h':=by
 have key:=zM D.str (c:=[(n,txs T)]) (f:=j1 qO (jz [none] [some 151,some 161]) (λ ρ' h2=>c_law_names_told_2.evC cl ρ' h2) (λ ρ' h2=>e_law_names_told_2.ev cl ρ' h2)) (stay_one.mpr (zN hT)) (λ _=>some 214) T [] (λ x hx=>ja rfl rfl rfl);rw [jb,Y0n] at key;have k1:Kx [] h (h++[O.lst (T.map λ _=>D.bl true)]):=Kx.app _ _;obtain ⟨h1,eh1⟩:∃ h1,h1=h++[O.lst (T.map λ _=>D.bl true)]:=146;have g1:h1[h.length]?=some (.lst (T.map λ _=>D.bl true)):=by rw [eh1];exact zc _ _
 rw [<- eh1] at k1;have hT1:=k1.2 _ _ hT 130;have ss:=λ {ρ:En}{e:E}{p0 p1 p2 p:Pos} (he:e.ev cl ρ h1=.ok (.loc n) h1)=>z93 (p0:=p0) (p1:=p1) (p2:=p2) (p:=p) he hT1 128 (by rw [up];omega);rw [up] at ss;have k2:Kx [] h1 (h1++[O.lst (T.map D.str)]):=Kx.app _ _;obtain ⟨h2,eh2⟩:∃ h2,h2=h1++[O.lst (T.map D.str)]:=146;rw [<- eh2] at k2;have g2:h2[h1.length]?=some (.lst (txs T)):=by rw [eh2];exact zc _ _
 have hT2:=k2.2 _ _ hT1 130;have hd2:=(k1.trans k2).2 _ _ hd 130;have cmp:=(YU hT2 g2 so).1;have key2:=zM D.str (f:=j1 qN (jz [none,some 1] [some 151,some 161]) (λ ρ' h2=>c_law_names_told_1.evC cl ρ' h2) (λ ρ' h2=>e_law_names_told_1.ev cl ρ' h2)) (stay_one.mpr (zN hT2)) (λ _=>some 214) T [] (λ x hx=>ja rfl rfl (bnd rfl (bnd rfl ((z60 hd2).trans (by rw [decide_eq_true (sub x hx)])))));rw [jb,Y0n] at key2;have is4:isI h 151 4=some true:=by unfold isI;dsimp only;rw [zN hT];rfl
 have lT:(txs T).length<=1000000:=by rw [txs_len];omega
 refine ⟨h2++[O.lst (T.map λ _=>D.bl true)],zg (zv (OG (h':=h) (Z2 (b:=true) (bnd rfl ?_)) (Z2 (z74 ?_ g1))) (zo (jD (ji (zm rfl ?_ cmp) (bnd (z74 (zO (jZ rfl hT2) lT key2) 188) rfl))))),(k1.trans k2).trans (Kx.app _ _)⟩
 ·show (match isI h 151 4 with | some b=>Res.ok (D.bl b) h | none=>.no)=_
  rw [is4]
 ·rw [eh1];exact zO (jZ rfl hT) lT key
 ·rw [eh2];exact ss rfl
def za4 (cl:126)(i:Nat):Prop:=∀ (n nd:Nat) (T ds:XQ) (h:Hh),h[n]?=some (.lst (txs T))->h[nd]?=some 149->jO T=T->(∀ x∈T,x∈ds)->(∀ x∈T,PyData.strOk x=true)->T.length<64->∃ h',cl i [.loc n,.loc nd] h=.ok 214 h'/\Kx [] h h'
end
def TbAt (h:Hh)(nt:Nat)(kvs:157):Prop:=h[nt]?=some 177\/h[nt]?=some (.fK kvs)
theorem TbAt.kx (t:TbAt h nt kvs)(k:Kx [] h h'):TbAt h' nt kvs:=t.imp (λ e=>k.2 _ _ e 130) λ e=>k.2 _ _ e 130
theorem TbAt.sub (t:TbAt h nt kvs)(v:zK kvs (.inr x)=some d):jc (.loc nt) 172 h=.ok d h:=t.elim (λ e=>Jh e v) λ e=>QN e v
structure Two (ds T1 T2:XQ)(it:It):Prop where
 u1:jO T1=T1
 u2:jO T2=T2
 s1:∀ x∈T1,x∈ds
 s2:∀ x∈T2,x∈ds
 o:∀ x∈ds,PyData.strOk x=true
 l1:T1.length<64
 l2:T2.length<64
 dj:∀ x∈T2,x∉T1
 op:T2≠[]->it.isH=false/\∃ y,it.own=.str y
def TabL (h:Hh)(kvs:157)(ds:XQ)(T:201)(l:196):Prop:=∀ p∈l,p.2.nm=.str p.1/\Two ds (T p.1).1 (T p.1).2 p.2/\∃ a b:Nat,zK kvs (.inr p.1)=some (.tup [.loc a,.loc b])/\h[a]?=some (.lst (txs (T p.1).1))/\h[b]?=some (.lst (txs (T p.1).2))
theorem TabL.kx (t:TabL h kvs ds T l)(k:Kx [] h h'):TabL h' kvs ds T l:=λ p hp=>by
 obtain ⟨e,w,a,b,v,ga,gb⟩:=t p hp;exact ⟨e,w,a,b,v,k.2 _ _ ga 130,k.2 _ _ gb 130⟩
section
variable {cl:126}{kvs:157}{ds:XQ}{T:201}
theorem GJ (Nt:za4 cl 47)(pr:181)(nt nd:Nat):∀ (l:196) (y z:168) (h:Hh),TabL h kvs ds T l->TbAt h nt kvs->h[nd]?=some 149 ->
  ∃ h' y' z',zu [] (zH Ja λ ρ' h'=>b_law_formed_1.run cl ρ' h') 134 [some (.loc nt),some (.tup pr),some 161,y,z] h=.nx [some (.loc nt),some (.tup pr),some 161,y',z'] h'/\Kx [] h h'
 | [],y,z,h,H,hv,hd=>⟨h,y,z,by rw [Y0u,zu,if_pos ze],Kx.refl _ _⟩
 | p::l,y,z,h,H,hv,hd=>by
  obtain ⟨e,w,a,b,v,ga,gb⟩:=H p Y04;obtain ⟨h1,e1,k1⟩:=Nt a nd _ ds h ga hd w.u1 w.s1 (λ x hx=>w.o x (w.s1 x hx)) w.l1;obtain ⟨h2,e2,k2⟩:=Nt b nd _ ds h1 (k1.2 _ _ gb 130) (k1.2 _ _ hd 130) w.u2 w.s2 (λ x hx=>w.o x (w.s2 x hx)) w.l2;have k12:=k1.trans k2;have ga2:=k12.2 _ _ ga 130;have gb2:=k12.2 _ _ gb 130;have key:=zM D.str (f:=j1 Jd (jz [none,some 4] 251) (λ ρ' h2=>c_law_formed_2.evC cl ρ' h2) (λ ρ' h2=>e_law_formed_2.ev cl ρ' h2)) (stay_one.mpr (zN gb2)) (λ _=>some (.bl false)) (T p.1).2 [] (λ x hx=>ja rfl rfl (bnd rfl (bnd 129 ((z60 ga2).trans (by rw [decide_eq_false (w.dj x hx)])))));rw [jb,Y0n] at key;have k3:Kx [] h2 (h2++[O.lst ((T p.1).2.map λ _=>D.bl false)]):=Kx.app _ _;have gb3:=k3.2 _ _ gb2 130;obtain ⟨h3,eh3⟩:∃ h3,h3=h2++[O.lst ((T p.1).2.map λ _=>D.bl false)]:=146;have g3:h3[h2.length]?=some (.lst ((T p.1).2.map λ _=>D.bl false)):=by rw [eh3];exact zc _ _
  have l2:=w.l2;rw [<- eh3] at k3 gb3;have k13:=k12.trans k3;have nl:Z9 true (.loc b) h3=.ok (.bl (!(T p.1).2.isEmpty)) h3:=by
   show (match rd h3 b with | some xs=>Res.ok (D.bl (ngB true xs.isEmpty)) h3 | none=>.no)=_
   rw [zN gb3];show Res.ok (D.bl (!(txs (T p.1).2).isEmpty)) h3=_;unfold txs;rw [List.isEmpty_map]
  have last:Ss.run cl (jC 4 b_law_formed_1) 251 h3=.nx 251 h3:=by
   by_cases q:(T p.1).2=[]
   ·exact zv (jY (bnd (bnd 129 (nl.trans (by rw [q]))) rfl)) rfl
   ·obtain ⟨q1,y',q2⟩:=w.op q;have ne:(!(T p.1).2.isEmpty)=true:=by cases e:(T p.1).2 with | nil=>exact absurd e q | cons=>rfl
    obtain ⟨nm,it⟩:=p;cases it with
    | hd=>cases q1
    | df nm' ps o b' =>
     have q2:=q2;subst q2;exact zv (ji (bnd (bnd 129 (nl.trans (by rw [ne]))) rfl) (OG 252 (zm 129 rfl rfl))) rfl
  obtain ⟨h4,y4,z4,e4,k4⟩:=GJ Nt pr nt nd l (some p.2.d) (some (.tup [.loc a,.loc b])) h3 (λ q hq=>(H.kx k13) q (Y02 _ hq)) (hv.kx k13) (k13.2 _ _ hd 130);refine ⟨h4,y4,z4,ju ze ?_ e4,k13.trans k4⟩;subst eh3;exact zf (bnd rfl (bnd (bnd rfl (bnd rfl (za3 e _))) (hv.sub v))) (zv (OG (Z2 (b:=true) rfl) 299) (zv (OG (Z2 (zD 129 141 e1)) (Z2 (zD 129 141 e2))) (zv (bnd (zcn (zO (jZ 129 gb2) (by rw [txs_len];omega) key) g3) rfl) last)))
theorem z2m (Nt:za4 cl 47)(l:196)(nt nd:Nat)(h:Hh)(H:TabL h kvs ds T l)(hv:TbAt h nt kvs)(ek:kvs.map (·.1)=l.map λ p=>.inr p.1)(sn:∀ p∈l,PyData.strOk p.1=true)(hl:l.length<=900)(hd:h[nd]?=some 149) :
  ∃ h',d_law_formed.run cl [.loc nt,.tup 134,.loc nd] h=.ok 214 h'/\Kx [] h h':=by
 have e2:(kvs.map λ p=>dK1 p.1)=txs 140:=by
  have:=congrArg (List.map dK1) ek
  rw [Y0m,Y0m] at this;refine Eq.trans this ?_;unfold txs;rw [Y0m];rfl
 have l1:c1D .lks (.loc nt) h=.ok 136 (h++[.lst (txs 140)]):=by
  unfold c1D;dsimp only;rcases hv with g | g<;>rw [g]<;>dsimp only<;>rw [e2]<;>rfl
 have i5:isI h (.loc nt) 5=some true:=by
  unfold isI PI.rd;dsimp only;rcases hv with g | g<;>rw [g]<;>rfl
 have key:=zM (λ p:Ni=>p.2.d) (f:=j1 Jb (jz [none] [some (.loc nt),some 228,some 161,none,none]) (λ ρ' h2=>c_law_formed_3.evC cl ρ' h2) (λ ρ' h2=>e_law_formed_3.ev cl ρ' h2)) (h:=h++[.lst (txs 140)]) ze (λ p=>some (.str p.1)) l [] (λ p hp=>ja rfl rfl (bnd rfl (bnd rfl (za3 (H p hp).1 _))));rw [jb,Y0n] at key;have em:l.map (λ p=>D.str p.1)=txs 140:=by unfold txs;rw [Y0m];rfl
 rw [em] at key;have sL:∀ y∈l.map (·.1),PyData.strOk y=true:=λ y hy=>by
  obtain ⟨x,hx,rfl⟩:=Y0e.mp hy;exact sn x hx
 have cmp:=(YU (b:=(h++[O.lst (txs 140)]).length) (zn 188) 188 sL).2;have k2:Kx [] h (h++[O.lst (txs 140)]++[O.lst (txs 140)]):=(Kx.app _ _).trans (Kx.app _ _);obtain ⟨h3,y3,z3,e3,k3⟩:=GJ Nt (l.map λ p:Ni=>p.2.d) nt nd l none none _ (H.kx k2) (hv.kx k2) (k2.2 _ _ hd 130);refine ⟨h3,zg (zv (OG (Z2 (b:=true) (bnd rfl ?_)) (zm (bnd rfl l1) (zO 133 (by rw [Y07];omega) key) cmp)) (zT 133 e3 285)),k2.trans k3⟩;show (match isI h (.loc nt) 5 with | some b=>Res.ok (D.bl b) h | none=>.no)=_
 rw [i5]
end
abbrev Lr:=List Key×D
noncomputable def lvO:List Lr->O
 | []=>.dK []
 | a::r=>.dT (a::r)
theorem z2n {k:List Key}(h:∀ p∈kvs,p.1≠k):qY kvs k v=kvs++[(k,v)]:=by
 unfold qY;rw [if_neg];intro z;obtain ⟨p,hp,q⟩:=Y23.mp z;exact h p hp (of_decide_eq_true q)
theorem za5 {lv:List Lr}(g:h[nv]?=some (lvO lv))(hl:lv.length<1000000)(hn:∀ u∈lv,u.1≠[.inr x,.inr d]):putT 224 [.str x,.str d] v h=some (h.set nv (lvO (lv++[(266,v)]))):=by
 unfold putT;dsimp only;rw [g];cases lv with
 | nil=>rfl
 | cons a r =>
  show (if (a::r).length<1000000 then some (h.set nv (.dT (qY (a::r) 266 v))) else none)=_;rw [if_pos hl,z2n hn];rfl
noncomputable def bI (b:Bool):Int:=if b then 1 else 0
def vV (T:List Str×List Str)(d:Str):Int:=2*bI (decide (d∈T.1))+bI (decide (d∈T.2))
def rwT (T:List Str×List Str)(x:Str)(es:XQ):List Lr:=es.map λ d=>(266,.int (vV T d))
section
variable {cl:126}{ρ ρ':En}{h h1 h2 h3 h4:Hh}
theorem za6 (hv:ve.ev cl ρ h=.ok z h1)(ho:oe.ev cl ρ h1=.ok x h2)(he:es.ev cl ρ h2=.ok ds h3)(hl:ds.length<1000)(hp:putT x ds z h3=some h4)(k:Ss.run cl r ρ h4=o):Ss.run cl (.cons (.putT oe es ve p2 p1 p) r) ρ h=o:=by
 rw [<- k,jX,zbw,hv,andS_ok,ho,andS_ok,he,andS_ok,if_pos hl,hp];rfl
theorem z75 (he:e.ev cl ρ h=.ok (.bl b) h1):E.ev cl (.c1 .int e p p1) ρ h=.ok (.int (bI b)) h1:=bnd he rfl
theorem zea (b:Bool):(bI b).natAbs<1048576:=by cases b<;>decide
theorem GK (x0:168)(x:Str)(a b nd nv:Nat)(T:List Str×List Str)(na:a≠nv)(nb:b≠nv)(nn:nd≠nv)(all:181):∀ (es:XQ) (lv:List Lr) (y:168) (h:Hh),lv.length+es.length<=900000->(∀ d∈es,∀ u∈lv,u.1≠[.inr x,.inr d])->es.Nodup->h[nv]?=some (lvO lv)->h[a]?=some (.lst (txs T.1))->h[b]?=some (.lst (txs T.2))->rd h nd=some all ->
  ∃ h' y',zu [(nd,all)] (zH Je λ ρ' h'=>b_law_levels_2.run cl ρ' h') (txs es) [x0,some 161,some 224,some 172,some (.tup [.loc a,.loc b]),y] h=.nx [x0,some 161,some 224,some 172,some (.tup [.loc a,.loc b]),y'] h'/\Kx [nv] h h'/\h'[nv]?=some (lvO (lv++rwT T x es))
 | [],lv,y,h,hl,hf,en,g,ga,gb,hp=>⟨h,y,by show zu _ _ [] _ _=_;rw [zu,if_pos 250],Kx.refl _ _,by unfold rwT;rw [Y0u,Y0v];exact g⟩
 | d::es,lv,y,h,hl,hf,en,g,ga,gb,hp=>by
  rw [Y09] at hl;obtain ⟨n1,n2⟩:=Y12.mp en;have pt:=za5 (v:=.int (vV T d)) g 128 (hf d Y04);have kk:Kx [nv] h (h.set nv (lvO (lv++[(266,.int (vV T d))]))):=Kx.set _ _ 130;have hp2:rd (h.set nv (lvO (lv++[(266,.int (vV T d))]))) nd=some all:=by
   unfold PI.rd at hp ⊢;rw [Y13 (Ne.symm nn)];exact hp
  obtain ⟨h2,y2,e2,k2,g2⟩:=GK x0 x a b nd nv T na nb nn all es (lv++[(266,.int (vV T d))]) (some 184) _ (by rw [Y05];simp;omega) (λ e he u hu=>by
   rcases Y0j.mp hu with hu | hu
   ·exact hf e (Y02 _ he) u hu
   ·rw [Y0d.mp hu];intro z;injection z with _ z;injection z with z;injection z with z;exact n1 (z▸he)) n2 (w4 g) (kk.2 _ _ ga (by simpa using na)) (kk.2 _ _ gb (by simpa using nb)) hp2
  refine ⟨h2,y2,ju 250 ?_ e2,kk.trans k2,by rw [g2,Y0i];rfl⟩;exact za6 (bnd (bnd rfl (bnd (z75 (bnd rfl (bnd 129 (z60 ga)))) (mlk (jB 127) (jB (zea _))))) (bnd (z75 (bnd rfl (bnd 129 (z60 gb)))) rfl)) rfl 169 (show 2<1000 by decide) pt rfl
noncomputable def lvA (T:201)(xs ds:XQ):List Lr:=xs.flatMap λ x=>rwT (T x) x ds
structure Ro where
 x:Str
 a:Nat
 b:Nat
noncomputable def Ro.kv (q:Ro):Key×D:=(.inr q.x,.tup [.loc q.a,.loc q.b])
noncomputable def Ro.at (h:Hh)(nv:Nat)(T:201)(q:Ro):Prop:=q.a≠nv/\q.b≠nv/\h[q.a]?=some (.lst (txs (T q.x).1))/\h[q.b]?=some (.lst (txs (T q.x).2))
theorem GL (T:201)(x0:168)(nd nv:Nat)(ds:XQ)(nn:nd≠nv)(dn:ds.Nodup)(dl:ds.length<=100):∀ (qs:List Ro) (xs:XQ) (u v w:168) (h:Hh),(lvA T xs ds).length+qs.length*100<=800000->(∀ q∈qs,q.x∉xs)->(qs.map Ro.x).Nodup->(∀ q∈qs,q.at h nv T)->h[nv]?=some (lvO (lvA T xs ds))->h[nd]?=some 149 ->
  ∃ h' u' v' w',zu [] (zH Jc λ ρ' h'=>b_law_levels_1.run cl ρ' h') (qs.map λ q=>.tup [.str q.x,.tup [.loc q.a,.loc q.b]]) [x0,some 161,some 224,u,v,w] h=.nx [x0,some 161,some 224,u',v',w'] h'/\Kx [nv] h h'/\h'[nv]?=some (lvO (lvA T (xs++qs.map Ro.x) ds))
 | [],xs,u,v,w,h,hl,hf,qn,qa,g,hd=>⟨h,u,v,w,by rw [Y0u,zu,if_pos ze],Kx.refl _ _,by rw [Y0u,Y0v];exact g⟩
 | q::qs,xs,u,v,w,h,hl,hf,qn,qa,g,hd=>by
  rw [Y09,Y3m] at hl;rw [Y0a,Y12] at qn;obtain ⟨a1,a2,a3,a4⟩:=qa q Y04;obtain ⟨h1,y1,e1,k1,g1⟩:=GK x0 q.x q.a q.b nd nv (T q.x) a1 a2 nn (txs ds) ds (lvA T xs ds) w h 128 (λ d hd u hu z=>by
   obtain ⟨y,hy,hu⟩:=Y16.mp hu;obtain ⟨e,he,rfl⟩:=Y0e.mp hu;injection z with z _;injection z with z;exact hf q Y04 (z▸hy)) dn g a3 a4 (zN hd)
  have el:lvA T (xs++[q.x]) ds=lvA T xs ds++rwT (T q.x) q.x ds:=by unfold lvA;rw [List.flatMap_append];simp
  have ln:(rwT (T q.x) q.x ds).length=ds.length:=Y07 ..
  obtain ⟨h2,u2,v2,w2,e2,k2,g2⟩:=GL T x0 nd nv ds nn dn dl qs (xs++[q.x]) (some (.str q.x)) (some (.tup [.loc q.a,.loc q.b])) y1 h1 (by rw [el,Y05,ln];omega) (λ r hr=>by
   intro z;rcases Y0j.mp z with z | z
   ·exact hf r (Y02 _ hr) z
   ·exact qn.1 (Y0e.mpr ⟨r,hr,Y0d.mp z⟩)) qn.2 (λ r hr=>by
   obtain ⟨b1,b2,b3,b4⟩:=qa r (Y02 _ hr);exact ⟨b1,b2,k1.2 _ _ b3 (by simpa using b1),k1.2 _ _ b4 (by simpa using b2)⟩) (by rw [el];exact g1) (k1.2 _ _ hd (by simpa using nn))
  refine ⟨h2,u2,v2,w2,by rw [Y0a];exact ju ze (zT (jZ rfl hd) e1 rfl) e2,k1.trans k2,?_⟩;rw [g2,Y0a,Y0i];rfl
end
section
variable {cl:126}
theorem z2o (T:201)(qs:List Ro)(ds:XQ)(nt nd:Nat)(h:Hh)(hv:TbAt h nt (qs.map Ro.kv))(qn:(qs.map Ro.x).Nodup)(q9:qs.length<=100)(qa:∀ q∈qs,h[q.a]?=some (.lst (txs (T q.x).1))/\h[q.b]?=some (.lst (txs (T q.x).2)))(hd:h[nd]?=some 149)(dn:ds.Nodup)(dl:ds.length<=100) :
  ∃ h',d_law_levels.run cl [.loc nt,.loc nd] h=.ok 136 h'/\h'[h.length]?=some (lvO (lvA T (qs.map Ro.x) ds))/\h'[nt]?=some (.fK (qs.map Ro.kv))/\Kx [nt] h h':=by
 have lt:=hv.elim (λ e=>(Y00.mp e).1) λ e=>(Y00.mp e).1;have nl:∀ {i:Nat}{xs:181},h[i]?=some 195->i≠nt:=λ {i xs} e z=>by
  rw [z] at e;rcases hv with q | q<;>rw [q] at e<;>cases e
 have k0:Kx [] h (h++[O.dK []]):=Kx.app _ _;obtain ⟨hx,ex,gx,kx⟩:∃ hx,ZQ (.loc nt) (h++[O.dK []])=.ok ([],(qs.map Ro.kv).map λ p=>.tup [dK1 p.1,p.2]) hx/\hx[nt]?=some (.fK (qs.map Ro.kv))/\Kx [nt] (h++[O.dK []]) hx:=by
  rcases hv.kx k0 with g | g
  ·exact ⟨(h++[O.dK []]).set nt (.fK (qs.map Ro.kv)),by unfold ZQ;dsimp only;rw [g],w4 g,Kx.set _ _ 130⟩
  ·exact ⟨h++[O.dK []],by unfold ZQ;dsimp only;rw [g],g,Kx.refl _ _⟩
 have kk:=k0.up.trans kx;have ei:(qs.map Ro.kv).map (λ p=>D.tup [dK1 p.1,p.2])=qs.map λ q=>.tup [.str q.x,.tup [.loc q.a,.loc q.b]]:=by rw [Y0m];rfl
 rw [ei] at ex;obtain ⟨h1,u1,v1,w1,e1,k1,g1⟩:=GL T (some (.loc nt)) nd h.length ds (by have:=(Y00.mp hd).1;omega) dn dl qs [] none none none hx (by show 0+_<=_;omega) 130 qn (λ q hq=>by
  obtain ⟨q1,q2⟩:=qa q hq;have l1:=(Y00.mp q1).1;have l2:=(Y00.mp q2).1;exact ⟨by omega,by omega,kk.2 _ _ q1 (by simpa using nl q1),kk.2 _ _ q2 (by simpa using nl q2)⟩) (kx.2 _ _ 188 154) (kk.2 _ _ hd (by simpa using nl hd))
 refine ⟨h1,zg (zf rfl (zT (bnd rfl ex) e1 285)),by rw [g1];rfl,k1.2 _ _ gx 154,Y0y kk.1 k1.1,λ i o e n=>k1.2 i o (kk.2 i o e n) (by have:=(Y00.mp e).1;simp;omega)⟩
end
theorem za7 {k:List Key}(h1:∃ u∈kvs,u.1=k)(h2:∀ u∈kvs,u.1=k->u.2=v):zK kvs k=some v:=by
 unfold zK;cases e:kvs.find? λ kv=>decide (kv.1=k) with
 | none =>
  obtain ⟨u,hu,q⟩:=h1;exact absurd (decide_eq_true q) (Y3w.mp e u hu)
 | some u =>
  have m:=List.mem_of_find?_eq_some e;have q:=List.find?_some e;exact congrArg some (h2 u m (of_decide_eq_true q))
theorem GM (h:u∈lvA T xs ds):∃ x∈xs,∃ d∈ds,u=(266,.int (vV (T x) d)):=by
 obtain ⟨x,hx,hu⟩:=Y16.mp h;obtain ⟨d,hd,rfl⟩:=Y0e.mp hu;exact ⟨x,hx,d,hd,rfl⟩
theorem QW {xs ds:XQ}(hx:x∈xs)(hd:d∈ds):zK (lvA T xs ds) 266=some (.int (vV (T x) d)):=by
 refine za7 ⟨(266,.int (vV (T x) d)),Y16.mpr ⟨x,hx,Y0e.mpr ⟨d,hd,rfl⟩⟩,rfl⟩ λ u hu q=>?_;obtain ⟨y,hy,e,he,rfl⟩:=GM hu;injection q with q1 q2;injection q1 with q1;injection q2 with q2;injection q2 with q2;rw [q1,q2]
theorem za8 (dj:∀ x∈T.2,x∉T.1):vV T d=val (decide (d∈T.1)) (decide (d∈T.1)||decide (d∈T.2)):=by
 unfold vV
 have:=dj d
 by_cases h1:d∈T.1<;>by_cases h2:d∈T.2
 ·exact absurd h1 (this h2)
 ·rw [decide_eq_true h1,decide_eq_false h2];rfl
 ·rw [decide_eq_false h1,decide_eq_true h2];rfl
 ·rw [decide_eq_false h1,decide_eq_false h2];rfl
theorem YV (h:l≠[]):lvO l=.dT l:=by cases l with | nil=>exact absurd rfl h | cons=>rfl
theorem zco (ga:h[a]?=some (lvO (lvA T xs ds)))(gb:h[b]?=some (lvO (lvA T xs ds))):Z8 false (.loc a) (.loc b) h=.ok 214 h:=by
 by_cases z:lvA T xs ds=[]
 ·rw [z] at ga gb;unfold Z8 yx;dsimp only;rw [ga,gb];rfl
 ·rw [YV z] at ga gb;have r:VH (lvA T xs ds) (lvA T xs ds)=true:=by
   unfold VH;rw [Y17];intro u hu;obtain ⟨x,hx,d,hd,rfl⟩:=GM hu;rw [QW hx hd];simp
  unfold Z8 yx;dsimp only;rw [ga,gb];show z00 false a b h=_;unfold z00;rw [ga];dsimp only;rw [gb];dsimp only;exact if_pos ⟨rfl,rfl,r⟩
def RoAt (h:Hh)(T:201)(q:Ro):Prop:=h[q.a]?=some (.lst (txs (T q.x).1))/\h[q.b]?=some (.lst (txs (T q.x).2))
def prD (l:196):D:=.tup 134
structure Tk (cl:126)(l:196)(ds:XQ)(T:201):Prop where
 two:∀ p∈l,p.2.nm=.str p.1/\Two ds (T p.1).1 (T p.1).2 p.2
 fit:∀ (h:Hh) (nv nd:Nat),h[nv]?=some (lvO (lvA T 140 ds))->h[nd]?=some 149->∃ h',cl 46 [.loc nv,prD l,.loc nd] h=.ok 214 h'/\Kx [] h h'
 f19:∀ (h:Hh) (nt:Nat) (qs:List Ro),h[nt]?=some (.fK (qs.map Ro.kv))->qs.map Ro.x=l.map (·.1)->(∀ q∈qs,nt<q.a/\nt<q.b)->(∀ q∈qs,RoAt h T q)->∃ h',cl 19 [prD l,.loc nt] h=.ok 214 h'/\Kx [] h h'
structure Lw (cl:126)(l:196)(ds:XQ):Prop where
 nn:(l.map (·.1)).Nodup
 sn:∀ p∈l,PyData.strOk p.1=true
 l9:l.length<=9
 dn:ds.Nodup
 dl:ds.length<=100
 h42:∀ h:Hh,∃ h' nd,cl 42 [prD l] h=.ok 161 h'/\h'[nd]?=some 149/\Kx [] h h'
 h18:∀ h:Hh,∃ (h':Hh) (nt:Nat) (qs:List Ro) (T:201),cl 18 [prD l] h=.ok (.loc nt) h'/\Kx [] h h'/\h'[nt]?=some (.dK (qs.map Ro.kv))/\qs.map Ro.x=l.map (·.1)/\(∀ q∈qs,nt<q.a/\nt<q.b)/\(∀ q∈qs,RoAt h' T q)/\Tk cl l ds T
def zcp (cl:126)(i:Nat):Prop:=∀ (kvs:157) (ds:XQ) (T:201) (l:196) (nt nd:Nat) (h:Hh),TabL h kvs ds T l->TbAt h nt kvs->kvs.map (·.1)=l.map (λ p=>.inr p.1)->(∀ p∈l,PyData.strOk p.1=true)->l.length<=900->h[nd]?=some 149->∃ h',cl i [.loc nt,prD l,.loc nd] h=.ok 214 h'/\Kx [] h h'
def z76 (cl:126)(i:Nat):Prop:=∀ (T:201) (qs:List Ro) (ds:XQ) (nt nd:Nat) (h:Hh),TbAt h nt (qs.map Ro.kv)->(qs.map Ro.x).Nodup->qs.length<=100->(∀ q∈qs,RoAt h T q)->h[nd]?=some 149->ds.Nodup->ds.length<=100->∃ h',cl i [.loc nt,.loc nd] h=.ok 136 h'/\h'[h.length]?=some (lvO (lvA T (qs.map Ro.x) ds))/\h'[nt]?=some (.fK (qs.map Ro.kv))/\Kx [nt] h h'
theorem RoAt.kx (r:RoAt h T q)(k:Kx [] h h'):RoAt h' T q:=⟨k.2 _ _ r.1 130,k.2 _ _ r.2 130⟩
theorem RoAt.kn (r:RoAt h T q)(k:Kx [nt] h h')(g:h[nt]?=some o)(no:∀ xs,o≠.lst xs):RoAt h' T q:=by
 have ne:∀ {i xs},h[i]?=some 195->i≠nt:=λ {i xs} e z=>by
  rw [z,g] at e;exact no xs (Option.some.inj e)
 exact ⟨k.2 _ _ r.1 (by simpa using ne r.1),k.2 _ _ r.2 (by simpa using ne r.2)⟩
theorem za9 {qs:List Ro}(nn:(qs.map Ro.x).Nodup)(hq:q∈qs):zK (qs.map Ro.kv) (.inr q.x)=some (.tup [.loc q.a,.loc q.b]):=by
 induction qs with
 | nil=>cases hq
 | cons y r ih =>
  rw [Y0a,Y12] at nn;rcases Y08.mp hq with rfl | hq
  ·simp [zK,Ro.kv]
  ·have ne:¬ y.x=q.x:=λ z=>nn.1 (z▸Y0e.mpr ⟨q,hq,rfl⟩)
   have:=ih nn.2 hq
   simp [zK,Ro.kv,ne] at this ⊢;exact this
theorem z2p {cl:126}{qs:List Ro}(nn:171)(t:Tk cl l ds T)(e:qs.map Ro.x=l.map (·.1))(r:∀ q∈qs,RoAt h T q):TabL h (qs.map Ro.kv) ds T l:=λ p hp=>by
 obtain ⟨q,hq,eq⟩:∃ q∈qs,q.x=p.1:=Y0e.mp (show p.1∈qs.map Ro.x by rw [e];exact Y1k hp);obtain ⟨w1,w2⟩:=t.two p hp;have v:=za9 (by rw [e];exact nn) hq;have rq:=r q hq;unfold RoAt at rq;rw [eq] at v rq;exact ⟨w1,w2,q.a,q.b,v,rq.1,rq.2⟩
theorem zcq (Ce:yL cl 24 ns)(Nm:QT cl 26)(Fm:zcp cl 48)(Lv:z76 cl 49)
  (H37:∀ (dd:XQ) (nd:Nat) (h:Hh),NmsK dd->1<=dd.length->dd.length<=4->h[nd]?=some (.lst (txs dd))->∃ h' l ds,cl 37 [scr ns,.loc nd] h=.ok (prD l) h'/\Lw cl l ds)
  (H0:∀ h:Hh,∃ h' n,cl 18 [.tup []] h=.ok 151 h'/\Kx [] h h'/\h'[n]?=some (.dK [])) (h:Hh):∃ h',d_law.run cl [scr ns] h=.ok 214 h':=by
 obtain ⟨dd,e0,l0,n0⟩:=Nm (1+jt ns 3%4) (jt ns 2) h 128;obtain ⟨h1,l,ds,e1,L⟩:=H37 dd h.length (h++[.lst (txs dd)]) n0 128 128 188;obtain ⟨h2,nd,e2,g2,k2⟩:=L.h42 h1;obtain ⟨h3,nt,qs,T,e3,k3,g3,x3,o3,r3,t3⟩:=L.h18 h2;have gd3:=k3.2 _ _ g2 130;have nq:(qs.map Ro.x).Nodup:=by rw [x3];exact L.nn
 have lq:qs.length<=100:=by have:=congrArg List.length x3;rw [Y07,Y07] at this;have:=L.l9;omega
 have ek:(qs.map Ro.kv).map (·.1)=l.map (λ p=>Key.inr p.1):=by
  have:=congrArg (List.map λ x:Str=>Key.inr x) x3
  rw [Y0m,Y0m] at this;rw [Y0m];exact this
 obtain ⟨h4,e4,k4⟩:=Fm (qs.map Ro.kv) ds T l nt nd h3 (z2p L.nn t3 x3 r3) (.inl g3) ek L.sn (by have:=L.l9;omega) gd3;have gd4:=k4.2 _ _ gd3 130;have gt4:=k4.2 _ _ g3 130;have r4:=λ q hq=>(r3 q hq).kx k4;obtain ⟨h5,e5,gv5,gt5,k5⟩:=Lv T qs ds nt nd h4 (.inl gt4) nq lq r4 gd4 L.dn L.dl;have nn:nd≠nt:=λ z=>by rw [z,gt4] at gd4;cases gd4
 have gd5:=k5.2 _ _ gd4 (by simpa using nn);have r5:=λ q hq=>(r4 q hq).kn k5 gt4 (λ xs z=>by cases z);rw [x3] at gv5;obtain ⟨h6,e6,k6⟩:=t3.fit h5 h4.length nd gv5 gd5;obtain ⟨h7,n7,e7,k7,g7⟩:=H0 h6;have k8:Kx [] h7 (h7++[O.dK []]):=Kx.app _ _;have ne:Z8 true (.loc n7) (.loc h7.length) (h7++[O.dK []])=.ok (.bl false) (h7++[O.dK []]):=by
  unfold Z8 yx;dsimp only;rw [k8.2 _ _ g7 130,zc];rfl
 have k58:=k6.trans (k7.trans k8);obtain ⟨h8,eh8⟩:∃ h8,h8=h7++[O.dK []]:=146;rw [<- eh8] at k58 ne;obtain ⟨h9,e9,k9⟩:=t3.f19 h8 nt qs (k58.2 _ _ gt5 130) x3 o3 (λ q hq=>(r5 q hq).kx k58);have k59:=k58.trans k9;have gt9:=k59.2 _ _ gt5 130;have gd9:=k59.2 _ _ gd5 130;have gv9:=k59.2 _ _ gv5 130;have r9:=λ q hq=>(r5 q hq).kx k59;obtain ⟨h10,e10,gv10,gt10,k10⟩:=Lv T qs ds nt nd h9 (.inr gt9) nq lq r9 gd9 L.dn L.dl;rw [x3] at gv10;have nv:h4.length≠nt:=by have:=(Y00.mp gt4).1;omega
 have eqv:=zco gv10 (k10.2 _ _ gv9 (by simpa using nv));have r10:=λ q hq=>(r9 q hq).kn k10 gt9 (λ xs z=>by cases z);obtain ⟨h11,e11,k11⟩:=Fm (qs.map Ro.kv) ds T l nt nd h10 (z2p L.nn t3 x3 r10) (.inr gt10) ek L.sn (by have:=L.l9;omega) (k10.2 _ _ gd9 (by simpa using nn));subst eh8;refine ⟨h11,zg (zf (zD rfl (cns (zD (qR rfl (jH (zD rfl 141 (Ce 3 h 127)) rfl 127)) (cns (zD rfl 141 (Ce 2 h 127)) rfl) e0) rfl) e1) (zf (zD rfl rfl e2) (zf (zD rfl rfl e3) (zv (Z2 (zD rfl 169 e4)) (zf (zD rfl 141 e5) (zv (OG (Z2 (zD rfl 169 e6)) (bnd (bnd (zD rfl rfl e7) (bnd rfl ne)) rfl)) (zo (jD (z90 (zm (zD rfl 141 e9) rfl rfl) (bnd (bnd (zD rfl 141 e10) (bnd rfl eqv)) rfl) (bnd (zD rfl 169 e11) rfl))))))))))⟩
theorem GN (k:Nat):Zm 155 0:=λ kd ps h=>(z9 rfl rfl).trans (z59 _ kd ps h)
theorem z2q (k:Nat):wF 261 1:=λ g h hs=>(z9 rfl rfl).trans (z0v _ (GN k) g h hs)
theorem YW (k:Nat):Wp 155 2:=λ it h hs=>(z9 rfl rfl).trans (z0w _ it h hs)
theorem zcr (k:Nat):z1e 155 3:=λ it h=>(z9 rfl rfl).trans (zc7 _ it h)
theorem Vc (k:Nat):UW 155 5:=λ h nd ds e hl nn=>(z9 rfl rfl).trans (z95 _ h nd ds e hl nn)
theorem zaa (k:Nat):UY 155 7:=λ h nd R ds e hl=>(z9 rfl rfl).trans (z94 _ h nd R ds e hl)
theorem QX (k:Nat):Ji 155 8:=λ x y h=>(z9 rfl rfl).trans (z96 _ h x y)
theorem Jv (k:Nat)(x y:Int)(h:Hh):callI defs (k+2) 9 [.int x,.int y] h=.ok (opI x y) h:=(z9 rfl rfl).trans (z13 _ h x y λ x y=>QX k x y h)
theorem z2r (k:Nat):YK 155 10:=λ a b r h=>(z9 rfl rfl).trans (z14 _ h a b r)
theorem z2s (k:Nat):QB (callI defs (k+3)) 11:=λ p q h=>(z9 rfl rfl).trans (z15 _ h p.1 p.2 q.1 q.2 λ x y=>Jv k x y h)
theorem zeb (k:Nat):z5g (callI defs (k+3)) 12:=λ p r h=>(z9 rfl rfl).trans (OL _ h p.1 p.2 r (λ x y=>QX (k+1) x y h) λ x y=>Jv k x y h)
theorem z61 (k:Nat):Zn 261 17:=λ kd ps a h nc cr ns hc ok hk hl=>(z9 rfl rfl).trans (z5c _ (GN k) kd ps a h nc cr ns hc ok hk hl)
theorem zab (k:Nat):z1b 155 51:=λ bl h=>(z9 rfl rfl).trans (z9b _ bl h)
theorem zcs (k:Nat):G6 261 23:=λ rw ev ob ns kd ps n h r ho ok=>(z9 rfl rfl).trans (zc8 _ (z2r k) rw ev ob ns kd ps n h r ho ok)
theorem YX (k:Nat):QC (callI defs (k+4)) 22:=λ rw ev o ns no n x us h ra r ho ok=>(z9 rfl rfl).trans (z1h _ (zcs (k+1)) (z2s k) (zeb k) rw ev o ns no n x us h ra r ho ok)
theorem QY (k:Nat)(ns:179):yL 155 24 ns:=λ i h hi=>(z9 rfl rfl).trans (z9n _ h ns i hi)
theorem z2t (k:Nat):V3 155 25:=λ x c h h1=>(z9 rfl rfl).trans (z9m h1 _ h)
theorem GO (k:Nat):QT 261 26:=λ m c h hm=>by
 obtain ⟨nms,e,r⟩:=z5q 155 (z2t k) m c hm h;exact ⟨nms,(z9 rfl rfl).trans e,r⟩
theorem z2u (k:Nat):YR 155 27:=λ i g t h h0 h1=>by
 obtain ⟨x,h',e,r⟩:=z1y i h0 h1 g t h;exact ⟨x,h',(z9 rfl rfl).trans e,r⟩
theorem zac (k:Nat):z20 155 28:=λ N ob n g a b c d x h O' A T=>by
 rw [z9 rfl rfl];exact z9r O' A T x
theorem GP (k:Nat):yk 261 29:=λ N ob n g a b c d x gn h O' A T=>by
 rw [z9 rfl rfl];exact z5s (zac k) (z2u k) O' A T x gn
theorem z2v (k:Nat):V7 (callI defs (k+3)) 30:=λ N ob a b c d nc cs h O' hc A=>by
 rw [z9 rfl rfl];exact z9s (GP k) O' nc cs hc A
theorem zec (k:Nat):z9t 155 31:=λ N ob n g a b c d x h O' A T=>by
 rw [z9 rfl rfl];exact ze5 O' A T x
theorem zct (k:Nat):z25 (callI defs (k+3)) 32:=λ N x a b c d nc cs h O' hb hl hc A=>by
 rw [z9 rfl rfl];exact OT (GP k) (zec (k+1)) O' x nc cs hb hl hc A
theorem zcu (k:Nat):z6z (callI defs (k+4)) 33:=λ N x nm a b c d nc cs h O' hb hl hc A=>by
 rw [z9 rfl rfl];exact OU (z2v k) (zct k) O' x nm nc cs hb hl hc A
theorem zed (k:Nat):zcj 155 34:=λ said kinds kind n1 n2 h h1 h2 hl sk ss l9=>(z9 rfl rfl).trans (ze6 said kinds kind n1 n2 h1 h2 hl sk ss l9)
theorem z2w (k:Nat)(ns:179):V9 261 35 ns:=λ j h=>(z9 rfl rfl).trans (z9u ns (QY k ns) j)
theorem zad (k:Nat)(ns:179):Va (callI defs (k+5)) 36 ns:=λ N j nm kind a b c d nc cs h O' sk hb hl hc A hj=>by
 rw [z9 rfl rfl];exact z9w ns (QY (k+3) ns) (z2t (k+3)) (z2v (k+1)) (zcu k) (z2w (k+2) ns) O' j hj nm kind sk nc cs hb hl hc A
theorem B0 (k:Nat)(ns:179)(hb:∀ y∈ns,fits y=true)(dd:XQ)(nd:Nat)(h:Hh)(hd:h[nd]?=some (.lst (txs dd)))(d1:1<=dd.length)(d9:dd.length<=9):∃ h' l N,callI defs (k+6) 37 [scr ns,.loc nd] h=.ok (prD l) h'/\Kx [] h h'/\PrG dd l N:=by
 rw [z9 rfl rfl];exact OW (QY (k+4) ns) (GO (k+3)) (zed (k+4)) (z2w (k+3) ns) (zad k ns) hb dd nd hd d1 d9
theorem YY (k:Nat):z9z 155 38:=λ kd ps h hl=>(z9 rfl rfl).trans (z2c kd ps hl)
theorem WD (k:Nat):z5v 155 39:=λ it h hl=>by
 obtain ⟨h',e,r⟩:=OX it hl;exact 270
theorem B1 (k:Nat):z72 155 40:=λ l x d h sx ok=>by
 obtain ⟨h',e,r⟩:=OZ l x d h sx ok;exact 270
theorem GQ (g:G):1<=dep g:=by cases g;rw [dep];omega
theorem z2x:∀ m k:Nat,yM (callI defs (k+m+1)) 41 m
 | 0,k=>λ g h hd=>by have:=GQ g;omega
 | m+1,k=>λ g h hd hs=>by
  obtain ⟨h',n,e,r⟩:=za0 (YY (k+m)) (z2x m k) g h hd hs;exact ⟨h',n,(z9 rfl rfl).trans e,r⟩
theorem z2y (k:Nat):zcl 155 43:=λ N ns ob d fd o s nv h Q L f g ps hk=>(z9 rfl rfl).trans (z2e Q L f g ps hk)
theorem GR:∀ m k:Nat,ym (callI defs (k+m+1)) 44 m
 | 0,k=>λ N ns ob d fd o s hb l nv h Q L ha ok g hd=>by have:=GQ g;omega
 | m+1,k=>λ N ns ob d fd o s hb l nv h Q L ha ok g hd hs al=>by
  obtain ⟨h',e,r⟩:=z5z (YY (k+m)) (B1 (k+m)) (z2y (k+m)) (GR m k) h Q L ha ok g hd hs al;exact 270
theorem zee (k:Nat):za4 155 47:=λ n nd T ds h hT hd up sub so l64=>by
 obtain ⟨h',e,r⟩:=ze9 n nd T ds hT hd up sub so l64;exact 270
theorem z2z (k:Nat):zcp 261 48:=λ kvs ds T l nt nd h H hv ek sn hl hd=>by
 obtain ⟨h',e,r⟩:=z2m (zee k) l nt nd h H hv ek sn hl hd;exact 270
theorem z30 (k:Nat):z76 155 49:=λ T qs ds nt nd h hv qn q9 qa hd dn dl=>by
 obtain ⟨h',e,r⟩:=z2o T qs ds nt nd h hv qn q9 qa hd dn dl;exact 270
def dsP (l:196):List Str:=jO ((l.map (·.2)).flatMap It.dds)
def crP (l:196)(x:Str):Int:=match l.find? λ p=>decide (p.1=x) with
 | some p=>QA 145 p.2
 | none=>0
def evP (l:196):Int:=(dsP l).foldl (λ a y=>Builtin.bitOr a (fB 223 y)) 0
def hnP (l:196):List Str:=(l.filter λ p=>p.2.isH).map (·.1)
theorem wy (l:196):(dsP l).Nodup:=(wM _).imp λ {a b} h z=>by subst z;exact Y3u _ h
theorem dsP_mem:d∈dsP l ↔ ∃ p∈l,d∈p.2.dds:=by
 unfold dsP;rw [jW,Y16];constructor
 ·rintro ⟨it,hi,h⟩
  obtain ⟨p,hp,rfl⟩:=Y0e.mp hi;exact ⟨p,hp,h⟩
 ·rintro ⟨p,hp,h⟩
  exact ⟨p.2,Y0e.mpr ⟨p,hp,rfl⟩,h⟩
mutual
theorem z31 {N:Nms}{ob:XX}:∀ g:G,AllN (okT N ob) g->d∈gdd g->d∈N.dd
 | .nd k ps,a,h=>by
  rw [AllN] at a;rcases (Zp k ps d).mp h with e | h
  ·rw [e] at a;exact a.1
  ·exact gdds_in ps a.2 h
theorem gdds_in {N:Nms}{ob:XX}:∀ ps:List G,AllNs (okT N ob) ps->(∃ g∈ps,d∈gdd g)->d∈N.dd
 | [],_,h=>by obtain ⟨g,hg,_⟩:=h;cases hg
 | x::r,a,h=>by
  rw [AllNs] at a;obtain ⟨g,hg,h⟩:=h;rcases Y08.mp hg with e | hg
  ·rw [e] at h;exact z31 x a.1 h
  ·exact gdds_in r a.2 ⟨g,hg,h⟩
end
theorem z62 {a b:XQ}(nn:a.Nodup)(h:∀ x∈a,x∈b):a.length<=b.length:=by
 induction a generalizing b with
 | nil=>simp
 | cons x r ih =>
  rw [Y12] at nn;have hx:=h x Y04
  have:=ih nn.2 λ y hy=>(List.mem_erase_of_ne (show y≠x from λ z=>nn.1 (by rw [<- z];exact hy))).mpr (h y (Y02 _ hy))
  rw [List.length_erase_of_mem hx] at this
  have:=Y3k hx
  rw [Y09];omega
section
variable {dd:XQ}{l:196}{N:Nms}(P:PrG dd l N)
include P
theorem PrG.indd (h:d∈dsP l):d∈dd:=by
 obtain ⟨p,hp,h⟩:=dsP_mem.mp h;have I:=P.it p hp;unfold It.dds at h;rcases Y0j.mp h with h | h
 ·rw [<- P.dd];exact I.hs.subset h
 ·obtain ⟨g,hg,h⟩:=Y16.mp h;rw [<- P.dd];exact z31 g (I.tr g hg).al h
theorem PrG.dlen:(dsP l).length<=dd.length:=z62 (wy l) λ x hx=>P.indd hx
theorem PrG.hlen (h:p∈l):p.2.heads.length<=dd.length:=by rw [<- P.dd];exact (P.it p h).hs.length_le
theorem PrG.blen (h:p∈l):p.2.bods.length<=dd.length+1:=by
 have:=P.hlen h
 obtain ⟨n,it⟩:=p;cases it with
 | df nm ps o b=>simp [It.bods]
 | hd nm cs e =>
  have:cs.length<=dd.length:=by simpa [It.heads] using this
  simp [It.bods];omega
theorem PrG.ld (d4:dd.length<=4):∀ it∈l.map (·.2),Ld 33 it:=λ it hi=>by
 obtain ⟨p,hp,rfl⟩:=Y0e.mp hi;exact ⟨by have:=P.blen hp;omega,λ g hg=>⟨by have:=((P.it p hp).tr g hg).dp;omega,by have:=((P.it p hp).tr g hg).sz;omega⟩⟩
theorem PrG.okI (d4:dd.length<=4)(h:p∈l):p.2.Ok:=⟨λ g hg=>by have:=((P.it p h).tr g hg).sz;omega,by have:=P.blen h;omega⟩
theorem PrG.bsz (d4:dd.length<=4){p:Ni}(h:p∈l):G.sizes p.2.bods<=625:=by
 have:=Ju p.2.bods λ g hg=>by have:=((P.it p h).tr g hg).sz;omega
 have:p.2.bods.length*125<=5*125:=Y3r _ (by have:=P.blen h;omega)
 omega
theorem PrG.tot1 (d4:dd.length<=4):((l.map (·.2)).flatMap It.dds).length<=4000:=by
 have gl:∀ l:List G,(l.flatMap gdd).length<=G.sizes l:=λ l=>by
  induction l with
  | nil=>simp
  | cons g r ih=>rw [Y1c,Y05,G.sizes];have:=G0 g;omega
 have aux:∀ k:List Ni,(∀ x∈k,x∈l)->((k.map (·.2)).flatMap It.dds).length<=k.length*630:=λ k=>by
  induction k with
  | nil=>intro _;simp
  | cons x r ih =>
   intro h;rw [Y0a,Y1c,Y05,Y09];have hx:=h x Y04
   have:=P.bsz d4 hx
   have:=P.hlen hx
   have:=gl x.2.bods
   have:x.2.dds.length<=630:=by unfold It.dds;rw [Y05];omega
   have:=ih λ y hy=>h y (Y02 _ hy)
   omega
 have:=aux l λ x hx=>hx
 have:=P.l6
 omega
theorem PrG.tot2 (d4:dd.length<=4):((l.map (·.2)).flatMap dsI).length<=4000:=by
 have aux:∀ k:List Ni,(∀ x∈k,x∈l)->((k.map (·.2)).flatMap dsI).length<=k.length*630:=λ k=>by
  induction k with
  | nil=>intro _;simp
  | cons x r ih =>
   intro h;rw [Y0a,Y1c,Y05,Y09];have hx:=h x Y04
   have:=P.bsz d4 hx
   have:=P.hlen hx
   have:=dnLs_len x.2.bods
   have:(dsI x.2).length<=630:=by unfold dsI;rw [Y05];omega
   have:=ih λ y hy=>h y (Y02 _ hy)
   omega
 have:=aux l λ x hx=>hx
 have:=P.l6
 omega
theorem PrG.sn:∀ p∈l,PyData.strOk p.1=true:=λ p hp=>by
 obtain ⟨k,_,hk⟩:=P.nm p hp;exact hk.ok
theorem PrG.niok (d4:dd.length<=4):∀ p∈l,NiOk p:=λ p hp=>⟨(P.it p hp).nm,P.sn p hp,by have:=P.blen hp;omega⟩
theorem PrG.h42 (d4:dd.length<=4)(k:Nat)(h:Hh):∃ h' nd,callI defs (k+36) 42 [prD l] h=.ok 161 h'/\h'[nd]?=some (.lst (txs 223))/\Kx [] h h':=by
 obtain ⟨h',n,e,_,g,r⟩:=z2d (z2x 33 (k+1)) (WD (k+34)) (l.map (·.2)) h (P.ld d4) (by rw [Y07];exact P.l6) (P.tot2 d4) (by have:=P.dlen;unfold dsP at this;omega);have ep:prD l=.tup ((l.map (·.2)).map It.d):=by unfold prD;rw [Y0m];rfl
 exact ⟨h',n,(z9 rfl rfl).trans (by rw [ep];exact e),g,r⟩
end
mutual
theorem YZ:∀ (g x:G),x∈pre g->x.size<=g.size
 | .nd k ps,x,hx=>by
  rw [pre] at hx;rcases Y08.mp hx with e | hx
  ·rw [e];exact Y0b _
  ·rw [G.size];have:=pres_size ps x hx;omega
theorem pres_size:∀ (ps:260) (x:G),x∈pres ps->x.size<=G.sizes ps
 | [],x,hx=>by rw [pres] at hx;cases hx
 | g::r,x,hx=>by
  rw [pres] at hx;rw [G.sizes];rcases Y0j.mp hx with hx | hx
  ·have:=pres_size r x hx;omega
  ·have:=YZ g x hx;omega
end
section
variable {dd:XQ}{l:196}{N:Nms}(P:PrG dd l N)
include P
theorem PrG.cr (h:p∈l):crP l p.1=QA 145 p.2:=by
 unfold crP;rw [Zo h P.nn]
theorem PrG.hv:∀ y∈hnP l,zK (crK 145 l) (.inr y)=some (.int (crP l y)):=by
 intro y hy;obtain ⟨x,hx,rfl⟩:=Y0e.mp hy;obtain ⟨h1,h2⟩:=Y27.mp hx;rw [P.cr h1];have aux:∀ (k:196),(k.map (·.1)).Nodup->∀ p∈k,p.2.isH=true->zK (crK 145 k) (.inr p.1)=some (.int (QA 145 p.2)):=λ k=>by
  induction k with
  | nil=>intro _ p hp;cases hp
  | cons u k ih =>
   intro nn p hp hh;rw [Y0a,Y12] at nn;have ec:crK 145 (u::k)=crK 145 [u]++crK 145 k:=by rw [<- G3];rfl
   rw [ec];rcases Y08.mp hp with rfl | hp
   ·unfold crK;rw [Y2h,if_pos hh];simp [zK]
   ·have ne:¬ u.1=p.1:=λ z=>nn.1 (z▸Y0e.mpr ⟨p,hp,rfl⟩);have ih:=ih nn.2 p hp hh;unfold zK at ih ⊢;rw [List.find?_append]
    have:(crK 145 [u]).find? (λ kv=>decide (kv.1=.inr p.1))=none:=by
     rw [Y3w];intro q hq z;obtain ⟨v,hv,e⟩:=G4 hq;have z:=of_decide_eq_true z;rw [e] at z;rw [Y0d.mp hv] at z;injection z with z;exact ne z
    rw [this];exact ih
 exact aux l P.nn x h1 h2
theorem PrG.inn (h:∃ p∈l,p.1=x):x∈l.map (·.1):=by
 obtain ⟨p,hp,e⟩:=h;exact Y0e.mpr ⟨p,hp,e⟩
theorem PrG.so (h:p∈l):okO p.2.ownS:=λ y hy=>by
 obtain ⟨c,rfl⟩:=P.ow p h y hy;exact (V2 127).ok
theorem PrG.nob (h:p∈l)(hy:p.2.ownS=some y):y∉l.map (·.1):=λ z=>by
 obtain ⟨c,rfl⟩:=P.ow p h y hy;obtain ⟨q,hq,e⟩:=Y0e.mp z;obtain ⟨k,hk,nk⟩:=P.nm q hq;exact nk.ne (V2 127) 128 128 e
theorem PrG.plm (h:x∈N.pl):x∈l.map (·.1):=by
 obtain ⟨p,hp,e,_⟩:=P.pl x h;exact P.inn ⟨p,hp,e⟩
theorem PrG.opm (h:x∈N.op.map (·.1)):x∈l.map (·.1):=by
 obtain ⟨p,hp,e,_⟩:=P.op x h;exact P.inn ⟨p,hp,e⟩
theorem PrG.hdm (h:x∈N.hd):x∈l.map (·.1):=by
 obtain ⟨p,hp,e,_⟩:=P.hd x h;exact P.inn ⟨p,hp,e⟩
theorem PrG.son (h:x∈l.map (·.1)):PyData.strOk x=true:=by
 obtain ⟨p,hp,rfl⟩:=Y0e.mp h;exact P.sn p hp
theorem PrG.okP (d4:dd.length<=4):∀ p∈l,OkP 223 (hnP l) (crP l) p:=by
 intro p hp;have I:=P.it p hp;have hl:=P.hlen hp;have bl:=P.blen hp;refine ⟨I.nm,λ d hd=>dsP_mem.mpr ⟨p,hp,Y1h _ hd⟩,by omega,by omega,λ q hq=>?_,Y0y (Gb (crP l) p.2.bods) (by have:=P.bsz d4 hp;omega)⟩;obtain ⟨k,ps,ek,ok⟩:=yJ (crP l) p.2.bods (λ g hg=>(I.tr g hg).al) q hq;obtain ⟨g,hg,hpre⟩:=Gc (crP l) p.2.bods q hq;have pl:ps.length<=1000:=by
  have aux:=λ g x hx=>YZ g x hx;rw [ek] at hpre;have h1:=aux g _ hpre;rw [G.size] at h1
  have:=QV ps
  have:=(I.tr g hg).sz
  omega
 rw [ek] at hpre ⊢;refine ⟨?_,λ y hy=>?_,λ d hd=>?_,pl⟩
 ·cases k with
  | handle y=>exact .inr ok.2
  | _=>exact .inl rfl
 ·cases k with
  | handle z =>
   injection hy with hy;subst hy;obtain ⟨p',hp',e,hh⟩:=P.hd z ok.1;exact Y0e.mpr ⟨p',Y27.mpr ⟨hp',hh⟩,e⟩
  | _=>cases hy
 ·subst hd;exact dsP_mem.mpr ⟨p,hp,Y0s _ (Y16.mpr ⟨g,hg,z9h hpre⟩)⟩
theorem PrG.okA:∀ p∈l,OkA 140 (crP l) p:=by
 intro p hp;have I:=P.it p hp;refine ⟨I.own,P.so hp,λ q hq=>?_⟩;unfold usB at hq;obtain ⟨h1,h2⟩:=Y27.mp hq;obtain ⟨k,ps,ek,ok⟩:=yJ (crP l) p.2.bods (λ g hg=>(I.tr g hg).al) q h1;have h2:wf (.nd k ps,q.2)=true:=by
  have:q=(.nd k ps,q.2):=by rw [<- ek]
  rw [<- this];exact h2
 rw [ek];show okU _ _ k;cases k with
 | handle y=>exact P.hdm ok.1
 | call f g =>
  rcases ok with ⟨e,rfl⟩ | ⟨hf,rfl⟩ | ⟨hf,y,rfl,hy⟩
  ·exact ⟨P.so hp f e,(λ x z=>by cases z),λ z=>absurd e z⟩
  ·exact ⟨P.son (P.plm hf),(λ x z=>by cases z),λ z=>⟨P.plm hf,λ b hb=>by cases hb⟩⟩
  ·refine ⟨P.son (P.opm hf),λ x z=>?_,λ z=>⟨P.opm hf,λ b hb nb=>?_⟩⟩
   ·cases z;exact hy.elim (λ e=>P.so hp y e) λ m=>P.son (P.plm m)
   ·cases hb;exact P.plm (hy.resolve_left nb)
 | _=>cases h2
end
mutual
theorem GS {S:XQ}:∀ g:G,(∀ d∈gdd g,d∈S)->AllN (λ k _=>∀ d,k=.doo d->d∈S) g
 | .nd k ps,h=>by
  rw [AllN];exact ⟨λ d e=>h d ((Zp k ps d).mpr (.inl e)),allns_do ps λ g hg d hd=>h d ((Zp k ps d).mpr (.inr ⟨g,hg,hd⟩))⟩
theorem allns_do {S:XQ}:∀ ps:List G,(∀ g∈ps,∀ d∈gdd g,d∈S)->AllNs (λ k _=>∀ d,k=.doo d->d∈S) ps
 | [],_=>by rw [AllNs];trivial
 | g::r,h=>by
  rw [AllNs];exact ⟨GS g (h g Y04),allns_do r λ x hx=>h x (Y02 _ hx)⟩
end
theorem Vd {ds:XQ}{d:Str}(h:d∈ds){i:Nat}(hi:ds.length<=i):tb (fB ds d) i=false:=by
 unfold fB;rw [QJ]
 have:=Y1a h
 exact decide_eq_false 128
theorem z32 {ds:XQ}{i:Nat}(hi:ds.length<=i):tb (ds.foldl 183 0) i=false:=by
 have aux:∀ (l:XQ) (a:Int),(∀ y∈l,y∈ds)->tb a i=false->tb (l.foldl 183 a) i=false:=λ l=>by
  induction l with
  | nil=>intro a _ h;exact h
  | cons y l ih=>intro a h1 h2;rw [Y1g];exact ih _ (λ z hz=>h1 z (Y02 _ hz)) (by rw [qA,h2,Vd (h1 y Y04) hi];rfl)
 exact aux ds 0 (λ y hy=>hy) (zA i)
section
variable {dd:XQ}{l:196}{N:Nms}(P:PrG dd l N)
include P
theorem PrG.dos {p:Ni}(hp:p∈l){g:G}(hg:g∈p.2.bods):AllN (λ k _=>∀ d,k=.doo d->d∈dsP l) g:=GS g λ d hd=>dsP_mem.mpr ⟨p,hp,Y0s _ (Y16.mpr ⟨g,hg,hd⟩)⟩
theorem PrG.fix (d4:dd.length<=4):∃ m,m<=900/\Fix 145 (crP l) (evP l) l m:=by
 obtain ⟨m,h1,h2⟩:=z9i (f:=fB 223) (cr:=crP l) (ev:=evP l) P.nn (dsP l).length (λ i hi=>z32 hi) (λ i hi p hp g hg=>(P.dos hp hg).mono λ k n h d e=>Vd (h d e) hi);refine ⟨m,?_,h2⟩
 have:=P.dlen
 have a:l.length*(dsP l).length<=6*4:=Y3t P.l6 128;omega
variable (d4:dd.length<=4)
include d4
theorem PrG.dl:(dsP l).length<=1000:=by have:=P.dlen;omega
theorem GT (k:Nat)(h:Hh):∃ nd h',callI defs (k+3) 4 [prD l] h=.ok 161 h'/\Kx [] h h'/\h'[nd]?=some (.lst (txs 223))/\h.length<=nd:=by
 obtain ⟨J,e⟩:=z5b 261 (z2q k) (YW (k+1)) (l.map (·.2)) h (λ it hi=>by obtain ⟨x,hx,rfl⟩:=Y0e.mp hi;exact P.okI d4 hx) (P.tot1 d4) (by have:=P.dlen;unfold dsP at this;omega);have ep:prD l=.tup ((l.map (·.2)).map It.d):=by unfold prD;rw [Y0m];rfl
 exact ⟨_,_,(z9 (d:=d_deeds_of) rfl rfl).trans (by rw [ep];exact e),(Kx.app _ _).trans (Kx.app _ _),zc _ _,by rw [Y05];omega⟩
theorem zcv (k:Nat):z9j 261 6 223:=λ h nm nd xs em e hx =>
 (z9 (d:=d_row_by) rfl rfl).trans (z12 _ h nm nd xs 223 145 em (Vc k h nd 223 e (P.dl d4) (wy l)) λ y hy=>UZ (hx y hy))
theorem GU (k:Nat)(h:Hh)(nd:Nat)(e:h[nd]?=some (.lst (txs 223))):callI defs (k+2) 6 [.loc nd,.loc nd] h=.ok (.int (evP l)) (h++[.dK (zw 0 223)]):=zcv P d4 k h nd nd 223 e e λ y hy=>hy
theorem zae (k:Nat):UV (callI defs (k+3)) 16 145 (crP l) 223 (hnP l) (zw 0 223):=λ bs bl nc nb h hb hc ok hs=>by
 obtain ⟨h',e,r⟩:=z9c 261 (z61 k) (QX (k+1)) (zab (k+1)) 145 (crP l) 223 (hnP l) (zw 0 223) (λ d hd=>UZ hd) bs bl nc nb h hb hc ok hs;exact ⟨h',(z9 (d:=d_rest_of) rfl rfl).trans e,r⟩
theorem U0 (k:Nat):Jk 155 15 145 223 (zw 0 223):=λ nb l' h hb ok nn hl=>by
 obtain ⟨h',e,r⟩:=z1d (callI defs k) 145 223 (zw 0 223) (λ d hd=>UZ hd) nb l' h hb ok nn hl;exact ⟨h',(z9 (d:=d_clause_rows) rfl rfl).trans e,r⟩
theorem GV (k:Nat)(h:Hh)(nd:Nat)(hd:h[nd]?=some (.lst (txs 223))):∃ h' nr Lr,callI defs (k+4) 14 [prD l,.loc nd] h=.ok 242 h'/\Kx [] h h'/\h.length<=nr/\Lr.map (·.1)=l/\h'[nr]?=some (.dK (nrK Lr))/\RestsOk h' nr 145 (crP l) Lr:=by
 obtain ⟨h',nr,Lr,e,r⟩:=z5f (callI defs (k+3)) 145 (crP l) 223 (hnP l) (Vc (k+2)) (U0 P d4 (k+2)) (zae P d4 k) (YW (k+2)) (zcr (k+2)) l nd h hd (P.dl d4) (wy l) P.hv (P.okP d4) P.nn (by have:=P.l6;omega);exact ⟨h',nr,Lr,(z9 (d:=d_rests_of) rfl rfl).trans e,r⟩
theorem z63 (k:Nat)(nr:Nat)(Lr:List Nr)(el:Lr.map (·.1)=l):QF (callI defs (k+5)) 21 145 (crP l) (evP l) 140 nr Lr:=λ h r n hr ro ra =>
 (z9 (d:=d_asked_rows) rfl rfl).trans (z5h (callI defs (k+4)) (YX k) 145 (crP l) r (evP l) 140 nr n h Lr hr ro ra (by rw [el];exact P.nn) (λ q hq=>P.okA q.1 (by rw [<- el];exact Y0e.mpr ⟨q,hq,rfl⟩)) (by
  have:=congrArg List.length el
  rw [Y07] at this;rw [this]
  have:=P.l6;omega))
theorem z64 (k:Nat)(h:Hh)(nd:Nat)(hd:h[nd]?=some (.lst (txs 223))):∃ h' a m,callI defs (k+6) 20 [prD l,.loc nd] h=.ok (.loc a) h'/\Kx [] h h'/\h'[a]?=some (.dK (zR 140 142))/\Fix 145 (crP l) (evP l) l m/\h.length<=a:=by
 obtain ⟨h',a,m,e,r⟩:=z5i (callI defs (k+5)) 145 (crP l) (evP l) 223 l P.nn (by have:=P.l6;omega) (λ h nd hd=>GV P d4 (k+1) h nd hd) (λ h nd hd=>GU P d4 (k+3) h nd hd) (λ nr Lr el=>z63 P d4 k nr Lr el) (P.fix d4) nd h hd;exact ⟨h',a,m,(z9 (d:=d_found_rows) rfl rfl).trans e,r⟩
theorem z33 (k:Nat):G8 (callI defs (k+7)) 52 145 (crP l) (evP l) 223 l:=λ h=>by
 obtain ⟨h',nd,nc,a,m,e,r⟩:=z5k (callI defs (k+6)) 145 (crP l) (evP l) 223 l P.nn (by have:=P.l6;omega) (λ p hp=>⟨(P.okP d4 p hp).nm,(P.okP d4 p hp).hd,(P.okP d4 p hp).hl⟩) (P.dl d4) (wy l) (λ h=>by obtain ⟨nd,h',e,k1,g,_⟩:=GT P d4 (k+3) h;exact ⟨nd,h',e,k1,g⟩) (λ h nd hd=>GU P d4 (k+4) h nd hd) (Vc (k+5)) (U0 P d4 (k+5)) (λ h nd hd=>z64 P d4 k h nd hd) h;exact ⟨h',nd,nc,a,m,(z9 (d:=d_init_Found) rfl rfl).trans e,r⟩
theorem z34 (k:Nat)(h:Hh):∃ h' nt tl m,callI defs (k+8) 18 [prD l] h=.ok (.loc nt) h'/\Kx [] h h'/\h.length<=nt/\tl.map (·.1)=l.map (·.1)/\h'[nt]?=some (.dK (kvT tl))/\TabOk h' nt 142 223 tl/\Fix 145 (crP l) (evP l) l m:=by
 obtain ⟨h',nt,tl,m,e,r⟩:=z9g (callI defs (k+7)) 145 (crP l) (evP l) 223 l (zaa (k+6)) (z33 P d4 k) (P.dl d4) P.nn (by have:=P.l6;omega) h;exact ⟨h',nt,tl,m,(z9 (d:=d_open_rows) rfl rfl).trans e,r⟩
end
theorem z65:PrG [] [] ⟨[],[],[],[]⟩:=⟨List.nodup_nil,(λ p hp=>by cases hp),(λ p hp=>by cases hp),(λ p hp=>by cases hp),(λ p hp=>by cases hp),(λ p hp=>by cases hp),(λ p hp=>by cases hp),by simp,rfl⟩
theorem zcw (k:Nat)(h:Hh):∃ h' n,callI defs (k+8) 18 [.tup []] h=.ok 151 h'/\Kx [] h h'/\h'[n]?=some (.dK []):=by
 obtain ⟨h',nt,tl,m,e,k1,_,et,g,_⟩:=z34 z65 130 k h;have t0:=List.map_eq_nil_iff.mp et;rw [t0] at g;exact ⟨h',nt,e,k1,g⟩
def Tw (l:196)(m:Nat)(x:Str):List Str×List Str:=(zI (rwN 145 (crP l) (evP l) l m x).1 223,zI (rwN 145 (crP l) (evP l) l m x).2 223)
theorem GW (l:196)(R:Int):jO (zI R 223)=zI R 223:=Zj (wM _) ((wM _).sublist (jL 223 R)) λ x=>jW x _
theorem z66 (fd:Str->Bool)(be:Bool)(o s:Str->Bool):cS fd be none o s=cO fd none o s:=by
 funext k
 cases k with
 | call g oo =>
  unfold cS cO;dsimp only;rw [if_neg 130,if_neg 130];cases oo with
  | none=>rfl
  | some b=>dsimp only;rw [if_neg 130,if_neg 130]
 | _=>rfl
section
variable {dd:XQ}{l:196}{N:Nms}(P:PrG dd l N)(d4:dd.length<=4){m:Nat}(fx:Fix 145 (crP l) (evP l) l m)
include P d4 fx
theorem PrG.row (hp:p∈l):rwN 145 (crP l) (evP l) l m p.1=qr 145 (crP l) 142 (evP l) p.2:=by
 rw [<- fx p.1 (Y1k hp)];exact Jr P.nn hp m
theorem PrG.lets (hp:p∈l)(i:Nat):tb (rwN 145 (crP l) (evP l) l m p.1).2 i=(!oB 142 i p.1&&sB 142 i p.1):=by
 have:=QM (f:=fB 223) (cr:=crP l) (ev:=evP l) P.nn i m hp
 unfold oB sB at this ⊢;rw [fx p.1 (Y1k hp)] at this;exact this
theorem PrG.plain (hp:p∈l)(hn:p.2.ownS=none)(i:Nat):sB 142 i p.1=oB 142 i p.1:=by
 unfold sB oB;rw [P.row d4 fx hp,Jp,Jo,hn,z66]
theorem PrG.two (sd:235):∀ p∈l,p.2.nm=.str p.1/\Two 223 (Tw l m p.1).1 (Tw l m p.1).2 p.2:=λ p hp=>by
 have dl:=P.dlen;refine ⟨(P.it p hp).nm,GW l _,GW l _,(jL _ _).subset,(jL _ _).subset,λ x hx=>sd x (P.indd hx),?_,?_,λ x h2 h1=>?_,λ ne=>?_⟩
 ·have:=(jL 223 (rwN 145 (crP l) (evP l) l m p.1).1).length_le
  show (zI _ _).length<64;omega
 ·have:=(jL 223 (rwN 145 (crP l) (evP l) l m p.1).2).length_le
  show (zI _ _).length<64;omega
 ·obtain ⟨i,e1,t1⟩:=(w5 _ _ _).mp h1;obtain ⟨j,e2,t2⟩:=(w5 _ _ _).mp h2;have ij:i=j:=by
   obtain ⟨l1,q1⟩:=Y00.mp e1;obtain ⟨l2,q2⟩:=Y00.mp e2;rcases Y3b i j with q | q | q
   ·exact absurd (q1.trans q2.symm) (Y15.mp (wy l) i j l1 l2 q)
   ·exact q
   ·exact absurd (q2.trans q1.symm) (Y15.mp (wy l) j i l2 l1 q)
  subst ij;rw [P.lets d4 fx hp] at t2;unfold oB at t2;rw [t1] at t2;cases t2
 ·have hs:=λ hn=>ne (List.eq_nil_iff_forall_not_mem.mpr λ x hx=>by
   obtain ⟨i,_,t⟩:=(w5 _ _ _).mp hx;rw [P.lets d4 fx hp,P.plain d4 fx hp hn] at t;cases q:oB 142 i p.1<;>rw [q] at t<;>cases t)
  have eo:=(P.it p hp).own;obtain ⟨y,hy⟩:=Option.ne_none_iff_exists'.mp hs;rw [hy] at eo;refine ⟨?_,y,eo⟩;obtain ⟨n,it⟩:=p;cases it with
  | df=>rfl
  | hd=>cases eo
end
theorem U1 (nn:ds.Nodup)(hd:d∈ds)(R:Int):decide (d∈zI R ds)=tb R (ds.idxOf d):=by
 have e:ds[ds.idxOf d]?=some d:=by rw [Y06 (Y1a hd)];exact congrArg some (Y2o _)
 rw [Y3q,decide_eq_true_eq,w5];constructor
 ·rintro ⟨i,e1,t⟩
  obtain ⟨l1,q1⟩:=Y00.mp e1;obtain ⟨l2,q2⟩:=Y00.mp e
  have:i=ds.idxOf d:=by
   rcases Y3b i (ds.idxOf d) with q | q | q
   ·exact absurd (q1.trans q2.symm) (Y15.mp nn i _ l1 l2 q)
   ·exact q
   ·exact absurd (q2.trans q1.symm) (Y15.mp nn _ i l2 l1 q)
  rw [<- this];exact t
 ·exact λ t=>⟨_,e,t⟩
theorem zaf (nn:171)(hp:p∈l)(hh:p.2.isH=true)(d:Str):wT l p.1 d=decide (d∈p.2.heads):=by
 induction l with
 | nil=>cases hp
 | cons y l ih =>
  rw [Y0a,Y12] at nn;rcases Y08.mp hp with rfl | hp
  ·show (if (p.2.isH&&p.1==p.1)=true then _ else _)=_;rw [if_pos (by rw [hh];simp)]
  ·have ne:¬ y.1=p.1:=λ z=>nn.1 (z▸Y0e.mpr ⟨p,hp,rfl⟩);show (if (y.2.isH&&y.1==p.1)=true then _ else _)=_;rw [if_neg (by simp [ne])];exact ih nn.2 hp
section
variable {dd:XQ}{l:196}{N:Nms}(P:PrG dd l N)(dn:dd.Nodup)
include P dn
theorem PrG.hb (hx:x∈N.hd)(hd:d∈dsP l):tb (crP l x) 277=wT l x d:=by
 obtain ⟨p,hp,rfl,hh⟩:=P.hd x hx;have hs:=(P.it p hp).hs;rw [P.cr hp,zaf P.nn hp hh];unfold QA;have hsub:∀ y∈p.2.heads,y∈dsP l:=λ y hy=>dsP_mem.mpr ⟨p,hp,Y1h _ hy⟩;rw [z1s p.2.heads (by rw [<- P.dd] at dn;exact dn.sublist hs) hsub,decide_eq_decide];constructor
 ·intro z;obtain ⟨y,hy,e⟩:=Y0e.mp z;rw [<- QK hd e];exact hy
 ·exact λ z=>Y0e.mpr ⟨d,z,rfl⟩
end
section
variable {dd:XQ}{l:196}{N:Nms}(P:PrG dd l N)(d4:dd.length<=4)(dn:dd.Nodup)(sd:235){m:Nat}(fx:Fix 145 (crP l) (evP l) l m)
include P d4 fx
theorem PrG.lvok (sd:235)(hp:p∈l)(hd:d∈dsP l):LvOk N 140 p.2.ownS d (λ e=>tb (fB 223 e) 277) (oB 142 277) (sB 142 277) where
 os:=λ x h=>by unfold sB;unfold oB at h;rw [h];rfl
 pl:=λ x hx=>by
  obtain ⟨q,hq,rfl,_,hn⟩:=P.pl x hx;exact ⟨Y1k hq,P.plain d4 fx hq hn _⟩
 op:=λ x hx=>P.opm hx
 hd:=λ x hx=>by
  obtain ⟨q,hq,rfl,hh⟩:=P.hd x hx;have hn:q.2.ownS=none:=by
   obtain ⟨n,it⟩:=q;cases it with
   | df=>cases hh
   | hd=>rfl
  exact ⟨Y1k hq,P.plain d4 fx hq hn _⟩
 sn:=λ x hx=>P.son hx
 so:=λ y hy=>P.so hp y hy
 nb:=λ y hy=>P.nob hp hy
 dd:=λ e he=>⟨z6t hd,sd e (by rw [<- P.dd];exact he)⟩
 sd:=sd d (P.indd hd)
theorem PrG.vv (sd:235)(hp:p∈l)(hd:d∈dsP l):vV (Tw l m p.1) d=val (oB 142 277 p.1) (sB 142 277 p.1):=by
 rw [za8 (P.two d4 fx sd p hp).2.dj];unfold Tw;dsimp only;rw [U1 (wy l) hd,U1 (wy l) hd];rfl
theorem PrG.fitat (dn:dd.Nodup)(sd:235)(k nv:Nat):z73 (callI defs (k+35)) l 223 nv (lvA (Tw l m) 140 223):=λ p hp=>by
 refine ⟨(P.it p hp).nm,λ d hd=>⟨vV (Tw l m p.1) d,QW (Y1k hp) hd,λ h hv=>?_⟩⟩;have Q:=P.lvok d4 fx sd hp hd;have L:LvAt h nv 140 d (oB 142 277) (sB 142 277):=⟨_,hv,λ x hx=>by
  obtain ⟨q,hq,rfl⟩:=Y0e.mp hx;rw [QW hx hd,P.vv d4 fx sd hq hd]⟩
 obtain ⟨h',e,k1⟩:=z2g (WD (k+33)) (GR 33 k) h p.2 (P.it p hp).own (by have:=P.blen hp;omega) Q L (λ x hx=>P.hb dn hx hd) (P.niok d4) (λ g hg=>⟨by have:=((P.it p hp).tr g hg).dp;omega,by have:=((P.it p hp).tr g hg).sz;omega,((P.it p hp).tr g hg).al⟩);have te:tb (evP l) 277=true:=zcc hd;have r1:=Jo 145 (crP l) 142 (evP l) p.2 277;have r2:=Jp 145 (crP l) 142 (evP l) p.2 277;rw [<- P.row d4 fx hp] at r1 r2;rw [te] at r2;rw [<- r1,<- r2] at e;refine ⟨h',?_,k1⟩;rw [P.vv d4 fx sd hp hd];exact (z9 rfl rfl).trans e
end
theorem GX (nv nd:Nat)(pr:181)(h:Hh)(hd:h[nd]?=some (.lst (txs []))):∀ (l:196) (y z:168),∃ y' z',zu [] (zH yZ λ ρ' h'=>b_law_fit_1.run cl ρ' h') 134 [some 224,some (.tup pr),some 161,y,z] h=.nx [some 224,some (.tup pr),some 161,y',z'] h
 | [],y,z=>⟨y,z,by rw [Y0u,zu,if_pos ze]⟩
 | p::l,y,z=>by
  obtain ⟨y',z',e⟩:=GX nv nd pr h hd l (some p.2.d) z;exact ⟨y',z',ju ze (zT (jZ rfl hd) (by show zu _ _ [] _ _=_;rw [zu,if_pos (stay_one.mpr (zN hd))];rfl) rfl) e⟩
section
variable {dd:XQ}{l:196}{N:Nms}(P:PrG dd l N)(d4:dd.length<=4)(dn:dd.Nodup)(sd:235){m:Nat}(fx:Fix 145 (crP l) (evP l) l m)
include P d4 dn sd fx
theorem PrG.fit46 (k:Nat)(h:Hh)(nv nd:Nat)(gv:h[nv]?=some (lvO (lvA (Tw l m) 140 223)))(gd:h[nd]?=some (.lst (txs 223))):∃ h',callI defs (k+36) 46 [.loc nv,prD l,.loc nd] h=.ok 214 h'/\Kx [] h h':=by
 by_cases z:lvA (Tw l m) 140 223=[]
 ·have d0:dsP l=[]:=by
   cases l with
   | nil=>rfl
   | cons p r =>
    unfold lvA rwT at z;rw [Y0a,Y1c] at z;exact List.map_eq_nil_iff.mp (List.append_eq_nil_iff.mp z).1
  rw [d0] at gd;obtain ⟨y,w,e⟩:=GX nv nd (l.map λ p:Ni=>p.2.d) h gd l none none;exact ⟨h,(z9 rfl rfl).trans (zg (zT 133 e 285)),Kx.refl _ _⟩
 ·rw [YV z] at gv;obtain ⟨h',e,k1⟩:=zcm h 223 nd (P.fitat d4 fx dn sd k nv) gv gd;exact ⟨h',(z9 rfl rfl).trans e,k1⟩
theorem PrG.rin:RowsIn 142 223 140:=by
 have by1:=λ i (hi:(dsP l).length<=i)=>jT (cr:=crP l) P.nn (z32 hi) (λ p hp g hg=>(P.dos hp hg).mono λ k n h d e=>Vd (h d e) hi);refine ⟨λ x hx i hi=>?_,λ x hx i hi=>?_,λ x hx=>?_⟩
 ·have:=(by1 i hi m x).1
  unfold oB at this;exact this
 ·have:=(by1 i hi m x).2
  unfold sB at this;exact (Bool.or_eq_false_iff.mp this).2
 ·obtain ⟨p,hp,rfl⟩:=Y0e.mp hx;refine yG λ i=>?_;have q:=P.lets d4 fx hp i;unfold oB at q;rw [yg,q];cases tb (rwN 145 (crP l) (evP l) l m p.1).1 i<;>simp
theorem zef (k:Nat):zch 261 13:=λ p h=>(z9 rfl rfl).trans (OR _ (QX k) p h)
theorem PrG.f19 (k:Nat)(h:Hh)(nt:Nat)(qs:List Ro)(gt:h[nt]?=some (.fK (qs.map Ro.kv)))(ex:qs.map Ro.x=l.map (·.1))(lo:∀ q∈qs,nt<q.a/\nt<q.b)(ro:∀ q∈qs,RoAt h (Tw l m) q):∃ h',callI defs (k+6) 19 [prD l,.loc nt] h=.ok 214 h'/\Kx [] h h':=by
 have ek:kvT (qs.map λ q=>(q.x,q.a,q.b))=qs.map Ro.kv:=by unfold kvT;rw [Y0m];rfl
 obtain ⟨h',e,k1⟩:=z9k (callI defs (k+5)) 145 (crP l) (evP l) 223 l (wy l) P.nn (by have:=P.l6;omega) m fx (P.rin d4 dn sd fx) (λ h=>GT P d4 (k+2) h) (zcv P d4 (k+3)) rfl (λ x y h=>Jv (k+3) x y h) (zef P d4 dn sd fx (k+3)) (λ h nd hd=>GV P d4 (k+1) h nd hd) (λ nr n L h R el hr ro ra z=>by
  refine (z9 rfl rfl).trans ?_
  have:=z1u (callI defs (k+4)) (YX k) 145 (crP l) R (evP l) 140 nr n h L hr ro ra z (by rw [el];exact P.nn) (λ q hq=>P.okA q.1 (by rw [<- el];exact Y0e.mpr ⟨q,hq,rfl⟩)) (by
   have:=congrArg List.length el
   rw [Y07] at this
   have:=P.l6;omega)
  rw [el] at this;exact this) nt (qs.map λ q=>(q.x,q.a,q.b)) (by rw [Y0m];exact ex) h (by rw [ek];exact gt) (λ u hu=>by
   obtain ⟨q,hq,rfl⟩:=Y0e.mp hu;exact ⟨(lo q hq).1,(lo q hq).2,(ro q hq).1,(ro q hq).2⟩)
 exact ⟨h',(z9 rfl rfl).trans e,k1⟩
theorem PrG.tk (k:Nat):Tk (callI defs (k+36)) l 223 (Tw l m):=⟨P.two d4 fx sd,λ h nv nd gv gd=>P.fit46 d4 dn sd fx k h nv nd gv gd,λ h nt qs gt ex lo ro=>P.f19 d4 dn sd fx (k+30) h nt qs gt ex lo ro⟩
end
theorem PrG.lw {dd:XQ}(P:PrG dd l N)(d4:dd.length<=4)(dn:dd.Nodup)(sd:235)(k:Nat):Lw (callI defs (k+36)) l 223:=by
 refine ⟨P.nn,P.sn,by have:=P.l6;omega,wy l,by have:=P.dlen;omega,λ h=>P.h42 d4 k h,λ h=>?_⟩;obtain ⟨h',nt,tl,m,e,k1,_,et,g,to,fx⟩:=z34 P d4 (k+28) h;have ek:(tl.map λ q=>Ro.mk q.1 q.2.1 q.2.2).map Ro.kv=kvT tl:=by unfold kvT;rw [Y0m];rfl
 refine ⟨h',nt,tl.map λ q=>⟨q.1,q.2.1,q.2.2⟩,Tw l m,e,k1,by rw [ek];exact g,by rw [Y0m];exact et,λ q hq=>?_,λ q hq=>?_,P.tk d4 dn sd fx k⟩
 ·obtain ⟨u,hu,rfl⟩:=Y0e.mp hq;exact ⟨(to u hu).1,(to u hu).2.1⟩
 ·obtain ⟨u,hu,rfl⟩:=Y0e.mp hq;exact ⟨(to u hu).2.2.1,(to u hu).2.2.2⟩
theorem law_true (ns:179)(hb:∀ n∈ns,fits n=true):∃ h',callI defs 45 50 [.fl (ns.map .int)] []=.ok 214 h':=by
 obtain ⟨h',e⟩:=zcq (cl:=callI defs 44) (QY 43 ns) (GO 42) (z2z 42) (z30 43) (λ dd nd h nk d1 d4 hd=>by
  obtain ⟨h',l,N,e,_,P⟩:=B0 38 ns hb dd nd h hd d1 128;exact ⟨h',l,dsP l,e,P.lw d4 (nk.nodup 128) (λ x hx=>by
   obtain ⟨k,hk⟩:=Y32 hx;exact (nk k x hk).ok) 8⟩) (λ h=>zcw 36 h) []
 exact ⟨h',(z9 rfl rfl).trans e⟩
end K32
namespace K32
open PySem L2 PI
theorem dok {st:Stmt}{d:Df}{F:XQ}{G:List (Str×Cn)}{nm q:Str}(h:∀ (kV doc pm:Value) (an:Option Addr) (cdv ct:Value) (us:XV),us.length=d.ps.length->bindArgs (PySem.W.fnOf nm q (jk st) (j3 st) (zG st) .none kV doc pm an cdv ct) ⟨us,[]⟩=pure (d.ps.zip us))(h1:j3 st=d.body.py ⟨d.N,F,G⟩:=by rfl)(h2:FnScope d.N d.ps (zG st):=by exact ⟨rfl,rfl,rfl,by decide +kernel,rfl,by decide +kernel,by decide +kernel⟩)(h3:okD d.body (zG st) ⟨d.N,F,G⟩ d.ps=true:=by decide +kernel)(h4:∀ x∈d.N,((zG st).names.lookup x=some .local\/(zG st).names.lookup x=some .cell)/\yW x=true:=by decide +kernel):DefOk st d F G nm q:=⟨h1,h2,h3,h4,h⟩
abbrev DO (i:Nat) (d:Df) (x y:Str):=DefOk (top i) d (defs.map (·.name)) zj x y
theorem Ve:DO 2 d_parts_of "parts_of" "parts_of":=dok λ _ _ _ _ _ _=>yB λ _=>rfl
theorem QZ:DO 3 d_all_within "all_within" "all_within":=dok λ _ _ _ _ _ _=>yB λ _=>rfl
theorem U2:DO 4 d_bodies_of "bodies_of" "bodies_of":=dok λ _ _ _ _ _ _=>yB λ _=>rfl
theorem U4:DO 5 d_own_block "own_block" "own_block":=dok λ _ _ _ _ _ _=>yB λ _=>rfl
theorem Vf:DO 7 d_deeds_of "deeds_of" "deeds_of":=dok λ _ _ _ _ _ _=>yB λ _=>rfl
theorem Jw:DO 8 d_bits_by_deed "bits_by_deed" "bits_by_deed":=dok λ _ _ _ _ _ _=>yB λ _=>rfl
theorem z35:DO 9 d_row_by "row_by" "row_by":=dok λ _ _ _ _ _ _=>wc λ _ _=>rfl
theorem zag:DO 10 d_told "told" "told":=dok λ _ _ _ _ _ _=>wc λ _ _=>rfl
theorem zah:DO 11 d_less "less" "less":=dok λ _ _ _ _ _ _=>wc λ _ _=>rfl
theorem z36:DO 13 d_opened "opened" "opened":=dok λ _ _ _ _ _ _=>wc λ _ _=>rfl
theorem z37:DO 14 d_filled "filled" "filled":=dok λ _ _ _ _ _ _=>wc λ _ _=>rfl
theorem z38:DO 15 d_joined "joined" "joined":=dok λ _ _ _ _ _ _=>wc λ _ _=>rfl
theorem B2:DO 16 d_without "without" "without":=dok λ _ _ _ _ _ _=>wc λ _ _=>rfl
theorem z39:DO 17 d_within "within" "within":=dok λ _ _ _ _ _ _=>wc λ _ _=>rfl
theorem Vg:DO 20 d_rests_of "rests_of" "rests_of":=dok λ _ _ _ _ _ _=>wc λ _ _=>rfl
theorem JN:DO 21 d_clause_rows "clause_rows" "clause_rows":=dok λ _ _ _ _ _ _=>wc λ _ _=>rfl
theorem B3:DO 22 d_rest_of "rest_of" "rest_of":=dok λ _ _ _ _ _ _=>UG λ _ _ _ _=>rfl
theorem z67:DO 23 d_inner "inner" "inner":=dok λ _ _ _ _ _ _=>Za λ _ _ _=>rfl
theorem U5:DO 26 d_open_rows "open_rows" "open_rows":=dok λ _ _ _ _ _ _=>yB λ _=>rfl
theorem zai:DO 27 d_fits "fits" "fits":=dok λ _ _ _ _ _ _=>wc λ _ _=>rfl
theorem Y0:DO 28 d_found_rows "found_rows" "found_rows":=dok λ _ _ _ _ _ _=>wc λ _ _=>rfl
theorem Y1:DO 29 d_asked_rows "asked_rows" "asked_rows":=dok λ _ _ _ _ _ _=>Za λ _ _ _=>rfl
theorem Y2:DO 30 d_bodies_row "bodies_row" "bodies_row":=dok λ _ _ _ _ _ _=>Za λ _ _ _=>rfl
theorem B4:DO 31 d_use_row "use_row" "use_row":=dok λ _ _ _ _ _ _=>UG λ _ _ _ _=>rfl
theorem Vh:DO 33 d_law_cell "_law_cell" "_law_cell":=dok λ _ _ _ _ _ _=>wc λ _ _=>rfl
theorem Vi:DO 34 d_law_name "_law_name" "_law_name":=dok λ _ _ _ _ _ _=>wc λ _ _=>rfl
theorem U6:DO 35 d_law_names "_law_names" "_law_names":=dok λ _ _ _ _ _ _=>wc λ _ _=>rfl
theorem Y3:DO 36 d_law_beside "_law_beside" "_law_beside":=dok λ _ _ _ _ _ _=>Za λ _ _ _=>rfl
theorem Vj:DO 37 d_law_call "_law_call" "_law_call":=dok λ _ _ _ _ _ _=>UG λ _ _ _ _=>rfl
theorem U7:DO 38 d_law_grown "_law_grown" "_law_grown":=dok λ _ _ _ _ _ _=>z8i λ _ _ _ _ _=>rfl
theorem Vk:DO 39 d_law_body "_law_body" "_law_body":=dok λ _ _ _ _ _ _=>Za λ _ _ _=>rfl
theorem z3a:DO 40 d_law_go "_law_go" "_law_go":=dok λ _ _ _ _ _ _=>Za λ _ _ _=>rfl
theorem Y4:DO 41 d_law_clause "_law_clause" "_law_clause":=dok λ _ _ _ _ _ _=>Za λ _ _ _=>rfl
theorem JO:DO 42 d_law_handler "_law_handler" "_law_handler":=dok λ _ _ _ _ _ _=>UG λ _ _ _ _=>rfl
theorem z3b:DO 43 d_law_of "_law_of" "_law_of":=dok λ _ _ _ _ _ _=>Za λ _ _ _=>rfl
theorem Vl:DO 44 d_law_many "_law_many" "_law_many":=dok λ _ _ _ _ _ _=>wc λ _ _=>rfl
theorem Vm:DO 45 d_law_item "_law_item" "_law_item":=dok λ _ _ _ _ _ _=>zdv λ _ _ _ _ _ _=>rfl
theorem JP:DO 46 d_law_program "_law_program" "_law_program":=dok λ _ _ _ _ _ _=>wc λ _ _=>rfl
theorem U8:DO 47 d_law_parts "_law_parts" "_law_parts":=dok λ _ _ _ _ _ _=>yB λ _=>rfl
theorem Y5:DO 48 d_law_bodies "_law_bodies" "_law_bodies":=dok λ _ _ _ _ _ _=>yB λ _=>rfl
theorem JQ:DO 49 d_law_answers "_law_answers" "_law_answers":=dok λ _ _ _ _ _ _=>Za λ _ _ _=>rfl
theorem Vn:DO 50 d_law_done "_law_done" "_law_done":=dok λ _ _ _ _ _ _=>yB λ _=>rfl
theorem U9:DO 51 d_law_deeds "_law_deeds" "_law_deeds":=dok λ _ _ _ _ _ _=>yB λ _=>rfl
theorem yN:DO 52 d_law_call_level "_law_call_level" "_law_call_level":=dok λ _ _ _ _ _ _=>UG λ _ _ _ _=>rfl
theorem Ua:DO 53 d_law_level "_law_level" "_law_level":=dok λ _ _ _ _ _ _=>z8i λ _ _ _ _ _=>rfl
theorem yO:DO 54 d_law_item_level "_law_item_level" "_law_item_level":=dok λ _ _ _ _ _ _=>UG λ _ _ _ _=>rfl
theorem B5:DO 55 d_law_fit "_law_fit" "_law_fit":=dok λ _ _ _ _ _ _=>Za λ _ _ _=>rfl
theorem yP:DO 56 d_law_names_told "_law_names_told" "_law_names_told":=dok λ _ _ _ _ _ _=>wc λ _ _=>rfl
theorem Y6:DO 57 d_law_formed "_law_formed" "_law_formed":=dok λ _ _ _ _ _ _=>Za λ _ _ _=>rfl
theorem Y7:DO 58 d_law_levels "_law_levels" "_law_levels":=dok λ _ _ _ _ _ _=>wc λ _ _=>rfl
theorem o_law:DO 59 d_law "law" "law":=dok λ _ _ _ _ _ _=>yB λ _=>rfl
theorem Ub:DefOk ((jn (top 19)).getD 0 (.Pass 138)) d_init_Rest (defs.map (·.name)) zj "__init__" "Rest.__init__":=dok λ _ _ _ _ _ _=>wc λ _ _=>rfl
theorem Y8:DefOk ((jn (top 25)).getD 0 (.Pass 138)) d_init_Found (defs.map (·.name)) zj "__init__" "Found.__init__":=dok λ _ _ _ _ _ _=>wc λ _ _=>rfl
theorem zcx {K:Y01}{x:Str}{st:Stmt}{f:Addr}{fd:FuncData}{d:Df}(e:Fun K x x st f fd)(o:DefOk st d (defs.map (·.name)) zj x x)(hn:decide ((x,Cn.dfl)∈zj)=false):FunD K x x st f fd d.ps (decide ((x,Cn.dfl)∈zj)):=by
 rw [hn];exact e.toD o
def FnK (K:Y01)(x:Str)(i:Nat)(f:Addr)(fd:FuncData):Prop:=PySem.W.nsIn K mainGlobals x=some (some 269)/\Fun K x x (top i) f fd
theorem fnk {K:Y01}{x:Str}{i:Nat}{f:Addr}{oc:Value}{od an:Option Addr}{sl:211}{kV dc pm cd ct:Value}(a:PySem.W.nsIn K mainGlobals x=some (some 269))(l:K.lookup f=some ⟨oc,od,.func (PySem.W.fnOf x x (jk (top i)) (j3 (top i)) (zG (top i)) .none kV dc pm an cd ct),sl⟩)(c:PySem.W.codeIn K cd x=true)(k:PySem.W.keepIn K 269=true):FnK K x i f (PySem.W.fnOf x x (jk (top i)) (j3 (top i)) (zG (top i)) .none kV dc pm an cd ct):=⟨a,Zu (st:=top i) l c k⟩
theorem FnK.row {K:Y01}{x:Str}{i:Nat}{f:Addr}{fd:FuncData}{h:Heap}{mg:XJ}{d:Df} (e:FnK K x i f fd) (X:K.In h) (G:h.Ns mainGlobals mg) (hx:d.name=x) (hb:(d.name==("__debug__":Str))=false) (hn:decide ((d.name,Cn.dfl)∈zj)=false) (o:DefOk (top i) d (defs.map (·.name)) zj x x):(d.name==("__debug__":Str))=false/\∃ st f fd,mg d.name=some 269/\PySem.W.nsIn K mainGlobals d.name=some (some 269)/\FunD K d.name d.name st f fd d.ps (decide ((d.name,Cn.dfl)∈zj))/\DefOk st d (defs.map (·.name)) zj d.name d.name:=by
 subst hx;exact ⟨hb,_,_,_,Y29 X G e.1,e.1,zcx e.2 o hn,o⟩
def NoN (K:Y01):List Str->Prop
 | []=>True
 | x::r=>PySem.W.nsIn K mainGlobals x=some none/\NoN K r
theorem NoN.mem {K:Y01}{x:Str}:∀ {l:XQ},NoN K l->x∈l->PySem.W.nsIn K mainGlobals x=some none
 | [],_,h=>nomatch h
 | _::_,q,h=>(Y08.mp h).elim (λ e=>e▸q.1) (NoN.mem q.2)
def FdN (K:Y01)(c:Addr):List Str->Prop
 | []=>True
 | x::r=>PySem.W.findIn K (.ref c) x=some none/\FdN K c r
theorem FdN.mem {K:Y01}{c:Addr}{x:Str}:∀ {l:XQ},FdN K c l->x∈l->PySem.W.findIn K (.ref c) x=some none
 | [],_,h=>nomatch h
 | _::_,q,h=>(Y08.mp h).elim (λ e=>e▸q.1) (FdN.mem q.2)
open PySem.W in
theorem all_mk {l:PySem.W.OpenLaw}{w:World}{K:Y01}{h:Heap}{mg:XJ}{fa f0 f1 f2 f3 f4 f5 f6 f7 f8 f9 f10 f11 f12 f13 f14 f15 f16 f17 f18 f19 f20 f21 f22 f23 f24 f25 f26 f27 f28 f29 f30 f31 f32 f33 f34 f35 f36 f37 f38 f39 f40 f41 f42 f43 f44 f45 f46 f47 f48 f49 f50:Addr}{d0 d1 d2 d3 d4 d5 d6 d7 d8 d9 d10 d11 d12 d13 d14 d15 d16 d17 d18 d19 d20 d21 d22 d23 d24 d25 d26 d27 d28 d29 d30 d31 d32 d33 d34 d35 d36 d37 d38 d39 d40 d41 d42 d43 d44 d45 d46 d47 d48 d49:FuncData} (X:K.In h) (G:h.Ns mainGlobals mg) (hfa:mg "law"=some (.ref fa))
    (e0:FnK K "parts_of" 2 f0 d0)
    (e1:FnK K "all_within" 3 f1 d1)
    (e2:FnK K "bodies_of" 4 f2 d2)
    (e3:FnK K "own_block" 5 f3 d3)
    (e4:FnK K "deeds_of" 7 f4 d4)
    (e5:FnK K "bits_by_deed" 8 f5 d5)
    (e6:FnK K "row_by" 9 f6 d6)
    (e7:FnK K "told" 10 f7 d7)
    (e8:FnK K "less" 11 f8 d8)
    (e9:FnK K "opened" 13 f9 d9)
    (e10:FnK K "filled" 14 f10 d10)
    (e11:FnK K "joined" 15 f11 d11)
    (e12:FnK K "without" 16 f12 d12)
    (e13:FnK K "within" 17 f13 d13)
    (e14:FnK K "rests_of" 20 f14 d14)
    (e15:FnK K "clause_rows" 21 f15 d15)
    (e16:FnK K "rest_of" 22 f16 d16)
    (e17:FnK K "inner" 23 f17 d17)
    (e18:FnK K "open_rows" 26 f18 d18)
    (e19:FnK K "fits" 27 f19 d19)
    (e20:FnK K "found_rows" 28 f20 d20)
    (e21:FnK K "asked_rows" 29 f21 d21)
    (e22:FnK K "bodies_row" 30 f22 d22)
    (e23:FnK K "use_row" 31 f23 d23)
    (e24:FnK K "_law_cell" 33 f24 d24)
    (e25:FnK K "_law_name" 34 f25 d25)
    (e26:FnK K "_law_names" 35 f26 d26)
    (e27:FnK K "_law_beside" 36 f27 d27)
    (e28:FnK K "_law_call" 37 f28 d28)
    (e29:FnK K "_law_grown" 38 f29 d29)
    (e30:FnK K "_law_body" 39 f30 d30)
    (e31:FnK K "_law_go" 40 f31 d31)
    (e32:FnK K "_law_clause" 41 f32 d32)
    (e33:FnK K "_law_handler" 42 f33 d33)
    (e34:FnK K "_law_of" 43 f34 d34)
    (e35:FnK K "_law_many" 44 f35 d35)
    (e36:FnK K "_law_item" 45 f36 d36)
    (e37:FnK K "_law_program" 46 f37 d37)
    (e38:FnK K "_law_parts" 47 f38 d38)
    (e39:FnK K "_law_bodies" 48 f39 d39)
    (e40:FnK K "_law_answers" 49 f40 d40)
    (e41:FnK K "_law_done" 50 f41 d41)
    (e42:FnK K "_law_deeds" 51 f42 d42)
    (e43:FnK K "_law_call_level" 52 f43 d43)
    (e44:FnK K "_law_level" 53 f44 d44)
    (e45:FnK K "_law_item_level" 54 f45 d45)
    (e46:FnK K "_law_fit" 55 f46 d46)
    (e47:FnK K "_law_names_told" 56 f47 d47)
    (e48:FnK K "_law_formed" 57 f48 d48)
    (e49:FnK K "_law_levels" 58 f49 d49)
    {od an:Option Addr}{sl:211}{oc kV dc pm cd ct:Value} (a:nsIn K mainGlobals "law"=some (some (.ref f50))) (l50:K.lookup f50=some ⟨oc,od,.func (PySem.W.fnOf "law" "law" (jk (top 59)) (j3 (top 59)) (zG (top 59)) .none kV dc pm an cd ct),sl⟩) (c50:codeIn K cd "law"=true) (k50:keepIn K (.ref f50)=true)
    (z:NoN K Q5)
    {gc0:Addr}{es0:Array DictEntry}{ep0:Nat} (ga0:nsIn K mainGlobals "FIRST_PART"=some (some (.ref gc0))) (gl0:K.lookup gc0=some { cls:=.type "dict",data:=.dict es0 ep0 }) (ge0:Qa w K es0.toList g_FIRST_PART)
    {cc0 ci0:Addr}{cod0 can0:Option Addr}{csl0:211}{coc0 ckV0 cdc0 cpm0 ccd0 cct0:Value}
    (ca0:nsIn K mainGlobals "Rest"=some (some (.ref cc0)))
    (cy0:findIn K (.ref cc0) "__init__"=some (some (.ref ci0)))
    (cl0:K.lookup ci0=some ⟨coc0,cod0,.func (PySem.W.fnOf "__init__" "Rest.__init__" (jk ((jn (top 19)).getD 0 (.Pass 138))) (j3 ((jn (top 19)).getD 0 (.Pass 138))) (zG ((jn (top 19)).getD 0 (.Pass 138))) .none ckV0 cdc0 cpm0 can0 ccd0 cct0),csl0⟩)
    (ce0:codeIn K ccd0 "Rest.__init__"=true)
    (ck0:keepIn K (.ref ci0)=true)
    (cm0:makesIn K cc0=true)
    (cf0:isFn K (.ref ci0)=true)
    (cp0:keepIn K (.ref cc0)=true)
    (cg0:plainGet K cc0 Str.empty=true)
    (ch0:hasDictIn K cc0=true)
    (co0:plainOver K cc0=true)
    (cs0:findIn K (.ref cc0) "__setattr__"=some (some (.builtin "object.__setattr__")))
    (cn0:FdN K cc0 jq)
    {cc1 ci1:Addr}{cod1 can1:Option Addr}{csl1:211}{coc1 ckV1 cdc1 cpm1 ccd1 cct1:Value}
    (ca1:nsIn K mainGlobals "Found"=some (some (.ref cc1)))
    (cy1:findIn K (.ref cc1) "__init__"=some (some (.ref ci1)))
    (cl1:K.lookup ci1=some ⟨coc1,cod1,.func (PySem.W.fnOf "__init__" "Found.__init__" (jk ((jn (top 25)).getD 0 (.Pass 138))) (j3 ((jn (top 25)).getD 0 (.Pass 138))) (zG ((jn (top 25)).getD 0 (.Pass 138))) .none ckV1 cdc1 cpm1 can1 ccd1 cct1),csl1⟩)
    (ce1:codeIn K ccd1 "Found.__init__"=true)
    (ck1:keepIn K (.ref ci1)=true)
    (cm1:makesIn K cc1=true)
    (cf1:isFn K (.ref ci1)=true)
    (cp1:keepIn K (.ref cc1)=true)
    (cg1:plainGet K cc1 Str.empty=true)
    (ch1:hasDictIn K cc1=true)
    (co1:plainOver K cc1=true)
    (cs1:findIn K (.ref cc1) "__setattr__"=some (some (.builtin "object.__setattr__")))
    (cn1:FdN K cc1 jq)
   :∃ (cv:160) (fd:FuncData),(∀ (s:153) (v:Value),BindsTo s fd ⟨[v],[]⟩ [("_law_script",v)])/\∀ base:Heap,K.In base->base.Ns mainGlobals mg->FnOk l.prog w K mg base (CXs l.prog w) 90 fa fd ["_law_script"] (z0n K cv (callI defs 45 50)):=by
  have e:=hfa.symm.trans (Y29 X G a);cases e;have T:Tab l.prog w K mg defs zj:=by
    refine ⟨λ x hx=>?_,λ x c hx=>?_,λ i d hd hnc=>?_,λ x i hx=>?_⟩
    · exact PySem.W.mg_none_of X G (z.mem hx)
    · simp only [zj,Y08,Y0t,or_false] at hx;rcases hx with hq | hq | hq
      · cases hq;exact ⟨by decide,_,Y29 X G ga0,z8u gl0 ge0 127⟩
      · cases hq;exact ⟨by decide,_,Y29 X G ca0,146⟩
      · cases hq;exact ⟨by decide,_,Y29 X G ca1,146⟩
    · match i,hd,hnc with
      | 0,hd,_=>cases hd;exact e0.row X G rfl 127 127 Ve
      | 1,hd,_=>cases hd;exact e1.row X G rfl 127 127 QZ
      | 2,hd,_=>cases hd;exact e2.row X G rfl 127 127 U2
      | 3,hd,_=>cases hd;exact e3.row X G rfl 127 127 U4
      | 4,hd,_=>cases hd;exact e4.row X G rfl 127 127 Vf
      | 5,hd,_=>cases hd;exact e5.row X G rfl 127 127 Jw
      | 6,hd,_=>cases hd;exact e6.row X G rfl 127 127 z35
      | 7,hd,_=>cases hd;exact e7.row X G rfl 127 127 zag
      | 8,hd,_=>cases hd;exact e8.row X G rfl 127 127 zah
      | 9,hd,_=>cases hd;exact e9.row X G rfl 127 127 z36
      | 10,hd,_=>cases hd;exact e10.row X G rfl 127 127 z37
      | 11,hd,_=>cases hd;exact e11.row X G rfl 127 127 z38
      | 12,hd,_=>cases hd;exact e12.row X G rfl 127 127 B2
      | 13,hd,_=>cases hd;exact e13.row X G rfl 127 127 z39
      | 14,hd,_=>cases hd;exact e14.row X G rfl 127 127 Vg
      | 15,hd,_=>cases hd;exact e15.row X G rfl 127 127 JN
      | 16,hd,_=>cases hd;exact e16.row X G rfl 127 127 B3
      | 17,hd,_=>cases hd;exact e17.row X G rfl 127 127 z67
      | 18,hd,_=>cases hd;exact e18.row X G rfl 127 127 U5
      | 19,hd,_=>cases hd;exact e19.row X G rfl 127 127 zai
      | 20,hd,_=>cases hd;exact e20.row X G rfl 127 127 Y0
      | 21,hd,_=>cases hd;exact e21.row X G rfl 127 127 Y1
      | 22,hd,_=>cases hd;exact e22.row X G rfl 127 127 Y2
      | 23,hd,_=>cases hd;exact e23.row X G rfl 127 127 B4
      | 24,hd,_=>cases hd;exact e24.row X G rfl 127 127 Vh
      | 25,hd,_=>cases hd;exact e25.row X G rfl 127 127 Vi
      | 26,hd,_=>cases hd;exact e26.row X G rfl 127 127 U6
      | 27,hd,_=>cases hd;exact e27.row X G rfl 127 127 Y3
      | 28,hd,_=>cases hd;exact e28.row X G rfl 127 127 Vj
      | 29,hd,_=>cases hd;exact e29.row X G rfl 127 127 U7
      | 30,hd,_=>cases hd;exact e30.row X G rfl 127 127 Vk
      | 31,hd,_=>cases hd;exact e31.row X G rfl 127 127 z3a
      | 32,hd,_=>cases hd;exact e32.row X G rfl 127 127 Y4
      | 33,hd,_=>cases hd;exact e33.row X G rfl 127 127 JO
      | 34,hd,_=>cases hd;exact e34.row X G rfl 127 127 z3b
      | 35,hd,_=>cases hd;exact e35.row X G rfl 127 127 Vl
      | 36,hd,_=>cases hd;exact e36.row X G rfl 127 127 Vm
      | 37,hd,_=>cases hd;exact e37.row X G rfl 127 127 JP
      | 38,hd,_=>cases hd;exact e38.row X G rfl 127 127 U8
      | 39,hd,_=>cases hd;exact e39.row X G rfl 127 127 Y5
      | 40,hd,_=>cases hd;exact e40.row X G rfl 127 127 JQ
      | 41,hd,_=>cases hd;exact e41.row X G rfl 127 127 Vn
      | 42,hd,_=>cases hd;exact e42.row X G rfl 127 127 U9
      | 43,hd,_=>cases hd;exact e43.row X G rfl 127 127 yN
      | 44,hd,_=>cases hd;exact e44.row X G rfl 127 127 Ua
      | 45,hd,_=>cases hd;exact e45.row X G rfl 127 127 yO
      | 46,hd,_=>cases hd;exact e46.row X G rfl 127 127 B5
      | 47,hd,_=>cases hd;exact e47.row X G rfl 127 127 yP
      | 48,hd,_=>cases hd;exact e48.row X G rfl 127 127 Y6
      | 49,hd,_=>cases hd;exact e49.row X G rfl 127 127 Y7
      | 50,hd,_=>cases hd;exact ⟨by decide,_,_,_,Y29 X G a,a,zcx (Zu (st:=top 59) l50 c50 k50) o_law 127,o_law⟩
      | 51,hd,hnc=>exact absurd hnc 127
      | 52,hd,hnc=>exact absurd hnc 127
      | n+53,hd,_=>exact absurd hd (by simp [defs])
    · simp only [zj,Y08,Y0t,or_false] at hx;rcases hx with hq | hq | hq
      · cases hq
      · cases hq;refine ⟨by decide,d_init_Rest,(jn (top 19)).getD 0 (.Pass 138),cc0,ci0,_,"__init__","Rest.__init__",rfl,Y29 X G ca0,⟨cm0,cy0,cf0,cp0⟩,⟨ca0,⟨cg0,ch0,co0,cs0⟩,λ f hf=>cn0.mem hf⟩,Zu (st:=(jn (top 19)).getD 0 (.Pass 138)) cl0 ce0 ck0,Ub⟩
      · cases hq;refine ⟨by decide,d_init_Found,(jn (top 25)).getD 0 (.Pass 138),cc1,ci1,_,"__init__","Found.__init__",rfl,Y29 X G ca1,⟨cm1,cy1,cf1,cp1⟩,⟨ca1,⟨cg1,ch1,co1,cs1⟩,λ f hf=>cn1.mem hf⟩,Zu (st:=(jn (top 25)).getD 0 (.Pass 138)) cl1 ce1 ck1,Y8⟩
  refine ⟨λ _=>.none,PySem.W.fnOf "law" "law" (jk (top 59)) (j3 (top 59)) (zG (top 59)) .none kV dc pm an cd ct,λ s v=>.of_eq rfl,λ base _ _=>?_⟩;exact UQ T (z8t 127) 45 50 d_law _ _ (top 59) _ _ _ rfl ((Zu (st:=top 59) l50 c50 k50).toD o_law) o_law
end K32
end
namespace PySem.W.Fast
def tw17282756476118376634:=()
def tw2304348620082980886:=()
def tw17554170849686996531:=()
def tw2903882255778086843:=()
def tw8050254881271805527:=()
def tw2437017957164238865:=()
def tw14561682528687197043:=()
def tw7104308757940919990:=()
def tw17952822854062159244:=()
def tw16121573710589004733:=()
def tw11277139114634200855:=()
def tw16112637964991061993:=()
def tw665101336039006346:=()
def tw16016754452997876207:=()
def tw15801679924462653035:=()
def tw13553394222556033337:=()
def tw11363917815806291377:=()
def tw2065131630304393942:=()
def tw3907674999507445949:=()
def tw6722729626061931758:=()
def tw12302612386465287817:=()
def tw11266530640535739489:=()
def tw16519797653996932962:=()
def tw971316470286689535:=()
def tw12719912575820831735:=()
def tw8570724601591504805:=()
def tw15580651023802790070:=()
def tw6192516308753353027:=()
def tw9296557640969112715:=()
def tw5243927581688232194:=()
def tw10318226769778764866:=()
def tw110786469582879982:=()
def tw983140497461593463:=()
def tw4559613065910946113:=()
def tw15665340639569680363:=()
def tw18033178988662247497:=()
def tw15588541273896667556:=()
def tw3666740196679828894:=()
def tw7637211967933694730:=()
def tw39840828676323546:=()
def tw6680427385383728155:=()
def tw5368738356099507909:=()
def tw8212969326114551801:=()
def tw8135727059414111107:=()
def tw9874179835424430230:=()
def tw13712894556954850691:=()
def tw15961309419229701654:=()
def tw13325618551924080733:=()
def tw11411547938634575839:=()
def tw14835634590664542118:=()
def tw14887246285652482713:=()
def tw5800537173940037826:=()
def tw1072442586428650652:=()
def tw7554218835555551107:=()
def tw17901243056930156100:=()
def tw18396206027634525546:=()
def tw11080098938582633264:=()
def tw3506694056306714064:=()
def tw6599705550096953307:=()
def tw6594577363370782122:=()
def tw1869253571960754340:=()
def tw11608861766939309011:=()
def tw626797234693092759:=()
def tw13194136099425725186:=()
def tw16945196151276745084:=()
def tw12778350383327485748:=()
def tw11958289707653907995:=()
def tw8345803827998175074:=()
def tw8551537429588819841:=()
def tw3826580945089814522:=()
def tw2303098329754883118:=()
def tw12023506010415099442:=()
def tw12544540044184724828:=()
def tw14828379404509647549:=()
def tw10880037736736818643:=()
def tw535912771535067575:=()
def tw5503259760340504008:=()
def tw6428171069189539990:=()
def tw1806834132743609423:=()
def tw16319701428295834752:=()
def tw848382592697613346:=()
def tw4700383077378559816:=()
def tw4893925459362813058:=()
def tw17711306647083397676:=()
def tw11302796675610864464:=()
def tw9376066688988988583:=()
def tw15093427591508046103:=()
def tw6715434575817732292:=()
def tw9096578063975654946:=()
def tw14115681754867605505:=()
def tw12365757323311150607:=()
def tw5855625039275816423:=()
def tw7808912452243234447:=()
def tw17074857232364374651:=()
def tw10666031341118943495:=()
def tw4756940797062223068:=()
def tw14242674162124974784:=()
def tw9527335659950754682:=()
def tw9372970421236267980:=()
def tw12769099781335257123:=()
def tw9503586337487184418:=()
def tw1053367453244172135:=()
def tw646333216005567175:=()
def tw2893658590271338268:=()
def tw13739554416436238337:=()
def tw4761150740083981589:=()
def tw14969826022643751680:=()
def tw7454672394849201107:=()
def tw7121146559098807229:=()
def tw12111378543503685208:=()
def tw13191705780946634652:=()
def tw11236656171137466493:=()
def tw953896083873104488:=()
def tw6344669051990342448:=()
def tw1124126831931120350:=()
def tw10736552646964061177:=()
def tw9410733939663886645:=()
def tw6724648040624196882:=()
def tw1746577434351047870:=()
def tw3243698581661120578:=()
def tw742105450949806300:=()
def tw16499830474870152122:=()
def tw7633167657056390533:=()
def tw3538242306452615930:=()
def tw407836326534608101:=()
def tw10314169562200730912:=()
def tw18169898115937853991:=()
def tw13997498245660530584:=()
def tw17541649451788403315:=()
def tw2322042660662999547:=()
def tw2072574320949211058:=()
def tw11969244823403809884:=()
def tw16322849783290399549:=()
def tw4151968544191507403:=()
def tw6748250286316418446:=()
def tw1335711784080142739:=()
def tw11351558615559597439:=()
def tw2072020773345134369:=()
def tw17310862718904176921:=()
def tw11210381004983102220:=()
def tw3298079226508624745:=()
def tw11090311921414751392:=()
def tw816457527265003779:=()
def tw18246422116816847467:=()
def tw3327281479028307676:=()
def tw16594787699577943786:=()
def tw10247990105935858438:=()
def tw5073702354282808797:=()
def tw9105394348379406563:=()
def tw11726122549814370646:=()
def tw7856875366046608465:=()
def tw8578304386230497949:=()
def tw4249900102373254607:=()
def tw10671919199283054116:=()
def tw16345663764096664879:=()
def tw668884623596213430:=()
def tw9410243513998193435:=()
def tw9381025339231296500:=()
end PySem.W.Fast
open PySem PySem.W
set_option maxRecDepth 100000 in
set_option maxHeartbeats 0 in
theorem PySem.Challenge.cw_deedwright_k32_the_found_table_fits_holds : PySem.Challenge.rw_deedwright_k32_the_found_table_fits.Holds := by
 w_on;o_law;k_head;(case hw=>w_witness2)
 k_fill
 refine PI.walk_ofB (l:=PySem.Challenge.rw_deedwright_k32_the_found_table_fits) (k:=90) (c:=PI.callI K32.defs 45 50) (x:="_law_script") rfl rfl ⟨rfl,by decide,by decide⟩ (λ w h Y=>PySem.W.kIn_of Y) ?F ?S
 case F =>
  intro w mg fa h KX G hmg;refine' K32.all_mk (l:=PySem.Challenge.rw_deedwright_k32_the_found_table_fits) (w:=w) KX G hmg (K32.fnk ?a0 ?l0 ?c0 ?k0) (K32.fnk ?a1 ?l1 ?c1 ?k1) (K32.fnk ?a2 ?l2 ?c2 ?k2) (K32.fnk ?a3 ?l3 ?c3 ?k3) (K32.fnk ?a4 ?l4 ?c4 ?k4) (K32.fnk ?a5 ?l5 ?c5 ?k5) (K32.fnk ?a6 ?l6 ?c6 ?k6) (K32.fnk ?a7 ?l7 ?c7 ?k7) (K32.fnk ?a8 ?l8 ?c8 ?k8) (K32.fnk ?a9 ?l9 ?c9 ?k9) (K32.fnk ?a10 ?l10 ?c10 ?k10) (K32.fnk ?a11 ?l11 ?c11 ?k11) (K32.fnk ?a12 ?l12 ?c12 ?k12) (K32.fnk ?a13 ?l13 ?c13 ?k13) (K32.fnk ?a14 ?l14 ?c14 ?k14) (K32.fnk ?a15 ?l15 ?c15 ?k15) (K32.fnk ?a16 ?l16 ?c16 ?k16) (K32.fnk ?a17 ?l17 ?c17 ?k17) (K32.fnk ?a18 ?l18 ?c18 ?k18) (K32.fnk ?a19 ?l19 ?c19 ?k19) (K32.fnk ?a20 ?l20 ?c20 ?k20) (K32.fnk ?a21 ?l21 ?c21 ?k21) (K32.fnk ?a22 ?l22 ?c22 ?k22) (K32.fnk ?a23 ?l23 ?c23 ?k23) (K32.fnk ?a24 ?l24 ?c24 ?k24) (K32.fnk ?a25 ?l25 ?c25 ?k25) (K32.fnk ?a26 ?l26 ?c26 ?k26) (K32.fnk ?a27 ?l27 ?c27 ?k27) (K32.fnk ?a28 ?l28 ?c28 ?k28) (K32.fnk ?a29 ?l29 ?c29 ?k29) (K32.fnk ?a30 ?l30 ?c30 ?k30) (K32.fnk ?a31 ?l31 ?c31 ?k31) (K32.fnk ?a32 ?l32 ?c32 ?k32) (K32.fnk ?a33 ?l33 ?c33 ?k33) (K32.fnk ?a34 ?l34 ?c34 ?k34) (K32.fnk ?a35 ?l35 ?c35 ?k35) (K32.fnk ?a36 ?l36 ?c36 ?k36) (K32.fnk ?a37 ?l37 ?c37 ?k37) (K32.fnk ?a38 ?l38 ?c38 ?k38) (K32.fnk ?a39 ?l39 ?c39 ?k39) (K32.fnk ?a40 ?l40 ?c40 ?k40) (K32.fnk ?a41 ?l41 ?c41 ?k41) (K32.fnk ?a42 ?l42 ?c42 ?k42) (K32.fnk ?a43 ?l43 ?c43 ?k43) (K32.fnk ?a44 ?l44 ?c44 ?k44) (K32.fnk ?a45 ?l45 ?c45 ?k45) (K32.fnk ?a46 ?l46 ?c46 ?k46) (K32.fnk ?a47 ?l47 ?c47 ?k47) (K32.fnk ?a48 ?l48 ?c48 ?k48) (K32.fnk ?a49 ?l49 ?c49 ?k49) ?a50 ?l50 ?c50 ?k50 ⟨?_,?_,?_,?_,?_,?_,?_,?_,?_,?_,?_,?_,?_,?_,?_,?_,?_,?_,?_,?_,?_,⟨⟩⟩ ?ga0 ?gl0 ?ge0 ?ca0 ?cy0 ?cl0 ?ce0 ?ck0 ?cm0 ?cf0 ?cp0 ?cg0 ?ch0 ?co0 ?cs0 ⟨?_,?_,?_,?_,?_,?_,?_,?_,?_,?_,?_,?_,?_,?_,?_,?_,?_,?_,?_,?_,?_,?_,⟨⟩⟩ ?ca1 ?cy1 ?cl1 ?ce1 ?ck1 ?cm1 ?cf1 ?cp1 ?cg1 ?ch1 ?co1 ?cs1 ⟨?_,?_,?_,?_,?_,?_,?_,?_,?_,?_,?_,?_,?_,?_,?_,?_,?_,?_,?_,?_,?_,?_,⟨⟩⟩
  all_goals try k_is
  (case ge0=>(refine ⟨⟨rfl,146,?hx⟩,?hr⟩;(case hx=>exact 146);(case hr=>(refine ⟨⟨rfl,146,?hx⟩,?hr⟩;(case hx=>exact 146);(case hr=>(refine ⟨⟨rfl,146,?hx⟩,?hr⟩;(case hx=>exact 146);(case hr=>(refine ⟨⟨rfl,146,?hx⟩,?hr⟩;(case hx=>exact 146);(case hr=>(refine ⟨⟨rfl,146,?hx⟩,?hr⟩;(case hx=>exact 146);(case hr=>(refine ⟨⟨rfl,146,?hx⟩,?hr⟩;(case hx=>exact 146);(case hr=>(refine ⟨⟨rfl,146,?hx⟩,?hr⟩;(case hx=>exact 146);(case hr=>(refine ⟨⟨rfl,146,?hx⟩,?hr⟩;(case hx=>exact 146);(case hr=>(refine ⟨⟨rfl,146,?hx⟩,?hr⟩;(case hx=>exact 146);(case hr=>exact trivial)))))))))))))))))))
 case S =>
  exact λ ns _ hb=>K32.law_true ns λ n hn=>decide_eq_true (hb n hn)
#print axioms PySem.Challenge.cw_deedwright_k32_the_found_table_fits_holds
