import PyProof.Rows.All
import PySem.Challenge.RW_curvehouse_k51_no_curves_texts
import Wide.All
import OpenK.AllK
import Wide.FinOn
import Lean
import PyProof.EqAt
import PyProof.EqKinds
import PyProof.TupleCall
set_option Elab.async false
set_option linter.all false
set_option maxRecDepth 100000
local macro_rules|`(())=>`(by omega)
local macro_rules|`(∅)=>`(by decide)
local macro_rules|`(⋯)=>`(by grind)
section
open PySem
abbrev qAa:=@List.length_map
abbrev qAb:=@List.getElem?_eq_getElem
abbrev qAc:=@List.mem_cons_of_mem
abbrev qAd:=@List.length_append
abbrev qAe:=@List.mem_cons_self
abbrev qAf:=@Bool.false_ne_true
abbrev qAg:=@List.mem_cons
abbrev qAh:=@Heap.lt_size
abbrev qAi:=@List.getElem?_eq_some_iff
abbrev qAj:=@Nat.le_refl
abbrev qAk:=@Nat.lt_of_lt_of_le
abbrev qAl:=@List.length_cons
abbrev qAm:=@Heap.get?_push_of_some
abbrev qAn:=@Option.some.inj
abbrev qAo:=@List.getElem?_map
abbrev qAp:=@List.mem_append_right
abbrev qAq:=@List.mem_append
abbrev qAr:=@Nat.le_trans
abbrev qAs:=@List.all_eq_true
abbrev qAt:=@List.size_toArray
abbrev qAu:=@Nat.ne_of_lt
abbrev qAv:=@List.length_drop
abbrev qAw:=@List.mem_of_getElem?
abbrev qAx:=@List.mem_singleton
abbrev qAy:=@List.getElem?_append_right
abbrev qAz:=@List.length_take
abbrev qAA:=@List.drop_eq_nil_of_le
abbrev qAB:=@List.getD_eq_getElem?_getD
abbrev qAC:=@List.getElem?_append_left
abbrev qAD:=@PySem.W.kia_one
abbrev qAE:=@List.map_append
abbrev qAF:=@Nat.lt_irrefl
abbrev qAG:=@List.eq_nil_of_length_eq_zero
abbrev qAH:=@Heap.get?_push_size
abbrev qAI:=@List.append_assoc
abbrev qAJ:=@Nat.lt_trans
abbrev qAK:=@Heap.get?_update_self
abbrev qAL:=@PySem.W.mg_of
abbrev qAM:=@Int.eq_ofNat_of_zero_le
abbrev qAN:=@Bool.and_eq_true
abbrev qAO:=@PySem.W.mg_none_of
abbrev qAP:=@List.mem_append_left
abbrev qAQ:=@List.drop_eq_getElem_cons
abbrev qAR:=@List.mem_of_mem_drop
abbrev qAS:=@Rat.divInt_eq_div
abbrev qAT:=@Rat.intCast_mul
abbrev qAU:=@Heap.get?_update_ne
abbrev qAV:=@List.lookup_cons
abbrev qAW:=@PyProof.Rows.boot_str
abbrev qAX:=@List.getElem?_zip_eq_some
abbrev qAY:=@List.getElem?_eq_none_iff
abbrev qAZ:=@List.append_nil
abbrev qA0:=@List.take_add_one
abbrev qA1:=@List.map_cons
abbrev qA2:=@PySem.W.looks_mroIn
abbrev qA3:=@List.getElem_mem
abbrev qA4:=@PySem.F.plainAttrs_str
abbrev qA5:=@PySem.W.of_hideAll
abbrev qA6:=@Nat.le_of_lt
abbrev qA7:=@Int.natAbs_natCast
abbrev qA8:=@List.map_map
abbrev qA9:=@List.mem_map
abbrev qBa:=@Bool.eq_iff_iff
abbrev qBb:=@Nat.le_of_ble_eq_true
abbrev qBc:=@List.mem_of_mem_take
abbrev qBd:=@Nat.zero_le
abbrev qBe:=@List.mem_filterMap
abbrev qBf:=@Bool.false_eq_true
abbrev qBg:=@List.getElem?_set_self
abbrev qBh:=@Heap.get?_update_other
abbrev qBi:=@Int.fmod_nonneg_of_pos
abbrev qBj:=@List.take_of_length_le
abbrev qBk:=@PySem.W.kitx_list
abbrev qBl:=@List.length_singleton
abbrev qBm:=@List.dropLast_concat_getLast
abbrev qBn:=@PyProof.Rows.callWith_type1
abbrev qBo:=@List.getElem?_set_ne
abbrev qBp:=@Nat.mul_le_mul_right
abbrev qBq:=@Int.fdiv_eq_ediv_of_nonneg
abbrev qBr:=@PySem.F.excBase_ValueError
abbrev qBs:=@PySem.W.hideAll_get
abbrev qBt:=@List.filterMap_cons
abbrev qBu:=@List.map_congr_left
abbrev qBv:=@List.forIn_cons
abbrev qBw:=@Option.isSome_iff_exists
abbrev qBx:=@Int.fmod_lt_of_pos
abbrev qBy:=@PySem.F.slot_list_append
abbrev qBz:=@PySem.F.type_list_append
abbrev qBA:=@List.mem_range
abbrev qBB:=@List.drop_zero
abbrev qBC:=@List.getElem?_replicate
abbrev qBD:=@PySem.F.plainAttrs_list
abbrev qBE:=@List.length_range
abbrev qBF:=@List.sum_cons
abbrev qBG:=@List.cons_append
abbrev qBH:=@List.take_length
abbrev qBI:=@List.filterMap_append
abbrev qBJ:=@PyProof.Rows.boot_abs
abbrev qBK:=@PyProof.Rows.slot_tuple_getitem
abbrev qBL:=@PySem.W.hideAll_none
abbrev qBM:=@Nat.ne_of_gt
abbrev qBN:=@List.nodup_cons
abbrev qBO:=@List.of_mem_zip
abbrev qBP:=@Nat.pow_le_pow_right
abbrev qBQ:=@List.getElem?_of_mem
abbrev qBR:=@PySem.W.looks_findIn
abbrev qBS:=@List.length_nil
abbrev qBT:=@Rat.not_lt
abbrev qBU:=@Int.mul_fdiv_cancel
abbrev qBV:=@List.getElem?_range
abbrev qBW:=@PyProof.Rows.boot_isinstance
abbrev qBX:=@PySem.W.callWith_K
abbrev qBY:=@List.filterMap_map
abbrev qBZ:=@Rat.num_divInt_den
abbrev qB0:=@List.getElem?_drop
abbrev qB1:=@Int.fmod_eq_emod_of_nonneg
abbrev qB2:=@PySem.W.own_of_in
abbrev qB3:=@PySem.F.args_tuple_add_2
abbrev qB4:=@Nat.lt_succ_self
abbrev qB5:=@List.length_filterMap_le
abbrev qB6:=@List.not_mem_nil
abbrev qB7:=@PySem.F.entry_tuple_add
abbrev qB8:=@PyProof.Rows.intBits_le
abbrev qB9:=@Rat.intCast_add
abbrev qCa:=@List.nil_append
abbrev qCb:=@Nat.min_eq_left
abbrev qCc:=@Rat.intCast_inj
abbrev qCd:=@Rat.zero_divInt
abbrev qCe:=@Nat.not_lt_zero
abbrev qCf:=@Option.map_eq_some_iff
abbrev qCg:=@Int.mul_one
abbrev qCh:=@PySem.W.cellsFrom_some
abbrev qCi:=@PySem.F.slot_tuple_add
abbrev qCj:=@Nat.le_succ
abbrev qCk:=@PySem.W.funFrames_hide
abbrev qCl:=@List.length_replicate
abbrev qCm:=@List.filterMap_eq_map
abbrev qCn:=@Rat.num_nonneg
abbrev qCo:=@PyProof.Rows.boot_int
abbrev qCp:=@Bool.and_true
abbrev qCq:=@Nat.pow_succ
abbrev qCr:=@Nat.add_comm
abbrev qCs:=@Rat.le_of_lt
end
namespace L2
open PySem
def C6 (s:Stmt):Arguments:=match s with
 |.FunctionDef _ a _ _ _ _ _ _ _ _=>a
 |_=>{ posonlyargs:=[],args:=[],vararg:=none,kwonlyargs:=[],kw_defaults:=[],kwarg:=none,defaults:=[] }
def Bf (s:Stmt):List Stmt:=match s with
 |.FunctionDef _ _ b _ _ _ _ _ _ _=>b
 |_=>[]
def Ab (s:Stmt):Scope:=match s with
 |.FunctionDef _ _ _ _ _ _ sc _ _ _=>sc
 |_=>{ kind:=.function,names:=[],isGenerator:=false,isCoroutine:=false }
end L2
namespace L3
open PySem L2
abbrev rA (K:PySem.W.Frag)(n:Str)(f:Addr):Prop:=PySem.W.nsIn K mainGlobals n=some (some (.ref f))
abbrev rL (K:PySem.W.Frag)(f:Addr)(n:Str)(st:Stmt)(oc:Value)(od:Option Addr)(kV dc pm:Value)(an:Option Addr)(cd ct:Value)(sl:Array (Option Value)):Prop:=K.lookup f=some ⟨oc,od,.func (PySem.W.fnOf n n (C6 st) (Bf st) (Ab st) .none kV dc pm an cd ct),sl⟩
abbrev rC (K:PySem.W.Frag)(cd:Value)(n:Str):Prop:=PySem.W.codeIn K cd n=true
abbrev rK (K:PySem.W.Frag)(f:Addr):Prop:=PySem.W.keepIn K (.ref f)=true
inductive Rw (K:PySem.W.Frag)(n:Str)(st:Stmt):Prop
 |mk {f:Addr}{oc:Value}{od:Option Addr}{kV dc pm:Value}{an:Option Addr}{cd ct:Value}{sl:Array (Option Value)}(a:rA K n f) (l:rL K f n st oc od kV dc pm an cd ct sl) (c:rC K cd n) (k:rK K f)
end L3
namespace CL
open PySem L2 L3
def top (i:Nat):Stmt:=PySem.Challenge.pw_curvehouse_k51_no_curves_texts.main.body.getD i (.Pass ⟨0,0,0,0⟩)
abbrev Dx:Stmt:=top 12
abbrev D9:Stmt:=top 13
abbrev Gm:Stmt:=top 16
abbrev Gj:Stmt:=top 17
abbrev Ip:Stmt:=top 18
abbrev Gy:Stmt:=top 19
abbrev GH:Stmt:=top 21
abbrev B1:Stmt:=top 22
abbrev Cu:Stmt:=top 23
abbrev Bz:Stmt:=top 24
abbrev A0:Stmt:=top 25
abbrev CG:Stmt:=top 29
abbrev CF:Stmt:=top 30
abbrev BL:Stmt:=top 31
abbrev BJ:Stmt:=top 32
abbrev B6:Stmt:=top 33
abbrev C4:Stmt:=top 34
abbrev BP:Stmt:=top 36
abbrev BY:Stmt:=top 37
abbrev Cn:Stmt:=top 38
abbrev AA:Stmt:=top 40
abbrev BA:Stmt:=top 41
abbrev C3:Stmt:=top 42
abbrev An:Stmt:=top 43
abbrev AO:Stmt:=top 44
abbrev BN:Stmt:=top 45
abbrev Ga:Stmt:=top 46
inductive Facts (l:PySem.W.OpenLaw)(K:PySem.W.Frag):Prop
 |mk {kV dc pm cd ct oc:Value}{od an:Option Addr}{sl:Array (Option Value)}{fL K_CurveError K_NoRatio K_NoCurve K_NoTime K_NoHouse K_NoWay K_NoText K_NoName K_NoEnd K_NoRow:Addr}{gt_NOUGHT_0:Tok}{gt_NOUGHT_1:Tok}{ga_NOUGHT_2:Addr}{gd_NOUGHT_3:Option Addr}{gn_NOUGHT_3:Nat}{gs_NOUGHT_3:Array (Option Value)}{gt_FIGURES_6:Tok}{gt_MOST_FIGURES_7:Tok}
  (r0:Rw K "is_whole" Dx)
  (r1:Rw K "divisor" D9)
  (r2:Rw K "ratio" Gm)
  (r3:Rw K "minus" Gj)
  (r4:Rw K "over" Ip)
  (r5:Rw K "under" Gy)
  (r6:Rw K "check_begin" B1)
  (r7:Rw K "check_rise" Cu)
  (r8:Rw K "slope_between" Bz)
  (r9:Rw K "slopes_behind" A0)
  (r10:Rw K "curve" GH)
  (r11:Rw K "check_text" CF)
  (r12:Rw K "read_figures" BL)
  (r13:Rw K "read_ratio" CG)
  (r14:Rw K "read_last" C4)
  (r15:Rw K "read_corner" B6)
  (r16:Rw K "read_curve" BJ)
  (r17:Rw K "_law_cell_at" BP)
  (r18:Rw K "_law_lowest" BY)
  (r19:Rw K "_law_shown" Cn)
  (r20:Rw K "_law_shown_corners" AA)
  (r21:Rw K "_law_curve_by" BA)
  (r22:Rw K "_law_more" C3)
  (r23:Rw K "_law_corners_spoiled" An)
  (r24:Rw K "_law_text_spoiled" AO)
  (r25:Rw K "_law_refused" BN)
  (aL:rA K "law" fL) (lL:rL K fL "law" Ga oc od kV dc pm an cd ct sl) (cL:rC K cd "law") (kL:rK K fL)
  (z0:PySem.W.nsIn K mainGlobals "isinstance"=some none)
  (z1:PySem.W.nsIn K mainGlobals "int"=some none)
  (z2:PySem.W.nsIn K mainGlobals "bool"=some none)
  (z3:PySem.W.nsIn K mainGlobals "abs"=some none)
  (z4:PySem.W.nsIn K mainGlobals "len"=some none)
  (z5:PySem.W.nsIn K mainGlobals "range"=some none)
  (z6:PySem.W.nsIn K mainGlobals "tuple"=some none)
  (z7:PySem.W.nsIn K mainGlobals "str"=some none)
  (z8:PySem.W.nsIn K mainGlobals "ValueError"=some none)
  (n_CurveError:rA K "CurveError" K_CurveError)
  (n_NoRatio:rA K "NoRatio" K_NoRatio)
  (n_NoCurve:rA K "NoCurve" K_NoCurve)
  (n_NoTime:rA K "NoTime" K_NoTime)
  (n_NoHouse:rA K "NoHouse" K_NoHouse)
  (n_NoWay:rA K "NoWay" K_NoWay)
  (n_NoText:rA K "NoText" K_NoText)
  (n_NoName:rA K "NoName" K_NoName)
  (n_NoEnd:rA K "NoEnd" K_NoEnd)
  (n_NoRow:rA K "NoRow" K_NoRow)
  (n_NOUGHT:PySem.W.nsIn K mainGlobals "NOUGHT"=some (some (.ref ga_NOUGHT_2)))
  (n_gl_NOUGHT_6:K.lookup ga_NOUGHT_2=some ⟨.type "tuple",gd_NOUGHT_3,.seq #[(.int 0 gt_NOUGHT_0),(.int 1 gt_NOUGHT_1)] gn_NOUGHT_3,gs_NOUGHT_3⟩)
  (x_NoCurve:PySem.W.excIn K K_NoCurve [.type "ValueError",.type "Exception",.type "BaseException",.type "object"] "ValueError.__new__"=true)
  (x_NoText:PySem.W.excIn K K_NoText [.type "ValueError",.type "Exception",.type "BaseException",.type "object"] "ValueError.__new__"=true)
  (n_FIGURES:PySem.W.nsIn K mainGlobals "FIGURES"=some (some (.str "0123456789" gt_FIGURES_6)))
  (n_MOST_FIGURES:PySem.W.nsIn K mainGlobals "MOST_FIGURES"=some (some (.int 60 gt_MOST_FIGURES_7)))
  (h0_NoCurve:PySem.W.instIn K (.ref K_NoCurve) (.type "tuple")=some false)
  (h1_NoCurve:(PySem.W.clsIn K K_NoCurve).isSome=true)
  (h2_NoCurve:PySem.W.mroIn K K_NoCurve (.type "BaseException")=some true)
  (mr_NoCurve_NoCurve:PySem.W.mroIn K K_NoCurve (.ref K_NoCurve)=some true)
  (kp_NoText:PySem.W.keepIn K (.ref K_NoText)=true)
  (h0_NoText:PySem.W.instIn K (.ref K_NoText) (.type "tuple")=some false)
  (h1_NoText:(PySem.W.clsIn K K_NoText).isSome=true)
  (h2_NoText:PySem.W.mroIn K K_NoText (.type "BaseException")=some true)
  (h0_CurveError:PySem.W.instIn K (.ref K_CurveError) (.type "tuple")=some false)
  (h1_CurveError:(PySem.W.clsIn K K_CurveError).isSome=true)
  (h2_CurveError:PySem.W.mroIn K K_CurveError (.type "BaseException")=some true)
  (mr_NoText_CurveError:PySem.W.mroIn K K_NoText (.ref K_CurveError)=some true)
  (kT_NoText_ValueError:PySem.W.kitOne K (.ref K_NoText) (.type "ValueError")=some true)
  (i0_NoText:PySem.W.findIn K (.ref K_NoText) "__getattribute__"=some (some (.builtin "BaseException.__getattribute__")))
  (i1_NoText:PySem.W.findIn K (.ref K_NoText) "__getattr__"=some none)
  (i2_NoText:(PySem.W.clsIn K K_NoText).isSome=true)
  (i3_NoText:PySem.W.findIn K (.ref K_NoText) "__class__"=some (some (.builtin "object.__class__")))
  (i4_NoText:PySem.W.specialIn K (.builtin "object.__class__") "__get__"=some (some (.builtin "getset_descriptor.__get__")))
  (i5_NoText:PySem.W.takesIn K (.builtin "object.__class__")=some true)
  (i6_NoText:PySem.W.mroIn K K_NoText (.type "object")=some true)
  (i7_NoText:PySem.W.mroIn K K_NoText (.type "BaseException")=some true)
  (kt_NoText_NoText:PySem.W.kitOne K (.ref K_NoText) (.ref K_NoText)=some true)
  (kt_NoText_NoWay:PySem.W.kitOne K (.ref K_NoText) (.ref K_NoWay)=some false)
  (kt_NoText_NoTime:PySem.W.kitOne K (.ref K_NoText) (.ref K_NoTime)=some false)
  (kt_NoText_NoRow:PySem.W.kitOne K (.ref K_NoText) (.ref K_NoRow)=some false)
  (kt_NoText_NoRatio:PySem.W.kitOne K (.ref K_NoText) (.ref K_NoRatio)=some false)
  (kt_NoText_NoName:PySem.W.kitOne K (.ref K_NoText) (.ref K_NoName)=some false)
  (kt_NoText_NoHouse:PySem.W.kitOne K (.ref K_NoText) (.ref K_NoHouse)=some false)
  (kt_NoText_NoEnd:PySem.W.kitOne K (.ref K_NoText) (.ref K_NoEnd)=some false)
  (kt_NoText_NoCurve:PySem.W.kitOne K (.ref K_NoText) (.ref K_NoCurve)=some false)
end CL
section
set_option maxRecDepth 100000
set_option maxHeartbeats 0
open PySem PySem.W PyProof.Rows
noncomputable def CL.qv:Program:={ PySem.Challenge.pw_curvehouse_k51_no_curves_texts with main:={ PySem.Challenge.pw_curvehouse_k51_no_curves_texts.main with body:=[CL.top 1,CL.top 2,CL.top 3,CL.top 4,CL.top 5,CL.top 6,CL.top 7,CL.top 8,CL.top 9,CL.top 10,CL.top 12,CL.top 13,CL.top 15,CL.top 16,CL.top 17,CL.top 18,CL.top 19,CL.top 21,CL.top 22,CL.top 23,CL.top 24,CL.top 25,CL.top 27,CL.top 28,CL.top 29,CL.top 30,CL.top 31,CL.top 32,CL.top 33,CL.top 34,CL.top 36,CL.top 37,CL.top 38,CL.top 39,CL.top 40,CL.top 41,CL.top 42,CL.top 43,CL.top 44,CL.top 45,CL.top 46] } }
def CL.grow:List Obj→Nat→BT→BT
 |[],_,T=>T
 |x::l,i,T=>CL.grow l (i+1) (T.ins i x)
noncomputable def CL.b0 (P:Params):BT:=CL.grow (boot_heap P).objs.toList 0 .nil
theorem CL.b0_abs (P:Params):absHeap (CL.b0 P) 11 (boot_heap P).life=boot_heap P:=by kernel_rfl
theorem CL.b0_sz (P:Params):(boot_heap P).objs.size=11:=by kernel_rfl
theorem CL.b0_ns (P:Params):(boot_heap P).isNs mainGlobals=true:=by kernel_rfl
noncomputable def CL.tT (tb:String→Option Builtin)(p:Program)(w:World)(k:Nat)(an:Option Value):Nat→SharedT→Thread→Option SharedT
 |0,_,_=>none
 |m+1,a,c=>match through c,stepOk k an c with
  |true,_=>some a
  |false,false=>none
  |false,true=>match stepT (denote tb) p w a c with
   |none=>none
   |some (a',c')=>CL.tT tb p w k an m a' c'
theorem CL.tT_of {tb:String→Option Builtin}{p:Program}{w:World}{k:Nat}{an:Option Value}:∀{m:Nat}{a r:SharedT}{c:Thread},CL.tT tb p w k an m a c=some r→topRun tb p w k an m a.abs c=some r.abs
 |0,_,_,_,h=>by cases h
 |m+1,a,r,c,h=>by
  unfold CL.tT at h
  unfold topRun
  cases e1:through c with
  |true=>rw[e1] at h;cases h;rfl
  |false =>
   cases e2:stepOk k an c with
   |false=>rw[e1,e2] at h;cases h
   |true =>
    rw[e1,e2] at h
    dsimp only at h ⊢
    cases e3:stepT (denote tb) p w a c with
    |none=>rw[e3] at h;cases h
    |some x =>
     obtain⟨a',c'⟩:=x
     rw[e3] at h
     rw[stepT_spec e3]
     exact CL.tT_of h
noncomputable def CL.s0 (w:World)(os:OsState):SharedT:=⟨CL.b0 w.params,11,(boot_heap w.params).life,Array.mk [],boot_drawn,boot_toks,os⟩
theorem CL.s0_abs (w:World)(os:OsState):(CL.s0 w os).abs=⟨boot_heap w.params,Array.mk [],boot_drawn,boot_toks,os⟩:=by
 unfold CL.s0 SharedT.abs
 dsimp only
 rw[CL.b0_abs]
noncomputable def CL.an (w:World):Option Value:=(boot_heap w.params).nsMap mainGlobals "__annotations__"
noncomputable def CL.fin (p:Program)(w:World)(N:Nat)(os:OsState):Option SharedT:=CL.tT treeTable p w 11 (CL.an w) N (CL.s0 w os) (topStub p)
noncomputable def CL.ok (p:Program)(w:World)(s:Shared):Bool :=
 staticsOk (importedModules p.main.body) (boot_heap w.params) s.heap&&namesBound p s.heap &&
 gensDone s&&laidKept (boot_heap w.params) s.heap
theorem CL.lo {p q:Program}{Xt:Shared→Bool}{α:Type}{Yf:Shared→α}{Ya:World→α}{N:Nat}
 (o:∀w:World,(fencedOpening treeTable p w N).map (fun s=>(s.heap,s.gens,s.drawn,s.toks))=some (boot_heap w.params,Array.mk [],boot_drawn,boot_toks))
 (a:∀(w:World)(os:OsState),(CL.fin p w N os).map (fun s=>(CL.ok p w s.abs,openSeen q [] (importedModules p.main.body) Xt true s.abs))=some (true,openGood q []))
 (b:∀(w:World)(os:OsState),(CL.fin p w N os).map (fun s=>Yf s.abs)=some (Ya w)):LeftO p q [] Xt Yf Ya N true:=by
 intro w
 obtain⟨s,e,e'⟩:=qCf.mp (o w)
 obtain⟨h,gs,d,k,os⟩:=s
 simp only[Prod.mk.injEq] at e'
 obtain⟨e1,e2,e3,e4⟩:=e'
 subst e1 e2 e3 e4
 obtain⟨s,hs,hv⟩:=qCf.mp (a w os)
 have hb:=b w os
 rw[hs] at hb
 have hy:Yf s.abs=Ya w:=qAn hb
 have r:=CL.tT_of hs
 rw[CL.s0_abs] at r
 obtain⟨v1,v2⟩:=Prod.mk.inj hv
 have t:topFrom treeTable p w N ⟨boot_heap w.params,Array.mk [],boot_drawn,boot_toks,os⟩=some s.abs:=by
  unfold topFrom
  dsimp only
  rw[CL.b0_ns,CL.b0_sz]
  change Option.bind (topRun treeTable p w 11 (CL.an w) N _ _) _=_
  rw[r]
  show(match CL.ok p w s.abs with|true=>some s.abs|false=>none)=some s.abs
  rw[v1]
 unfold openEnds
 rw[e]
 show(topFrom treeTable p w N _).map _=_
 rw[t,←v2,←hy]
 rfl
theorem CL.op (w:World):(fencedOpening treeTable ((OpenLaw.row PySem.Challenge.rw_curvehouse_k51_no_curves_texts).toRowW.prog) w 30100).map (fun s=>(s.heap,s.gens,s.drawn,s.toks))=some (boot_heap w.params,Array.mk [],boot_drawn,boot_toks):=boot_open (by kernel_rfl) (by decide +kernel) (fun s=>by kernel_rfl) w
theorem CL.tri {α β γ δ ε ζ η θ ι:Type}{o:Option α}{f:α→β}{g:α→γ}{h:α→δ}{k:α→ε}{l:α→ζ}{m:α→η}{n:α→θ}{p:α→ι}{b:β}{c:γ}{d:δ}{e:ε}{y:ζ}{u:η}{v:θ}{z:ι}(h1:o.map (fun s=>(f s,g s))=some (b,c)) (h2:o.map (fun s=>(h s,k s))=some (d,e)) (h3:o.map l=some y) (h5:o.map m=some u) (h6:o.map n=some v) (h4:o.map p=some z):o.map (fun s=>(f s,g s,h s,k s,l s,m s,n s,p s))=some (b,c,d,e,y,u,v,z):=by
 cases o with
 |none=>cases h1
 |some x =>
  obtain⟨e1,e2⟩:=Prod.mk.inj (qAn h1)
  obtain⟨e3,e4⟩:=Prod.mk.inj (qAn h2)
  have e5:l x=y:=qAn h3
  have e6:m x=u:=qAn h5
  have e7:n x=v:=qAn h6
  have e8:p x=z:=qAn h4
  show some (f x,g x,h x,k x,l x,m x,n x,p x)=_
  rw[e1,e2,e3,e4,e5,e6,e7,e8]
end
section
open PySem PySem.W PyProof.Rows
local macro_rules|`(tactic| o_head $H)=>`(tactic| (
 refine holds_open (q:=CL.qv) (loose:=[]) (N:=30100)
  (Xt:=(fun s=>xlAt CL.qv [] s&&recOk (RowW.records (OpenRow.toRowW (OpenLaw.row PySem.Challenge.rw_curvehouse_k51_no_curves_texts))) s))
  (XP:=XL CL.qv []) (Yf:=Hook.obs $H) (Ya:=Hook.val $H)
  (YP:=Hook.says $H) ?hl (Hook.of $H) (Hook.keeps $H)
  (fun s e=>xl_of s (Bool.and_eq_true_iff.mp e).1) XL.keeps (by rfl) (by rfl) (by rfl)
  (fun s e=>recFacts_of (Bool.and_eq_true_iff.mp e).2) (by rfl) (by first|assumption|decide +kernel)
  (by decide +kernel) ⟨rfl,rfl,rfl,rfl,rfl,by decide +kernel⟩ ?hw ?hc
 case hl =>
  refine CL.lo CL.op (by assumption) ?_
  intro w os
  kernel_rfl))
set_option maxRecDepth 100000 in
set_option maxHeartbeats 0 in
theorem CL.front (hA:∀(w:World)(os:OsState),(CL.fin ((OpenLaw.row PySem.Challenge.rw_curvehouse_k51_no_curves_texts).toRowW.prog) w 30100 os).map (fun s=>(CL.ok ((OpenLaw.row PySem.Challenge.rw_curvehouse_k51_no_curves_texts).toRowW.prog) w s.abs,openSeen CL.qv [] (importedModules ((OpenLaw.row PySem.Challenge.rw_curvehouse_k51_no_curves_texts).toRowW.prog).main.body) (fun s=>xlAt CL.qv [] s&&recOk (RowW.records (OpenRow.toRowW (OpenLaw.row PySem.Challenge.rw_curvehouse_k51_no_curves_texts))) s) true s.abs))=some (true,openGood CL.qv []))(hF:∀{q:Program}{loose:List Str}{XP:(Str→Option Value)→Heap→Prop}{YP:World→Heap→Prop}{d:DefRec}{K:Params→PySem.W.Frag},d.params.defaults=[]→(∀y:Str,(recsOf PySem.Challenge.rw_curvehouse_k51_no_curves_texts.prog).any (fun d=>d.name==y)=true→(recsOf q).any (fun d=>d.name==y)=true)→(∀(w:World)(h:Heap),YP w h→(K w.params).In h)→(∀w:World,PySem.W.noTabs (K w.params)=true)→d.name="law"→(∀w:World,CL.Facts PySem.Challenge.rw_curvehouse_k51_no_curves_texts (K w.params))→PySem.W.WalkO q loose XP YP PySem.Challenge.rw_curvehouse_k51_no_curves_texts.row.toRowW d [] (fun f vs=>PySem.call f vs)):PySem.Challenge.rw_curvehouse_k51_no_curves_texts.Holds:=by
 w_on;o_law;k_head;(case hw=>w_witness2)
 k_fill
 refine hF rfl (fun _ h=>h) (fun w h Y=>PySem.W.kIn_of Y) (fun w=>?nt) rfl (fun w=>?F)
 case nt=>kernel_rfl
 case F =>
  refine' CL.Facts.mk (.mk ?a0 ?l0 ?c0 ?k0) (.mk ?a1 ?l1 ?c1 ?k1) (.mk ?a2 ?l2 ?c2 ?k2) (.mk ?a3 ?l3 ?c3 ?k3) (.mk ?a4 ?l4 ?c4 ?k4) (.mk ?a5 ?l5 ?c5 ?k5) (.mk ?a6 ?l6 ?c6 ?k6) (.mk ?a7 ?l7 ?c7 ?k7) (.mk ?a8 ?l8 ?c8 ?k8) (.mk ?a9 ?l9 ?c9 ?k9) (.mk ?a10 ?l10 ?c10 ?k10) (.mk ?a11 ?l11 ?c11 ?k11) (.mk ?a12 ?l12 ?c12 ?k12) (.mk ?a13 ?l13 ?c13 ?k13) (.mk ?a14 ?l14 ?c14 ?k14) (.mk ?a15 ?l15 ?c15 ?k15) (.mk ?a16 ?l16 ?c16 ?k16) (.mk ?a17 ?l17 ?c17 ?k17) (.mk ?a18 ?l18 ?c18 ?k18) (.mk ?a19 ?l19 ?c19 ?k19) (.mk ?a20 ?l20 ?c20 ?k20) (.mk ?a21 ?l21 ?c21 ?k21) (.mk ?a22 ?l22 ?c22 ?k22) (.mk ?a23 ?l23 ?c23 ?k23) (.mk ?a24 ?l24 ?c24 ?k24) (.mk ?a25 ?l25 ?c25 ?k25) ?aL ?lL ?cL ?kL ?z0 ?z1 ?z2 ?z3 ?z4 ?z5 ?z6 ?z7 ?z8 ?n_CurveError ?n_NoRatio ?n_NoCurve ?n_NoTime ?n_NoHouse ?n_NoWay ?n_NoText ?n_NoName ?n_NoEnd ?n_NoRow ?n_NOUGHT ?n_gl_NOUGHT_6 ?x_NoCurve ?x_NoText ?n_FIGURES ?n_MOST_FIGURES ?h0_NoCurve ?h1_NoCurve ?h2_NoCurve ?mr_NoCurve_NoCurve ?kp_NoText ?h0_NoText ?h1_NoText ?h2_NoText ?h0_CurveError ?h1_CurveError ?h2_CurveError ?mr_NoText_CurveError ?kT_NoText_ValueError ?i0_NoText ?i1_NoText ?i2_NoText ?i3_NoText ?i4_NoText ?i5_NoText ?i6_NoText ?i7_NoText ?kt_NoText_NoText ?kt_NoText_NoWay ?kt_NoText_NoTime ?kt_NoText_NoRow ?kt_NoText_NoRatio ?kt_NoText_NoName ?kt_NoText_NoHouse ?kt_NoText_NoEnd ?kt_NoText_NoCurve
  case a0|l0|c0|k0|a1|l1|c1|k1|a2|l2|c2|k2|a3|l3|c3|k3|a4|l4|c4|k4|a5|l5|c5|k5|a6|l6|c6|k6|a7|l7|c7|k7|a8|l8|c8|k8|a9|l9|c9|k9|a10|l10|c10|k10|a11|l11|c11|k11|a12|l12|c12|k12|a13|l13|c13|k13|a14|l14|c14|k14|a15|l15|c15|k15|a16|l16|c16|k16|a17|l17|c17|k17|a18|l18|c18|k18|a19|l19|c19|k19|a20|l20|c20|k20|a21|l21|c21|k21|a22|l22|c22|k22|a23|l23|c23|k23|a24|l24|c24|k24|a25|l25|c25|k25|aL|lL|cL|kL|z0|z1|z2|z3|z4|z5|z6|z7|z8|n_CurveError|n_NoRatio|n_NoCurve|n_NoTime|n_NoHouse|n_NoWay|n_NoText|n_NoName|n_NoEnd|n_NoRow|n_NOUGHT|n_gl_NOUGHT_6|n_FIGURES|n_MOST_FIGURES=>(show _=_;k_is)
  case x_NoCurve|x_NoText|h0_NoCurve|h1_NoCurve|h2_NoCurve|mr_NoCurve_NoCurve|kp_NoText|h0_NoText|h1_NoText|h2_NoText|h0_CurveError|h1_CurveError|h2_CurveError|mr_NoText_CurveError|kT_NoText_ValueError|i0_NoText|i1_NoText|i2_NoText|i3_NoText|i4_NoText|i5_NoText|i6_NoText|i7_NoText|kt_NoText_NoText|kt_NoText_NoWay|kt_NoText_NoTime|kt_NoText_NoRow|kt_NoText_NoRatio|kt_NoText_NoName|kt_NoText_NoHouse|kt_NoText_NoEnd|kt_NoText_NoCurve=>kernel_rfl
end
section
set_option maxRecDepth 100000
set_option maxHeartbeats 0
open PySem PySem.W PyProof.Rows
theorem CL.lA1 (w:World)(os:OsState):(CL.fin ((OpenLaw.row PySem.Challenge.rw_curvehouse_k51_no_curves_texts).toRowW.prog) w 30100 os).map (fun s=>(CL.ok ((OpenLaw.row PySem.Challenge.rw_curvehouse_k51_no_curves_texts).toRowW.prog) w s.abs,(openSeen CL.qv [] (importedModules ((OpenLaw.row PySem.Challenge.rw_curvehouse_k51_no_curves_texts).toRowW.prog).main.body) (fun s=>xlAt CL.qv [] s&&recOk (RowW.records (OpenRow.toRowW (OpenLaw.row PySem.Challenge.rw_curvehouse_k51_no_curves_texts))) s) true s.abs).1))=some (true,expectedOf CL.qv):=by kernel_rfl
theorem CL.lA2 (w:World)(os:OsState):(CL.fin ((OpenLaw.row PySem.Challenge.rw_curvehouse_k51_no_curves_texts).toRowW.prog) w 30100 os).map (fun s=>((openSeen CL.qv [] (importedModules ((OpenLaw.row PySem.Challenge.rw_curvehouse_k51_no_curves_texts).toRowW.prog).main.body) (fun s=>xlAt CL.qv [] s&&recOk (RowW.records (OpenRow.toRowW (OpenLaw.row PySem.Challenge.rw_curvehouse_k51_no_curves_texts))) s) true s.abs).2.1,(openSeen CL.qv [] (importedModules ((OpenLaw.row PySem.Challenge.rw_curvehouse_k51_no_curves_texts).toRowW.prog).main.body) (fun s=>xlAt CL.qv [] s&&recOk (RowW.records (OpenRow.toRowW (OpenLaw.row PySem.Challenge.rw_curvehouse_k51_no_curves_texts))) s) true s.abs).2.2.1))=some (bltViewBooted,true):=by kernel_rfl
theorem CL.lB3 (w:World)(os:OsState):(CL.fin ((OpenLaw.row PySem.Challenge.rw_curvehouse_k51_no_curves_texts).toRowW.prog) w 30100 os).map (fun s=>(openSeen CL.qv [] (importedModules ((OpenLaw.row PySem.Challenge.rw_curvehouse_k51_no_curves_texts).toRowW.prog).main.body) (fun s=>xlAt CL.qv [] s&&recOk (RowW.records (OpenRow.toRowW (OpenLaw.row PySem.Challenge.rw_curvehouse_k51_no_curves_texts))) s) true s.abs).2.2.2.1)=some (true):=by kernel_rfl
theorem CL.lB4 (w:World)(os:OsState):(CL.fin ((OpenLaw.row PySem.Challenge.rw_curvehouse_k51_no_curves_texts).toRowW.prog) w 30100 os).map (fun s=>(openSeen CL.qv [] (importedModules ((OpenLaw.row PySem.Challenge.rw_curvehouse_k51_no_curves_texts).toRowW.prog).main.body) (fun s=>xlAt CL.qv [] s&&recOk (RowW.records (OpenRow.toRowW (OpenLaw.row PySem.Challenge.rw_curvehouse_k51_no_curves_texts))) s) true s.abs).2.2.2.2.1)=some (pinGoodD (drecsOf CL.qv)):=by kernel_rfl
theorem CL.lB5 (w:World)(os:OsState):(CL.fin ((OpenLaw.row PySem.Challenge.rw_curvehouse_k51_no_curves_texts).toRowW.prog) w 30100 os).map (fun s=>(openSeen CL.qv [] (importedModules ((OpenLaw.row PySem.Challenge.rw_curvehouse_k51_no_curves_texts).toRowW.prog).main.body) (fun s=>xlAt CL.qv [] s&&recOk (RowW.records (OpenRow.toRowW (OpenLaw.row PySem.Challenge.rw_curvehouse_k51_no_curves_texts))) s) true s.abs).2.2.2.2.2.1)=some (plainGoodE CL.qv (looseW CL.qv [])):=by kernel_rfl
theorem CL.lA4 (w:World)(os:OsState):(CL.fin ((OpenLaw.row PySem.Challenge.rw_curvehouse_k51_no_curves_texts).toRowW.prog) w 30100 os).map (fun s=>((openSeen CL.qv [] (importedModules ((OpenLaw.row PySem.Challenge.rw_curvehouse_k51_no_curves_texts).toRowW.prog).main.body) (fun s=>xlAt CL.qv [] s&&recOk (RowW.records (OpenRow.toRowW (OpenLaw.row PySem.Challenge.rw_curvehouse_k51_no_curves_texts))) s) true s.abs).2.2.2.2.2.2.1,(openSeen CL.qv [] (importedModules ((OpenLaw.row PySem.Challenge.rw_curvehouse_k51_no_curves_texts).toRowW.prog).main.body) (fun s=>xlAt CL.qv [] s&&recOk (RowW.records (OpenRow.toRowW (OpenLaw.row PySem.Challenge.rw_curvehouse_k51_no_curves_texts))) s) true s.abs).2.2.2.2.2.2.2.1,(openSeen CL.qv [] (importedModules ((OpenLaw.row PySem.Challenge.rw_curvehouse_k51_no_curves_texts).toRowW.prog).main.body) (fun s=>xlAt CL.qv [] s&&recOk (RowW.records (OpenRow.toRowW (OpenLaw.row PySem.Challenge.rw_curvehouse_k51_no_curves_texts))) s) true s.abs).2.2.2.2.2.2.2.2))=some (plainGoodD CL.qv [],wideGood CL.qv,clsGoodW CL.qv []):=by kernel_rfl
theorem CL.lA (w:World)(os:OsState):(CL.fin ((OpenLaw.row PySem.Challenge.rw_curvehouse_k51_no_curves_texts).toRowW.prog) w 30100 os).map (fun s=>(CL.ok ((OpenLaw.row PySem.Challenge.rw_curvehouse_k51_no_curves_texts).toRowW.prog) w s.abs,openSeen CL.qv [] (importedModules ((OpenLaw.row PySem.Challenge.rw_curvehouse_k51_no_curves_texts).toRowW.prog).main.body) (fun s=>xlAt CL.qv [] s&&recOk (RowW.records (OpenRow.toRowW (OpenLaw.row PySem.Challenge.rw_curvehouse_k51_no_curves_texts))) s) true s.abs))=some (true,openGood CL.qv []):=CL.tri (CL.lA1 w os) (CL.lA2 w os) (CL.lB3 w os) (CL.lB4 w os) (CL.lB5 w os) (CL.lA4 w os)
end
namespace L2
open PySem PySem.Spec PyProof.Rows
abbrev Key:=Sum Int Str
def M6:Key→Value→Bool
 |.inl k,v=>Value.isInt k v
 |.inr x,v=>Value.isStrOf x v
def Q4 (w:World):Key→Int
 |.inl k=>hashInt k
 |.inr x=>hashStr w x
theorem AE:∀{k:Key}{v:Value},M6 k v=true→(∃i t,k=Sum.inl i∧v=Value.int i t)∨(∃x t,k=Sum.inr x∧v=Value.str x t)
 |.inl i,v,h=>by
  obtain⟨t,e⟩:=Value.isInt_shape (k:=i) (v:=v) h
  exact .inl ⟨i,t,rfl,e⟩
 |.inr x,v,h=>by
  obtain⟨t,e⟩:=Value.isStrOf_shape (x:=x) (v:=v) h
  exact .inr ⟨x,t,rfl,e⟩
theorem Nf (a b:Int):decide ((Sum.inl a:Key)=Sum.inl b)=(a==b):=by
 by_cases e:a=b
 ·subst e;simp
 ·have h:¬(Sum.inl a:Key)=Sum.inl b:=fun q=>e (Sum.inl.inj q)
  rw[decide_eq_false h]
  exact(beq_eq_false_iff_ne.mpr e).symm
theorem N4 (a b:Str):decide ((Sum.inr a:Key)=Sum.inr b)=decide (a=b):=by
 by_cases e:a=b
 ·subst e;simp
 ·have h:¬(Sum.inr a:Key)=Sum.inr b:=fun q=>e (Sum.inr.inj q)
  rw[decide_eq_false h,decide_eq_false e]
theorem N9 (a:Int)(b:Str):decide ((Sum.inl a:Key)=Sum.inr b)=false:=decide_eq_false (fun q=>nomatch q)
theorem NG (a:Str)(b:Int):decide ((Sum.inr a:Key)=Sum.inl b)=false:=decide_eq_false (fun q=>nomatch q)
def HX (prog:Program)(w:World):PySem.KeyKind prog w Key where
 is:=M6
 hash:=Q4 w
 inj:=fun v a b ha hb=>by
  rcases AE ha with⟨i,t,rfl,rfl⟩|⟨x,t,rfl,rfl⟩
  ·rcases AE hb with⟨j,u,rfl,e⟩|⟨y,u,rfl,e⟩
   ·injection e with e1 _;rw[e1]
   ·exact nomatch e
  ·rcases AE hb with⟨j,u,rfl,e⟩|⟨y,u,rfl,e⟩
   ·exact nomatch e
   ·injection e with e1 _;rw[e1]
 byValue:=fun k v h=>by
  rcases AE h with⟨i,t,rfl,rfl⟩|⟨x,t,rfl,rfl⟩<;>rfl
 pyHash:=fun hv h=>by
  rcases AE hv with⟨i,t,rfl,rfl⟩|⟨x,t,rfl,rfl⟩
  ·exact wpAny_pyHash_int h
  ·exact wpAny_pyHash_str h
 eqBool:=fun hu hv h=>by
  rcases AE hu with⟨i,t,rfl,rfl⟩|⟨x,t,rfl,rfl⟩
  ·rcases AE hv with⟨j,u,rfl,rfl⟩|⟨y,u,rfl,rfl⟩
   ·rw[Nf] at h;exact wpAny_eqBool_int h
   ·rw[N9] at h;exact SeqAt.EqAt.int_str i t y u _ _ _ _ h
  ·rcases AE hv with⟨j,u,rfl,rfl⟩|⟨y,u,rfl,rfl⟩
   ·rw[NG] at h;exact SeqAt.EqAt.str_int x t j u _ _ _ _ h
   ·rw[N4] at h;exact wpAny_eqBool_str h
 «strs»:=fun k x t v h=>by
  rcases AE h with⟨i,u,rfl,e⟩|⟨y,u,rfl,e⟩
  ·exact nomatch e
  ·injection e with e1 _
   subst e1
   cases v<;>rfl
end L2
namespace L2
open PySem PySem.Spec PyProof.Rows
inductive V where
 |non|bl (b:Bool)|int (i:Int)|str (x:Str)|byt (b:Array UInt8)|flt (b:UInt64)|ref (a:Addr)|ty (n:String)
 deriving DecidableEq
def Bi:V→Value→Prop
 |.non,u=>u=Value.none
 |.bl b,u=>u=Value.bool b
 |.int i,u=>∃t,u=Value.int i t
 |.str x,u=>∃t,u=Value.str x t
 |.byt b,u=>∃t,u=Value.bytes b t
 |.flt b,u=>∃t,u=Value.float b t
 |.ref a,u=>u=Value.ref a
 |.ty n,u=>u=Value.type n
abbrev Be:List V→List Value→Prop:=Paired Bi
theorem Be.length {xs:List V}{us:List Value}(r:Be xs us):xs.length=us.length:=Paired.length r
theorem Be.get:∀{xs:List V}{us:List Value}{i:Nat}{x:V},Be xs us→xs[i]? = some x→∃u,us[i]? = some u∧Bi x u
 |_,_,_,_,.nil,e=>by simp at e
 |_,_,0,_,.cons r _,e=>by simp at e;subst e;exact⟨_,rfl,r⟩
 |_,_,i+1,x,.cons _ t,e=>by
  obtain⟨u,h1,h2⟩:=Be.get (i:=i) (x:=x) t (by simpa using e)
  exact⟨u,by simpa using h1,h2⟩
theorem Be.append:∀{xs ys:List V}{us ws:List Value},Be xs us→Be ys ws→Be (xs++ys) (us++ws)
 |_,_,_,_,.nil,s=>s
 |_,_,_,_,.cons r t,s=>.cons r (Be.append t s)
theorem Be.take:∀{xs:List V}{us:List Value}(n:Nat),Be xs us→Be (xs.take n) (us.take n)
 |_,_,0,_=>.nil
 |_,_,_+1,.nil=>.nil
 |_,_,n+1,.cons r t=>.cons r (Be.take n t)
theorem Be.drop:∀{xs:List V}{us:List Value}(n:Nat),Be xs us→Be (xs.drop n) (us.drop n)
 |_,_,0,r=>r
 |_,_,_+1,.nil=>.nil
 |_,_,n+1,.cons _ t=>Be.drop n t
def Py:Option V→Option Value→Prop
 |some v,some u=>Bi v u
 |none,none=>True
 |_,_=>False
def KV {κ:Type}:List (κ×V)→List (κ×Value)→Prop:=Paired fun(p:κ×V)(q:κ×Value)=>p.1=q.1∧Bi p.2 q.2
def kV:Key→V
 |.inl i=>.int i
 |.inr x=>.str x
inductive HO where
 |lst (xs:List V)
 |tup (xs:List V)
 |dK (kvs:List (Key×V))|dT (kvs:List (List Key×V))
 |set (S:Int→Bool) (n:Nat)
 |ins (C dx:Addr) (fs:List (Str×V))
 |own (x:Addr)
 |xd (fs:List (Str×V))
 |met (f x:Addr)
 |rng (lo hi:Int)
 |frz (o:Obj) (u:HO)
 |tbl (ps:Array Value)
 |ext (φ:Heap→Prop)
abbrev Hp:=Addr→Option HO
def upd (H:Hp)(a:Addr)(o:HO):Hp:=fun b=>if b=a then some o else H b
theorem Al {H:Hp}{a:Addr}{o:HO}:upd H a o a=some o:=by unfold upd;rw[if_pos rfl]
theorem Ar {H:Hp}{a b:Addr}{o:HO}(h:b≠a):upd H a o b=H b:=by unfold upd;rw[if_neg h]
theorem A7 {H:Hp}{a b:Addr}{o:HO}(h:H a=some o) (h':H b=none):a≠b:=by
 intro e;subst e;rw[h] at h';cases h'
def HA (H:Hp)(h:Heap)(a:Addr):Prop:=∃tab:Array Value,h.get? a=some { cls:=.none,data:=.fields tab }∧TriplesOk tab.toList ∧
 ∀(pos:Pos)(cv:Value),codeAmong pos tab.toList=some cv→∃(c:Addr)(oc:Obj)(fs:Array Value)(nm:Str)(t:Nat),cv=.ref c∧H c=some (.frz oc (.own a))∧oc.data=.fields fs∧fs[1]? = some (.str nm t)
theorem HA.stay {H H':Hp}{h h':Heap}{a:Addr}(x:HA H h a) (k:∀o,h.get? a=some o→h'.get? a=some o) (hf:∀b o u,H b=some (.frz o u)→H' b=some (.frz o u)):HA H' h' a:=by
 obtain⟨tab,e,tr,q⟩:=x
 refine⟨tab,k _ e,tr,fun pos cv z=>?_⟩
 obtain⟨c,oc,fs,nm,t,z1,z2,z3⟩:=q pos cv z
 exact⟨c,oc,fs,nm,t,z1,hf _ _ _ z2,z3⟩
section
variable (P:Program) (w:World)
def Bg (H:Hp)(h:Heap)(a:Addr):HO→Prop
 |.lst xs=>xs.length≤sizeLine∧∃(its:List Value)(n:Nat),Be xs its∧h.get? a=some { cls:=.type "list",data:=.seq its.toArray n }
 |.tup xs=>xs.length≤sizeLine∧∃its:List Value,Be xs its∧IsTup h a its.toArray
 |.dK kvs=>kvs.length≤sizeLine∧(a==sysModules)=false∧∃vs,KV kvs vs∧h.DictOf (HX P w) a vs
 |.dT kvs=>kvs.length≤sizeLine∧(a==sysModules)=false∧∃xs:List (List Key×Addr×Value),
  Paired (fun(p:List Key×V)(q:List Key×Addr×Value)=>p.1=q.1∧H q.2.1=some (.tup (p.1.map kV))∧Bi p.2 q.2.2) kvs xs ∧
  ∃o es ep,h.get? a=some o∧o.ExactDict∧o.data=.dict es ep∧es.toList=xs.map (entryOfKey (tupleKind (HX P w)))∧(xs.map (·.1)).Nodup
 |.set S n=>h.SetOf (intKind P w) a S n
 |.ins C dx fs=>H dx=some (.own a)∧fs.length≤1000∧dx≠a∧h.get? a=some (PySem.W.instObj C dx) ∧
  ∃mA,h.Ns1 dx mA∧(∀f,Py (fs.lookup f) (mA f))∧PySem.Within mA (fs.map (·.1))
 |.own _=>∃o,h.get? a=some o
 |.xd fs=>∃mA,h.Ns1 a mA∧∀f,Py (fs.lookup f) (mA f)
 |.rng lo hi=>∃t u v,h.get? a=some { cls:=.type "range",data:=.fields #[.int lo t,.int hi u,.int 1 v] }
 |.frz o u=>h.get? a=some o∧Bg H h a u
 |.tbl _=>HA H h a
 |.met f x=>h.get? a=some (PySem.W.methodObj (.ref f) (.ref x))
 |.ext φ=>φ h∧(∃o,h.get? a=some o)∧∀h1 h2:Heap,φ h1→(∀o,h1.get? a=some o→h2.get? a=some o)→φ h2
def HOk (H:Hp)(h:Heap):Prop:=∀a o,H a=some o→Bg P w H h a o
end
section
variable {P:Program}{w:World}{H H':Hp}{h h':Heap}{a:Addr}{o:HO}
theorem Bg.lt (x:Bg P w H h a o):a<h.objs.size:=by
 cases o with
 |lst xs=>obtain⟨_,_,_,_,e⟩:=x;exact qAh e
 |tup xs=>obtain⟨_,_,_,p⟩:=x;exact p.lt
 |dK kvs=>obtain⟨_,_,_,_,o,_,_,e,_⟩:=x;exact qAh e
 |dT kvs=>obtain⟨_,_,_,_,o,_,_,e,_⟩:=x;exact qAh e
 |set S n=>obtain⟨o,_,_,_,e,_⟩:=x;exact qAh e
 |ins C dx fs=>obtain⟨_,_,_,e,_⟩:=x;exact qAh e
 |own y=>obtain⟨_,e⟩:=x;exact qAh e
 |xd fs=>obtain⟨_,⟨_,_,_,e,_⟩,_⟩:=x;exact qAh e
 |rng lo hi=>obtain⟨_,_,_,e⟩:=x;exact qAh e
 |frz ob u=>obtain⟨e,_⟩:=x;exact qAh e
 |tbl ps=>obtain⟨_,e,_⟩:=x;exact qAh e
 |met f y=>exact qAh (show h.get? a=some _ from x)
 |ext φ=>obtain⟨_,⟨_,e⟩,_⟩:=x;exact qAh e
theorem Paired.mapP {α β:Type}{F G:α→β→Prop}:∀{l₁:List α}{l₂:List β},Paired F l₁ l₂→(∀a b,F a b→G a b)→Paired G l₁ l₂
 |_,_,.nil,_=>.nil
 |_,_,.cons r t,f=>.cons (f _ _ r) (Paired.mapP t f)
theorem Bg.stay (x:Bg P w H h a o)(k:∀b u,(b=a∨H b=some (.own a))→h.get? b=some u→h'.get? b=some u)
 (ho:∀b,H b=some (.own a)→H' b=some (.own a))(ht:∀b xs,H b=some (.tup xs)→H' b=some (.tup xs))(hf:∀b o u,H b=some (.frz o u)→H' b=some (.frz o u):=by intro _ _ _ q;exact q):Bg P w H' h' a o:=by
 induction o with
 |lst xs=>obtain⟨z,its,n,r,e⟩:=x;exact⟨z,its,n,r,k _ _ (.inl rfl) e⟩
 |tup xs=>obtain⟨z,its,r,ob,e,c⟩:=x;exact⟨z,its,r,ob,k _ _ (.inl rfl) e,c⟩
 |dK kvs=>obtain⟨z,y,vs,r,ob,es,ep,e,c⟩:=x;exact⟨z,y,vs,r,ob,es,ep,k _ _ (.inl rfl) e,c⟩
 |dT kvs =>
  obtain⟨z,y,xs,r,ob,es,ep,e,c⟩:=x
  exact⟨z,y,xs,Paired.mapP r fun p q z=>⟨z.1,ht _ _ z.2.1,z.2.2⟩,ob,es,ep,k _ _ (.inl rfl) e,c⟩
 |set S n=>obtain⟨ob,es,ep,t,e,c⟩:=x;exact⟨ob,es,ep,t,k _ _ (.inl rfl) e,c⟩
 |ins C dx fs =>
  obtain⟨d,z,ne,e,mA,⟨od,es,ep,e2,c⟩,r⟩:=x
  exact⟨ho _ d,z,ne,k _ _ (.inl rfl) e,mA,⟨od,es,ep,k _ _ (.inr d) e2,c⟩,r⟩
 |own y=>obtain⟨ob,e⟩:=x;exact⟨ob,k _ _ (.inl rfl) e⟩
 |xd fs=>obtain⟨mA,⟨od,es,ep,e,c⟩,r⟩:=x;exact⟨mA,⟨od,es,ep,k _ _ (.inl rfl) e,c⟩,r⟩
 |rng lo hi=>obtain⟨t,u,v,e⟩:=x;exact⟨t,u,v,k _ _ (.inl rfl) e⟩
 |frz ob u ih=>obtain⟨e,q⟩:=x;exact⟨k _ _ (.inl rfl) e,ih q⟩
 |tbl ps=>exact HA.stay x (fun u q=>k _ _ (.inl rfl) q) hf
 |met f y =>
  have e:h.get? a=some (PySem.W.methodObj (.ref f) (.ref y)):=x
  show h'.get? a=some (PySem.W.methodObj (.ref f) (.ref y))
  exact k a _ (.inl rfl) e
 |ext φ=>obtain⟨p,⟨o,e⟩,st⟩:=x;exact⟨st _ _ p fun o q=>k _ _ (.inl rfl) q,⟨o,k _ _ (.inl rfl) e⟩,st⟩
theorem HOk.lt (x:HOk P w H h)(e:H a=some o):a<h.objs.size:=(x a o e).lt
theorem HOk.fresh (x:HOk P w H h)(e:h.objs.size≤a):H a=none:=by
 cases q:H a with
 |none=>rfl
 |some u=>exact absurd (qAk (x.lt q) e) (qAF _)
theorem HOk.kept (x:HOk P w H h)(k:∀b u,h.get? b=some u→h'.get? b=some u):HOk P w H h':=fun a o e =>
 (x a o e).stay (fun b u _ q=>k b u q) (fun _ q=>q) fun _ _ q=>q
theorem HOk.laid (x:HOk P w H h)(k:∀b u,h.get? b=some u→h'.get? b=some u)(hp:h.objs.size≤a)(new:Bg P w (upd H a o) h' a o):HOk P w (upd H a o) h':=fun b u e=>by
 have hn:=x.fresh hp
 by_cases hb:b=a
 ·subst hb;rw[Al] at e;cases e;exact new
 ·rw[Ar hb] at e
  exact(x b u e).stay (hf:=fun c w1 w2 q=>by rw[Ar (A7 q hn)];exact q) (fun c v _ q=>k c v q) (fun c q=>by rw[Ar (A7 q hn)];exact q) fun c xs q=>by rw[Ar (A7 q hn)];exact q
end
def Rd (H:Hp)(a:Addr)(u:HO):Prop:=H a=some u∨∃o,H a=some (.frz o u)
theorem Rd.ok {P:Program}{w:World}{H:Hp}{h:Heap}{a:Addr}{u:HO}(r:Rd H a u) (x:HOk P w H h):Bg P w H h a u:=by
 rcases r with r|⟨o,r⟩
 ·exact x a u r
 ·obtain⟨_,q⟩:=x a _ r
  exact q
def Mut:Option HO→Prop
 |some (.lst _)=>True
 |some (.dK _)=>True
 |some (.dT _)=>True
 |some (.set _ _)=>True
 |some (.ins _ _ _)=>True
 |some (.ext _)=>True
 |_=>False
section
variable {P:Program}{w:World}{H:Hp}{h h':Heap}{x e:Addr}{o':HO}
theorem HOk.write (ok:HOk P w H h)(mu:Mut (H x))(he:e=x∨H e=some (.own x))(k:∀b u,b≠e→h.get? b=some u→h'.get? b=some u)(heo:∃u,h'.get? e=some u)
 (new:Bg P w (upd H x o') h' x o'):HOk P w (upd H x o') h':=fun b u q=>by
 have nown:∀c y,H c=some (.own y)→c≠x:=fun c y r z=>by subst z;rw[r] at mu;exact mu
 have ntup:∀c xs,H c=some (.tup xs)→c≠x:=fun c xs r z=>by subst z;rw[r] at mu;exact mu
 by_cases hb:b=x
 ·subst hb;rw[Al] at q;cases q;exact new
 ·rw[Ar hb] at q
  by_cases hbe:b=e
  ·have q':H b=some (.own x):=by
    rcases he with z|z
    ·exact absurd (hbe.trans z) hb
    ·rw[hbe];exact z
   rw[q] at q';cases q'
   obtain⟨v,hv⟩:=heo
   exact⟨v,by rw[hbe];exact hv⟩
  ·refine(ok b u q).stay (hf:=fun c w1 w2 r=>by rw[Ar (fun z=>by subst z;rw[r] at mu;exact mu)];exact r) (fun c v hc r=>k c v ?_ r) (fun c r=>by rw[Ar (nown c b r)];exact r) fun c xs r=>by rw[Ar (ntup c xs r)];exact r
   rcases hc with rfl|hc
   ·exact hbe
   ·rintro rfl
    rcases he with z|z
    ·exact nown c b hc z
    ·rw[hc] at z;cases z;exact hb rfl
end
structure Un (fs ex:List Addr)(H H':Hp)(h h':Heap):Prop where
 keep:∀b o,h.get? b=some o→H b=none→b∉fs→b∉ex→h'.get? b=some o
 slot:∀b o,h.get? b=some o→H b=none→b∈fs→b∉ex→∃sl,h'.get? b=some { o with slots:=sl }
 free:∀b o,h.get? b=some o→H b=none→b∉ex→H' b=none
 there:∀b o,h.get? b=some o→b∉ex→∃o',h'.get? b=some o'
 tups:∀b xs,H b=some (.tup xs)→H' b=some (.tup xs)
 frzs:∀b o u,H b=some (.frz o u)→H' b=some (.frz o u)
 tbls:∀b ps,H b=some (.tbl ps)→∃more,H' b=some (.tbl (ps++more))
section
variable {fs fs' ex ex':List Addr}{H H1 H2:Hp}{h h1 h2 h':Heap}{a x e:Addr}{o:HO}
theorem Un.any (u:Un fs ex H H1 h h1){b:Addr}{ob:Obj}(q:h.get? b=some ob) (n:H b=none) (hx:b∉ex):∃sl,h1.get? b=some { ob with slots:=sl }:=by
 by_cases hb:b∈fs
 ·exact u.slot b ob q n hb hx
 ·exact⟨ob.slots,u.keep b ob q n hb hx⟩
theorem Un.kept (k:∀b u,h.get? b=some u→h'.get? b=some u):Un fs ex H H h h' :=
 ⟨fun b ob q _ _ _=>k b ob q,fun b ob q _ _ _=>⟨ob.slots,k b ob q⟩,fun _ _ _ n _=>n,fun b ob q _=>⟨ob,k b ob q⟩,fun _ _ q=>q,fun _ _ _ q=>q,fun _ ps q=>⟨#[],by rw[q];simp⟩⟩
theorem Un.refl:Un fs ex H H h h:=Un.kept fun _ _ q=>q
theorem Un.laid (k:∀b u,h.get? b=some u→h'.get? b=some u)(hp:h.objs.size≤a)(hn:H a=none):Un fs ex H (upd H a o) h h' where
 keep:=fun b u q _ _ _=>k b u q
 slot:=fun b u q _ _ _=>⟨u.slots,k b u q⟩
 free:=fun b u q n _=>by rw[Ar (qAu (qAk (qAh q) hp))];exact n
 there:=fun b u q _=>⟨u,k b u q⟩
 tups:=fun b xs q=>by rw[Ar (A7 q hn)];exact q
 frzs:=fun b u xs q=>by rw[Ar (A7 q hn)];exact q
 tbls:=fun b ps q=>⟨#[],by rw[Ar (A7 q hn),q];simp⟩
theorem Un.write (mu:Mut (H x))(he:e=x∨H e=some (.own x))(k:∀b u,b≠e→h.get? b=some u→h'.get? b=some u)(heo:∃u,h'.get? e=some u):Un fs ex H (upd H x o) h h':=by
 have hx:∀b,H b=none→b≠x:=fun b n z=>by subst z;rw[n] at mu;exact mu
 have hb:∀b,H b=none→b≠e:=fun b n z=>by
  subst z
  rcases he with r|r
  ·exact hx b n r
  ·rw[n] at r;cases r
 have hm:∀b u,H b=some u→¬Mut (some u)→b≠x:=fun b u q nm z=>by subst z;rw[q] at mu;exact nm mu
 refine⟨fun b u q n _ _=>k b u (hb b n) q,fun b u q n _ _=>⟨u.slots,k b u (hb b n) q⟩,fun b u q n _=>by rw[Ar (hx b n)];exact n,fun b u q _=>?_,
  fun b xs q=>by rw[Ar (hm b _ q fun z=>z)];exact q,fun b u xs q=>by rw[Ar (hm b _ q fun z=>z)];exact q,fun b ps q=>⟨#[],by rw[Ar (hm b _ q fun z=>z),q];simp⟩⟩
 by_cases hbe:b=e
 ·subst hbe;exact heo
 ·exact⟨u,k b u hbe q⟩
end
def trk (h:Heap)(H:Hp):List Addr:=(List.range h.objs.size).filter fun a=>(H a).isSome
def JO (h:Heap)(H:Hp):Heap:=PySem.W.hideAll h (trk h H)
theorem Jf (h:Heap)(H:Hp):(JO h H).objs.size=h.objs.size:=PySem.W.hideAll_size _ _
theorem Kr {h:Heap}{H:Hp}{b:Addr}{o:Obj}(e:h.get? b=some o) (n:H b=none):(JO h H).get? b=some o :=
 qBs _ e fun hm=>by
  have q:(H b).isSome=true:=(List.mem_filter.mp hm).2
  rw[n] at q;simp at q
theorem L9 {h:Heap}{H:Hp}{b:Addr}{o:Obj}(e:(JO h H).get? b=some o):h.get? b=some o∧H b=none:=by
 have e':h.get? b=some o:=qA5 (trk h H) e
 refine⟨e',?_⟩
 cases q:H b with
 |none=>rfl
 |some x =>
  have hm:b∈trk h H:=List.mem_filter.mpr ⟨qBA.mpr (qAh e'),by simp[q]⟩
  have z:(JO h H).get? b=none:=qBL (trk h H) hm
  rw[z] at e;cases e
end L2
namespace L2
open PySem PySem.Spec PyProof.Rows
structure Mod (K:PySem.W.Frag)(mg:Str→Option Value)(base:Heap):Prop where
 kin:K.In base
 glob:base.Ns mainGlobals mg
 blt:∃mb,base.Ns builtinsNs mb∧∀x:Str,x≠"__name__"→mb x=bootBuiltins x
 nolimit:base.NoLimit
structure Cx where
 prog:Program
 w:World
 K:PySem.W.Frag
 mg:Str→Option Value
 base:Heap
 A:Around
 N:List Str
 s₀:Shared
 H₀:Hp
 env:Env
 outer:List Env
 stack:List Env
 ex:List Addr
 fn:Str→Bool
 calm:Bool
 pn:List (Addr×Obj)
 xe:Value→Shared→Prop
 lent:Option (Nat×Addr):=none
def frs (l:List Env):List Addr:=l.filterMap (·.frame)
abbrev Cx.fs (X:Cx):List Addr:=frs X.outer
def Vis (sc:Scope)(x:Str):Prop:=sc.names.lookup x=some .local∨sc.names.lookup x=some .cell∨sc.names.lookup x=some .free
def Loc (sc:Scope)(x:Str):Prop:=sc.names.lookup x=some .local∨sc.names.lookup x=some .cell
def QK (env:Env)(h:Heap)(m:Str→Option Value)(x:Str)(u:Value):Prop :=
 (env.kindOf x=some .local∧m x=some u)∨((env.kindOf x=some .cell∨env.kindOf x=some .free)∧∃c,env.cells.lookup x=some c∧h.IsCell c (some u))
structure TB (P:Program)(K:PySem.W.Frag)(mg:Str→Option Value)(base:Heap)(H:Hp):Prop where
 bm:∃(b:Addr)(o:Obj),mg "__builtins__"=some (.ref b)∧b≠builtinsNs∧base.get? b=some o∧o.cls=.type "module"∧o.dict=some builtinsNs∧o.data=.plain
 tab:∀(x:Str)(c T:Addr),PySem.W.tabIn K x=some (c,T)→(recsOf P).any (fun d=>d.name==x)=true→PySem.W.CodeHd base c T∧∃ps,H T=some (.tbl ps)
structure Cx.Ok (X:Cx):Prop where
 mod:Mod X.K X.mg X.base
 kind:X.env.scope.kind=.function
 glob:X.env.globals=mainGlobals
 blt:X.env.builtins=builtinsNs
 above:X.s₀.heap.objs.size≤X.env.locals
 inj:∀x y c,X.env.cells.lookup x=some c→X.env.cells.lookup y=some c→x=y
 has:∀x,(X.env.kindOf x=some .cell∨X.env.kindOf x=some .free)→∃c,X.env.cells.lookup x=some c
 cab:∀x c,X.fn x=true→X.env.cells.lookup x=some c→X.s₀.heap.objs.size≤c
 hd:X.calm=true→X.A.handled=none
 frames:X.A.frames=some X.stack
 stk:X.stack=X.outer∨(X.stack=X.env::X.outer∧X.env.frame=some X.env.locals)
 exf:∀b∈X.ex,b≠X.env.locals∧∀x c,X.env.cells.lookup x=some c→c≠b
 bs:∀b o,X.base.get? b=some o→X.s₀.heap.get? b=some o∧X.H₀ b=none
 bsz:X.base.objs.size≤X.s₀.heap.objs.size
 noex:∀b o,X.base.get? b=some o→b∉X.ex
 exfs:∀b∈X.ex,b∉X.fs
 funs:X.s₀.heap.FunFrames X.base X.outer
 frf:∀b∈X.fs,X.H₀ b=none
 tb:TB X.prog X.K X.mg X.base X.H₀
structure Inv (X:Cx)(pins:List (Addr×Obj))(σ:List (Option V))(H:Hp)(s:Shared):Prop where
 ok:X.Ok
 os:s.os=X.s₀.os
 bare:AllBare s.gens
 base:Un X.fs X.ex X.H₀ H X.s₀.heap s.heap
 loc:∃m,s.heap.Ns X.env.locals m∧∀(i:Nat)(x:Str)(v:V),X.N[i]? = some x→σ[i]? = some (some v)→Vis X.env.scope x→∃u,Bi v u∧QK X.env s.heap m x u
 cell:∀x c,X.env.cells.lookup x=some c→∃v,s.heap.IsCell c v
 free:H X.env.locals=none
 freeC:∀x c,X.env.cells.lookup x=some c→H c=none
 pin:∀p∈X.pn++pins,s.heap.get? p.1=some p.2∧H p.1=none∧p.1≠X.env.locals∧p.1∉X.fs∧∀v,p.2.data≠.cell v
 hok:HOk X.prog X.w H s.heap
 len:σ.length=X.N.length
section
variable {X:Cx}{pins:List (Addr×Obj)}{σ:List (Option V)}{H H':Hp}{s:Shared}{h':Heap}
theorem Cx.Ok.nofr (ok:X.Ok){b:Addr}{o:Obj}(e:X.base.get? b=some o):b∉X.fs:=fun hb=>by
 have:=(ok.funs.mem hb).1
 rw[e] at this;cases this
theorem Inv.bs (I:Inv X pins σ H s):∀b o,X.base.get? b=some o→s.heap.get? b=some o∧H b=none:=fun b o e =>
 ⟨I.base.keep b o (I.ok.bs b o e).1 (I.ok.bs b o e).2 (I.ok.nofr e) (I.ok.noex b o e),I.base.free b o (I.ok.bs b o e).1 (I.ok.bs b o e).2 (I.ok.noex b o e)⟩
theorem Inv.bk (I:Inv X pins σ H s):∀b o,X.base.get? b=some o→s.heap.get? b=some o:=fun b o e=>(I.bs b o e).1
theorem Inv.tb (I:Inv X pins σ H s):TB X.prog X.K X.mg X.base H:=⟨I.ok.tb.bm,fun x c T h1 h2=>by
 obtain⟨z,ps,e⟩:=I.ok.tb.tab x c T h1 h2
 obtain⟨more,e'⟩:=I.base.tbls T ps e
 exact⟨z,_,e'⟩⟩
theorem Inv.mod (I:Inv X pins σ H s):Mod X.K X.mg X.base:=I.ok.mod
theorem Inv.kIn (I:Inv X pins σ H s):X.K.In s.heap:=I.ok.mod.kin.keeps I.bk
theorem Inv.lt (I:Inv X pins σ H s):X.env.locals<s.heap.objs.size:=let ⟨_,hn,_⟩:=I.loc;hn.lt
theorem Inv.sz (I:Inv X pins σ H s):X.s₀.heap.objs.size≤s.heap.objs.size:=qAr I.ok.above (qA6 I.lt)
theorem Inv.nofs (I:Inv X pins σ H s){a:Addr}(h:s.heap.objs.size≤a):a∉X.fs:=fun hb=>by
 obtain⟨_,o,ho,_⟩:=I.ok.funs.mem hb
 exact absurd (qAk (qAh ho) (qAr I.sz h)) (qAF _)
theorem Inv.cne (I:Inv X pins σ H s):∀x c,X.env.cells.lookup x=some c→c≠X.env.locals:=fun x c e z=>by
 obtain⟨v,o,ho,hd⟩:=I.cell x c e
 obtain⟨m,⟨o',es,ep,ho',hd',_⟩,_⟩:=I.loc
 rw[z,ho'] at ho;cases ho;rw[hd'] at hd;cases hd
theorem Inv.funs (I:Inv X pins σ H s):s.heap.FunFrames X.base X.outer:=by
 have all:∀(l:List Env),(∀b∈frs l,b∈X.fs)→X.s₀.heap.FunFrames X.base l→s.heap.FunFrames X.base l:=by
  intro l
  induction l with
  |nil=>intro _ _;trivial
  |cons env r ih =>
   intro hs hl
   obtain⟨hk,⟨L,o,hf,hn,ho,hd⟩,hr⟩:=hl
   have hL:L∈X.fs:=hs L (by unfold frs;rw[qBt,hf];exact qAe)
   obtain⟨sl,e⟩:=I.base.slot L o ho (I.ok.frf L hL) hL fun z=>I.ok.exfs L z hL
   exact⟨hk,⟨L,_,hf,hn,e,hd⟩,ih (fun b hb=>hs b (by unfold frs;rw[qBt,hf];exact qAc _ hb)) hr⟩
 exact all X.outer (fun _ hb=>hb) I.ok.funs
theorem Inv.stack (I:Inv X pins σ H s):s.heap.FunFrames X.base X.stack:=by
 rcases I.ok.stk with e|⟨e,hf⟩
 ·rw[e];exact I.funs
 ·rw[e]
  obtain⟨m,hn,_⟩:=I.loc
  refine .cons (by rw[I.ok.kind];decide) hf hn ?_ I.funs
  exact Heap.get?_none_of_le (qAr I.ok.bsz I.ok.above)
theorem Inv.stkSub (I:Inv X pins σ H s):∀b∈frs X.stack,b∈X.env.locals::X.fs:=fun b hb=>by
 rcases I.ok.stk with e|⟨e,hf⟩
 ·rw[e] at hb;exact qAc _ hb
 ·rw[e] at hb
  unfold frs at hb
  rw[qBt,hf] at hb
  exact hb
theorem Inv.stkFree (I:Inv X pins σ H s):∀b∈frs X.stack,H b=none:=fun b hb=>by
 rcases qAg.mp (I.stkSub b hb) with e|hb
 ·rw[e];exact I.free
 ·obtain⟨_,o,ho,_⟩:=I.ok.funs.mem hb
  exact I.base.free b o ho (I.ok.frf b hb) fun z=>I.ok.exfs b z hb
theorem Inv.step {g':Array GenState}{t':Nat}{d':Drawn}{ch:List Addr}(I:Inv X pins σ H s)
 (hch:∀b∈ch,(b∈X.ex∨X.s₀.heap.objs.size≤b)∧b≠X.env.locals∧(∀x c,X.env.cells.lookup x=some c→c≠b)∧∀p∈X.pn++pins,p.1≠b)
 (keep:∀b o,b≠X.env.locals→b∉X.fs→b∉ch→s.heap.get? b=some o→H b=none→h'.get? b=some o)
 (slot:∀b o,b≠X.env.locals→b∈X.fs→b∉ch→s.heap.get? b=some o→H b=none→∃sl,h'.get? b=some { o with slots:=sl }) (free:∀b o,b∉ch→s.heap.get? b=some o→H b=none→H' b=none)
 (there:∀b o,b∉ch→s.heap.get? b=some o→∃o',h'.get? b=some o')
 (tups:∀b xs,H b=some (.tup xs)→H' b=some (.tup xs)) (frzs:∀b o u,H b=some (.frz o u)→H' b=some (.frz o u)) (tbls:∀b ps,H b=some (.tbl ps)→∃more,H' b=some (.tbl (ps++more)))
 (ns:∀m,s.heap.Ns X.env.locals m→h'.Ns X.env.locals m) (hok:HOk X.prog X.w H' h') (hg:AllBare g') :
 Inv X pins σ H' { s with heap:=h',gens:=g',drawn:=d',toks:=t' }:=by
 have neL:∀b o,X.s₀.heap.get? b=some o→b≠X.env.locals:=fun b o e=>qAu (qAk (qAh e) I.ok.above)
 have neC:∀b o,X.s₀.heap.get? b=some o→b∉X.ex→b∉ch:=fun b o e hx hb=>by
  rcases(hch b hb).1 with z|z
  ·exact hx z
  ·exact absurd (qAk (qAh e) z) (qAF _)
 have cellK:∀x c,X.env.cells.lookup x=some c→∀v,s.heap.IsCell c v→h'.IsCell c v:=fun x c e v hh=>by
  obtain⟨o,ho,hd⟩:=hh
  have nch:c∉ch:=fun z=>(hch c z).2.2.1 x c e rfl
  by_cases hc:c∈X.fs
  ·obtain⟨sl,q⟩:=slot c o (I.cne x c e) hc nch ho (I.freeC x c e)
   exact⟨_,q,hd⟩
  ·exact⟨o,keep c o (I.cne x c e) hc nch ho (I.freeC x c e),hd⟩
 refine⟨I.ok,I.os,hg,⟨fun b o e n hb hx=>?_,fun b o e n hb hx=>?_,fun b o e n hx=>?_,fun b o e hx=>?_,fun b xs e=>tups b xs (I.base.tups b xs e),fun b o xs e=>frzs b o xs (I.base.frzs b o xs e),fun b ps e=>?_⟩,?_,fun x c e=>?_,?_,fun x c e=>?_,fun p hp=>?_,hok,I.len⟩
 ·exact keep b o (neL b o e) hb (neC b o e hx) (I.base.keep b o e n hb hx) (I.base.free b o e n hx)
 ·obtain⟨sl,e1⟩:=I.base.slot b o e n hb hx
  obtain⟨sl',e2⟩:=slot b _ (neL b o e) hb (neC b o e hx) e1 (I.base.free b o e n hx)
  exact⟨sl',e2⟩
 ·obtain⟨o',e1⟩:=I.base.there b o e hx
  exact free b o' (neC b o e hx) e1 (I.base.free b o e n hx)
 ·obtain⟨o',e1⟩:=I.base.there b o e hx
  exact there b o' (neC b o e hx) e1
 ·obtain⟨m1,e1⟩:=I.base.tbls b ps e
  obtain⟨m2,e2⟩:=tbls b _ e1
  exact⟨m1++m2,by rw[e2,Array.append_assoc]⟩
 ·obtain⟨m,hn,hl⟩:=I.loc
  refine⟨m,ns m hn,fun i x v e1 e2 e3=>?_⟩
  obtain⟨u,r,l⟩:=hl i x v e1 e2 e3
  refine⟨u,r,?_⟩
  rcases l with l|⟨k,c,e,z⟩
  ·exact .inl l
  ·exact .inr ⟨k,c,e,cellK x c e _ z⟩
 ·obtain⟨v,z⟩:=I.cell x c e
  exact⟨v,cellK x c e v z⟩
 ·obtain⟨m,⟨o,_,_,ho,_⟩,_⟩:=I.loc
  exact free _ o (fun z=>(hch _ z).2.1 rfl) ho I.free
 ·obtain⟨v,o,ho,hd⟩:=I.cell x c e
  exact free c o (fun z=>(hch c z).2.2.1 x c e rfl) ho (I.freeC x c e)
 ·obtain⟨e,n,ne,nf,d⟩:=I.pin p hp
  have nch:p.1∉ch:=fun z=>(hch p.1 z).2.2.2 p hp rfl
  exact⟨keep p.1 p.2 ne nf nch e n,free p.1 p.2 nch e n,ne,nf,d⟩
theorem Inv.un {t':Nat}(I:Inv X pins σ H s) (u:Un X.fs [] H H' s.heap h') (hok:HOk X.prog X.w H' h'):Inv X pins σ H' { s with heap:=h',toks:=t' }:=by
 obtain⟨m,⟨o,es,ep,ho,r⟩,_⟩:=id I.loc
 obtain⟨sl,hL⟩:=u.any ho I.free (by simp)
 exact I.step (g':=s.gens) (d':=s.drawn) (ch:=[]) (fun _ z=>nomatch z) (fun b o _ hb _ e n=>u.keep b o e n hb (by simp)) (fun b o _ hb _ e n=>u.slot b o e n hb (by simp)) (fun b o _ e n=>u.free b o e n (by simp)) (fun b o _ e=>u.there b o e (by simp)) u.tups u.frzs u.tbls (fun m' hm=>by
  obtain⟨o',es',ep',ho',r'⟩:=hm
  rw[ho] at ho';cases ho'
  exact⟨_,es',ep',hL,r'⟩) hok I.bare
theorem Inv.call {g':Array GenState}{t':Nat}{d':Drawn}{ch:List Addr}(I:Inv X pins σ H s) (u:Un (frs X.stack) ch H H' s.heap h') (hok:HOk X.prog X.w H' h') (hg:AllBare g')
 (hch:∀b∈ch,(b∈X.ex∨X.s₀.heap.objs.size≤b)∧b≠X.env.locals∧(∀x c,X.env.cells.lookup x=some c→c≠b)∧∀p∈X.pn++pins,p.1≠b) :
 Inv X pins σ H' { s with heap:=h',gens:=g',drawn:=d',toks:=t' }:=by
 obtain⟨m,⟨o,es,ep,ho,r⟩,_⟩:=id I.loc
 obtain⟨sl,hL⟩:=u.any ho I.free fun z=>(hch _ z).2.1 rfl
 exact I.step (ch:=ch) hch (fun b o hL hb hc e n=>u.keep b o e n (fun z=>(qAg.mp (I.stkSub b z)).elim hL hb) hc) (fun b o _ _ hc e n=>u.any e n hc) (fun b o hc e n=>u.free b o e n hc) (fun b o hc e=>u.there b o e hc) u.tups u.frzs u.tbls (fun m' hm=>by
  obtain⟨o',es',ep',ho',r'⟩:=hm
  rw[ho] at ho';cases ho'
  exact⟨_,es',ep',hL,r'⟩) hok hg
theorem Inv.turned {t':Nat}{it:Addr}(I:Inv X pins σ H s) (k:∀b o,b≠it→s.heap.get? b=some o→h'.get? b=some o) (hn:H it=none) (hL:it≠X.env.locals)
 (h1:it∈X.ex∨X.s₀.heap.objs.size≤it) (h2:∀x c,X.env.cells.lookup x=some c→c≠it) (h3:∀p∈X.pn++pins,p.1≠it):Inv X pins σ H { s with heap:=h',toks:=t' }:=by
 have nit:∀b u,H b=some u→b≠it:=fun b u e z=>by rw[z,hn] at e;cases e
 refine I.step (g':=s.gens) (d':=s.drawn) (ch:=[it]) (fun b hb=>?_) (fun b o _ _ hc e _=>k b o (fun z=>hc (by simp[z])) e) (fun b o _ _ hc e _=>⟨o.slots,k b o (fun z=>hc (by simp[z])) e⟩) (fun _ _ _ _ n=>n)
  (fun b o hc e=>⟨o,k b o (fun z=>hc (by simp[z])) e⟩) (fun _ _ e=>e) (fun _ _ _ e=>e) (fun b ps e=>⟨#[],by rw[e];simp⟩) (fun m hm=>?_) (fun b u e=>?_) I.bare
 ·have e:b=it:=by simpa using hb
  subst e
  exact⟨h1,hL,h2,h3⟩
 ·obtain⟨o,es,ep,ho,r⟩:=hm
  exact⟨o,es,ep,k _ o (Ne.symm hL) ho,r⟩
 ·refine(I.hok b u e).stay (fun c v hc q=>k c v ?_ q) (fun _ q=>q) fun _ _ q=>q
  rcases hc with z|z
  ·rw[z];exact nit b u e
  ·exact nit c _ z
theorem Inv.tok (I:Inv X pins σ H s)(t:Nat):Inv X pins σ H { s with toks:=t }:=I.un (h':=s.heap) (t':=t) Un.refl I.hok
theorem Inv.kept {t':Nat}(I:Inv X pins σ H s) (k:∀b u,s.heap.get? b=some u→h'.get? b=some u):Inv X pins σ H { s with heap:=h',toks:=t' }:=I.un (Un.kept k) (I.hok.kept k)
theorem Inv.laid {a:Addr}{o:HO}{t':Nat}(I:Inv X pins σ H s) (k:∀b u,s.heap.get? b=some u→h'.get? b=some u) (hp:s.heap.objs.size≤a) (new:Bg X.prog X.w (upd H a o) h' a o) :
 Inv X pins σ (upd H a o) { s with heap:=h',toks:=t' }:=I.un (Un.laid k hp (I.hok.fresh hp)) (I.hok.laid k hp new)
theorem Inv.write {x e:Addr}{o:HO}{t':Nat}(I:Inv X pins σ H s) (mu:Mut (H x)) (he:e=x∨H e=some (.own x)) (k:∀b u,b≠e→s.heap.get? b=some u→h'.get? b=some u) (heo:∃u,h'.get? e=some u)
 (new:Bg X.prog X.w (upd H x o) h' x o):Inv X pins σ (upd H x o) { s with heap:=h',toks:=t' }:=I.un (Un.write mu he k heo) (I.hok.write mu he k heo new)
theorem Inv.pins_of {pins':List (Addr×Obj)}(I:Inv X pins σ H s) (h:∀p∈pins',s.heap.get? p.1=some p.2∧H p.1=none∧p.1≠X.env.locals∧p.1∉X.fs∧∀v,p.2.data≠.cell v):Inv X pins' σ H s :=
 ⟨I.ok,I.os,I.bare,I.base,I.loc,I.cell,I.free,I.freeC,fun p hp=>(qAq.mp hp).elim (fun z=>I.pin p (qAP _ z)) (h p),I.hok,I.len⟩
theorem Hr {N:List Str}(hN:N.Nodup){i j:Nat}{x:Str}(a:N[i]? = some x) (b:N[j]? = some x):i=j:=by
 obtain⟨h1,e1⟩:=qAi.mp a
 obtain⟨h2,e2⟩:=qAi.mp b
 exact(List.getElem_inj hN).mp (e1.trans e2.symm)
theorem El {M:Model}{A:Around}{E:Value→Shared→Prop}{i:Nat}{x:Str}{v:V}{u:Value}{Q:Unit→Shared→Prop}(I:Inv X pins σ H s) (hN:X.N.Nodup) (hi:X.N[i]? = some x) (hx:Loc X.env.scope x) (r:Bi v u)
 (h:∀s',Inv X pins (σ.set i (some v)) H s'→(∃a,Heap.SameBut a s.heap s'.heap∧(a=X.env.locals∨X.env.cells.lookup x=some a))→Q Unit.unit s') (hf:X.fn x=true∨X.env.scope.names.lookup x=some .local:=by first|exact .inl rfl|exact .inr rfl|assumption):wpAny M A (storeName X.env x u) Q E s:=by
 obtain⟨m,hn,hl⟩:=id I.loc
 have hcls:(X.env.scope.kind == .class||(X.env.scope.kind == .module&&X.env.locals != X.env.globals))=false:=by rw[I.ok.kind];rfl
 have hiσ:i<σ.length:=by rw[I.len];exact(qAi.mp hi).1
 have cne:=I.cne
 have tracked:∀{a:Addr}{h':Heap},(∃o,s.heap.get? a=some o∧H a=none)→Heap.SameBut a s.heap h'→HOk X.prog X.w H h':=fun {a h'} ha hs b ob e=>by
  obtain⟨_,_,hfree⟩:=ha
  refine(I.hok b ob e).stay (fun c w' hc q=>(hs.2 c ?_).trans q) (fun _ q=>q) fun _ _ q=>q
  rintro rfl
  rcases hc with rfl|hc
  ·rw[hfree] at e;cases e
  ·rw[hfree] at hc;cases hc
 rcases hx with hk|hk
 ·refine wpAny_storeName_local hk hn (fun h' hn' hs=>?_) hcls
  obtain⟨oL,_,_,hoL,_⟩:=id hn
  refine h _ ⟨I.ok,I.os,I.bare,⟨fun b o e n hb hx=>?_,fun b o e n hb hx=>?_,I.base.free,fun b o e hx=>?_,I.base.tups,I.base.frzs,I.base.tbls⟩,⟨_,hn',fun j y v' e1 e2 e3=>?_⟩,fun y c e=>?_,I.free,I.freeC,fun p hp=>?_,tracked ⟨oL,hoL,I.free⟩ hs,by simpa using I.len⟩ ⟨_,hs,.inl rfl⟩
  ·exact(hs.2 b (qAu (qAk (qAh e) I.ok.above))).trans (I.base.keep b o e n hb hx)
  ·obtain⟨sl,e1⟩:=I.base.slot b o e n hb hx
   exact⟨sl,(hs.2 b (qAu (qAk (qAh e) I.ok.above))).trans e1⟩
  ·obtain⟨o',e1⟩:=I.base.there b o e hx
   exact⟨o',(hs.2 b (qAu (qAk (qAh e) I.ok.above))).trans e1⟩
  ·by_cases hj:j=i
   ·subst hj
    rw[hi] at e1;cases e1
    rw[qBg hiσ] at e2
    cases e2
    exact⟨u,r,.inl ⟨hk,by simp⟩⟩
   ·rw[qBo (Ne.symm hj)] at e2
    obtain⟨u',r',q⟩:=hl j y v' e1 e2 e3
    refine⟨u',r',?_⟩
    rcases q with⟨k,e⟩|⟨k,c,e,z⟩
    ·refine .inl ⟨k,?_⟩
     have:y≠x:=fun e=>hj (Hr hN e1 (e ▸ hi))
     simp[this,e]
    ·exact .inr ⟨k,c,e,z.sameBut hs (cne y c e)⟩
  ·obtain⟨w',z⟩:=I.cell y c e
   exact⟨w',z.sameBut hs (cne y c e)⟩
  ·obtain⟨e,n,ne,nf,d⟩:=I.pin p hp
   exact⟨(hs.2 p.1 ne).trans e,n,ne,nf,d⟩
 ·have hfn:X.fn x=true:=by
   rcases hf with z|z
   ·exact z
   ·rw[z] at hk;cases hk
  obtain⟨c,hc⟩:=I.ok.has x (.inl hk)
  obtain⟨w',z⟩:=I.cell x c hc
  refine wpAny_storeName_cell I.ok.kind hk hc z (fun h' hc' hs=>?_)
  obtain⟨oc,hoc,hocd⟩:=id z
  refine h { s with heap:=h' } ⟨I.ok,I.os,I.bare,⟨fun b o e n hb hx=>?_,fun b o e n hb hx=>?_,I.base.free,fun b o e hx=>?_,I.base.tups,I.base.frzs,I.base.tbls⟩,⟨m,hn.sameBut hs (Ne.symm (cne x c hc)),fun j y v' e1 e2 e3=>?_⟩,fun y c' e=>?_,I.free,I.freeC,fun p hp=>?_,tracked ⟨oc,hoc,I.freeC x c hc⟩ hs,by simpa using I.len⟩ ⟨c,hs,.inr hc⟩
  ·exact(hs.2 b (qAu (qAk (qAh e) (I.ok.cab x c hfn hc)))).trans (I.base.keep b o e n hb hx)
  ·obtain⟨sl,e1⟩:=I.base.slot b o e n hb hx
   exact⟨sl,(hs.2 b (qAu (qAk (qAh e) (I.ok.cab x c hfn hc)))).trans e1⟩
  ·obtain⟨o',e1⟩:=I.base.there b o e hx
   exact⟨o',(hs.2 b (qAu (qAk (qAh e) (I.ok.cab x c hfn hc)))).trans e1⟩
  ·by_cases hj:j=i
   ·subst hj
    rw[hi] at e1;cases e1
    rw[qBg hiσ] at e2
    cases e2
    exact⟨u,r,.inr ⟨.inl hk,c,hc,hc'⟩⟩
   ·rw[qBo (Ne.symm hj)] at e2
    obtain⟨u',r',q⟩:=hl j y v' e1 e2 e3
    refine⟨u',r',?_⟩
    rcases q with q|⟨k,c',e,z'⟩
    ·exact .inl q
    ·refine .inr ⟨k,c',e,z'.sameBut hs ?_⟩
     rintro rfl
     exact hj (Hr hN e1 (I.ok.inj _ _ _ e hc ▸ hi))
  ·by_cases hcc:c'=c
   ·subst hcc;exact⟨_,hc'⟩
   ·obtain⟨w2,z2⟩:=I.cell y c' e
    exact⟨w2,z2.sameBut hs hcc⟩
  ·obtain⟨e,n,ne,nf,d⟩:=I.pin p hp
   refine⟨(hs.2 p.1 ?_).trans e,n,ne,nf,d⟩
   intro q
   rw[q,hoc] at e
   have q':oc=p.2:=qAn e
   exact d w' (by rw[←q'];exact hocd)
theorem CM {M:Model}{A:Around}{E:Value→Shared→Prop}{i:Nat}{x:Str}{v:V}{u:Value}{Q:Unit→Shared→Prop}(I:Inv X pins σ H s) (hN:X.N.Nodup) (hi:X.N[i]? = some x) (hx:Loc X.env.scope x) (r:Bi v u)
 (h:∀s',Inv X pins (σ.set i (some v)) H s'→Q Unit.unit s') (hf:X.fn x=true∨X.env.scope.names.lookup x=some .local:=by first|exact .inl rfl|exact .inr rfl|assumption):wpAny M A (storeName X.env x u) Q E s :=
 El I hN hi hx r (fun s' I' _=>h s' I') hf
theorem Inv.call' {s':Shared}{ch:List Addr}(I:Inv X pins σ H s) (ho:s'.os=s.os) (u:Un (frs X.stack) ch H H' s.heap s'.heap) (hok:HOk X.prog X.w H' s'.heap) (hg:AllBare s'.gens)
 (hch:∀b∈ch,(b∈X.ex∨X.s₀.heap.objs.size≤b)∧b≠X.env.locals∧(∀x c,X.env.cells.lookup x=some c→c≠b)∧∀p∈X.pn++pins,p.1≠b):Inv X pins σ H' s':=by
 obtain⟨h',g',d',t',o'⟩:=s'
 have e:o'=s.os:=ho
 subst e
 exact I.call (g':=g') (t':=t') (d':=d') u hok hg hch
end
abbrev XK:=Value→Option Addr→Hp→Prop
abbrev St:=List (Option V)
abbrev VK:=V→Hp→Prop
abbrev TE:=St→Hp→VK→Prop
abbrev TT:=St→Hp→(Bool→Hp→Prop)→Prop
abbrev TA:=St→Hp→(List V→Hp→Prop)→Prop
structure Lq where
 nx:St→Hp→Prop
 rt:VK
 bk:St→Hp→Prop:=fun _ _=>False
 ct:St→Hp→Prop:=fun _ _=>False
abbrev TS:=Lq→St→Hp→Prop
def EP (X:Cx)(pins:List (Addr×Obj))(σ:St)(Q:VK)(u:Value)(s':Shared):Prop:=∃v H',Inv X pins σ H' s'∧Bi v u∧Q v H'
def TP (X:Cx)(pins:List (Addr×Obj))(σ:St)(Q:Bool→Hp→Prop)(b:Bool)(s':Shared):Prop:=∃H',Inv X pins σ H' s'∧Q b H'
def AP (X:Cx)(pins:List (Addr×Obj))(σ:St)(Q:List V→Hp→Prop)(us:List Value)(s':Shared):Prop:=∃vs H',Inv X pins σ H' s'∧Be vs us∧Q vs H'
def SP (X:Cx)(pins:List (Addr×Obj))(D:Lq)(f:Flow)(s':Shared):Prop :=
 match f with
 |.next=>∃σ' H',Inv X pins σ' H' s'∧D.nx σ' H'
 |.brk=>∃σ' H',Inv X pins σ' H' s'∧D.bk σ' H'
 |.cont=>∃σ' H',Inv X pins σ' H' s'∧D.ct σ' H'
 |.ret u=>∃v σ' H',Inv X pins σ' H' s'∧Bi v u∧D.rt v H'
def PE (X:Cx)(e:Expr)(t:TE):Prop :=
 ∀(pins:List (Addr×Obj))(s:Shared)(σ:St)(H:Hp)(Q:VK),Inv X pins σ H s→t σ H Q→wpAny (model X.prog X.w) X.A (eval e X.env) (EP X pins σ Q) X.xe s
def PT (X:Cx)(e:Expr)(t:TT):Prop :=
 ∀(pins:List (Addr×Obj))(s:Shared)(σ:St)(H:Hp)(Q:Bool→Hp→Prop),Inv X pins σ H s→t σ H Q→wpAny (model X.prog X.w) X.A (isTrue e X.env (eval e X.env)) (TP X pins σ Q) X.xe s
def PW (X:Cx)(e:Expr)(t:TT):Prop :=
 ∀(whole:Sem Value)(pins:List (Addr×Obj))(s:Shared)(σ:St)(H:Hp)(Q:Bool→Hp→Prop),Inv X pins σ H s→t σ H Q→wpAny (model X.prog X.w) X.A (isTrue e X.env whole) (TP X pins σ Q) X.xe s
def PA (X:Cx)(es:List Expr)(t:TA):Prop :=
 ∀(pos:Pos)(pins:List (Addr×Obj))(s:Shared)(σ:St)(H:Hp)(Q:List V→Hp→Prop),Inv X pins σ H s→t σ H Q→wpAny (model X.prog X.w) X.A (spliced (backTo pos (starEach es X.env))) (AP X pins σ Q) X.xe s
def PS (X:Cx)(st:Stmt)(t:TS):Prop :=
 ∀(pins:List (Addr×Obj))(s:Shared)(σ:St)(H:Hp)(D:Lq),Inv X pins σ H s→t D σ H→wpAny (model X.prog X.w) X.A (exec st X.env) (SP X pins D) X.xe s
def PSs (X:Cx)(st:List Stmt)(t:TS):Prop :=
 ∀(pins:List (Addr×Obj))(s:Shared)(σ:St)(H:Hp)(D:Lq),Inv X pins σ H s→t D σ H→wpAny (model X.prog X.w) X.A (execs st X.env) (SP X pins D) X.xe s
theorem thn {α:Type}{t:Sem α}{Q Q':α→Shared→Prop}{M:Model}{A:Around}{E:Value→Shared→Prop}{s:Shared}(h:wpAny M A t Q E s) (hQ:∀a s,Q a s→Q' a s):wpAny M A t Q' E s:=wpAny_mono h hQ fun _ _ x=>x
end L2
namespace L2
open PySem PySem.Spec PyProof.Rows
section
variable {X:Cx}
def KG (i:Nat):TE:=fun σ H Q=>∃v,σ[i]? = some (some v)∧Q v H
def tC (v:V):TE:=fun _ H Q=>Q v H
theorem NU {i:Nat}{x:Str}{pos:Pos}(hN:X.N[i]? = some x) (hv:Vis X.env.scope x) (hd:(x==("__debug__":Str))=false:=by decide) (hcd:(x==("__classdict__":Str))=false:=by decide):PE X (.Name x pos) (KG i):=by
 intro pins s σ H Q I h
 obtain⟨v,e,h⟩:=h
 obtain⟨m,hn,hl⟩:=I.loc
 obtain⟨u,r,l⟩:=hl i x v hN e hv
 have fin:EP X pins σ Q u s:=⟨v,H,I,r,h⟩
 rcases l with⟨hk,hm⟩|⟨hk,c,hc,hcell⟩
 ·exact wpAny_Name (wpAny_loadName_local I.ok.kind hk hn hm fin) hd
 ·rcases hk with hk|hk
  ·exact wpAny_Name (wpAny_loadName_cell I.ok.kind hk hc hcell fin) hd
  ·exact wpAny_Name (wpAny_loadName_free I.ok.kind hk hc hcell fin hcd) hd
theorem OJ {i j pos}:PE X (.Constant (.int i) j pos) (tC (.int i)):=fun _ _ _ H _ I h=>wpAny_Constant_int ⟨.int i,H,I.tok _,⟨_,rfl⟩,h⟩
theorem O0 {b j pos}:PE X (.Constant (.bool b) j pos) (tC (.bl b)):=fun _ _ _ H _ I h=>Constant_bool ⟨.bl b,H,I,rfl,h⟩
theorem Nr {j pos}:PE X (.Constant .none j pos) (tC .non):=fun _ _ _ H _ I h=>Constant_none ⟨.non,H,I,rfl,h⟩
theorem Og {x j pos}:PE X (.Constant (.str x) j pos) (tC (.str x)):=fun _ _ _ H _ I h=>Calls.Constant_str ⟨.str x,H,I.tok _,⟨_,rfl⟩,h⟩
def Gl (X:Cx)(x:Str):Prop:=X.env.kindOf x=some .globalImplicit
theorem Cv {E:Value→Shared→Prop}{pins:List (Addr×Obj)}{s:Shared}{σ:St}{H:Hp}{x:Str}{u:Value}{pos:Pos}{Q:Value→Shared→Prop}(I:Inv X pins σ H s) (hg:Gl X x) (hm:X.mg x=some u) (h:Q u s)
 (hd:(x==("__debug__":Str))=false:=by decide):wpAny (model X.prog X.w) X.A (eval (.Name x pos) X.env) Q E s :=
 Calls.Name_function_global I.ok.kind hg (Calls.loadGlobal_global (by rw[I.ok.glob];exact I.mod.glob.keeps I.bk) hm h) hd
theorem FY {E:Value→Shared→Prop}{pins:List (Addr×Obj)}{s:Shared}{σ:St}{H:Hp}{x:Str}{u:Value}{pos:Pos}{Q:Value→Shared→Prop}(I:Inv X pins σ H s) (hg:Gl X x) (hm:X.mg x=none) (hv:bootBuiltins x=some u) (h:Q u s)
 (hn:x≠"__name__":=by decide) (hd:(x==("__debug__":Str))=false:=by decide):wpAny (model X.prog X.w) X.A (eval (.Name x pos) X.env) Q E s:=by
 obtain⟨mb,h1,h2⟩:=I.mod.blt
 exact Calls.Name_function_global I.ok.kind hg (Calls.loadGlobal_builtin (by rw[I.ok.glob];exact I.mod.glob.keeps I.bk) hm (by rw[I.ok.blt];exact h1.keeps I.bk) ((h2 x hn).trans hv) h) hd
theorem IZ {x:Str}{v:V}{u:Value}{pos:Pos}(hg:Gl X x) (hm:X.mg x=some u) (r:Bi v u) (hd:(x==("__debug__":Str))=false:=by decide):PE X (.Name x pos) (tC v) :=
 fun _ _ _ H _ I h=>Cv I hg hm ⟨v,H,I,r,h⟩ hd
theorem Ih {x:Str}{v:V}{u:Value}{pos:Pos}(hg:Gl X x) (hm:X.mg x=none) (hv:bootBuiltins x=some u) (r:Bi v u) (hn:x≠"__name__":=by decide) (hd:(x==("__debug__":Str))=false:=by decide):PE X (.Name x pos) (tC v) :=
 fun _ _ _ H _ I h=>FY I hg hm hv ⟨v,H,I,r,h⟩ hn hd
variable {a b:Expr}{ta tb:TE}{pos:Pos}
def tB (t:TE):TT:=fun σ H Q=>t σ H fun x H1=>∃c,x=.bl c∧Q c H1
theorem NT {e:Expr}{t:TE}(h:PE X e t) (he:∀whole,isTrue e X.env whole=(do let v ←whole;standAt e.pos;holding [v] (truthy v)):=by intro _;rfl):PT X e (tB t):=by
 intro pins s σ H Q I hw
 refine isTrue_plain (thn (h pins s σ H _ I hw) fun v s1 ⟨x,H1,I1,r1,q1⟩=>?_) (he _)
 obtain⟨d,rfl,q⟩:=q1
 cases r1
 exact wpAny_truthy_bool ⟨H1,I1,q⟩
variable {tA tB':TT}{rest:List Expr}
def Qm (t u:TT):TT:=fun σ H Q=>t σ H fun c H1=>if c=true then u σ H1 Q else Q false H1
def tOr (t u:TT):TT:=fun σ H Q=>t σ H fun c H1=>if c=true then Q true H1 else u σ H1 Q
def QC (t:TT):TT:=fun σ H Q=>t σ H fun c H1=>Q (!c) H1
theorem Mg (ha:PT X a tA):PW X (.BoolOp .And [a] pos) tA:=by
 intro wh pins s σ H Q I h
 refine isTrue_and (thn (ha pins s σ H Q I h) fun c s1 e=>?_)
 cases c with
 |true=>exact isTrue_and_nil e
 |false=>exact e
theorem Ou (ha:PT X a tA):PW X (.BoolOp .Or [a] pos) tA:=by
 intro wh pins s σ H Q I h
 refine isTrue_or (thn (ha pins s σ H Q I h) fun c s1 e=>?_)
 cases c with
 |false=>exact isTrue_or_nil e
 |true=>exact e
theorem ND (ha:PT X a tA)(hb:PW X (.BoolOp .And (b::rest) pos) tB'):PW X (.BoolOp .And (a::b::rest) pos) (Qm tA tB'):=by
 intro wh pins s σ H Q I h
 refine isTrue_and (thn (ha pins s σ H _ I h) fun c s1 hh=>?_)
 obtain⟨H1,I1,q1⟩:=hh
 cases c with
 |true=>exact hb wh pins s1 σ H1 Q I1 q1
 |false=>exact⟨H1,I1,q1⟩
theorem O8 (ha:PT X a tA)(hb:PW X (.BoolOp .Or (b::rest) pos) tB'):PW X (.BoolOp .Or (a::b::rest) pos) (tOr tA tB'):=by
 intro wh pins s σ H Q I h
 refine isTrue_or (thn (ha pins s σ H _ I h) fun c s1 hh=>?_)
 obtain⟨H1,I1,q1⟩:=hh
 cases c with
 |true=>exact⟨H1,I1,q1⟩
 |false=>exact hb wh pins s1 σ H1 Q I1 q1
theorem Oc (ha:PT X a tA):PT X (.UnaryOp .Not a pos) (QC tA):=by
 intro pins s σ H Q I h
 exact isTrue_not (ha pins s σ H (fun c H1=>Q (!c) H1) I h)
def OW (ta tb:TE):TE:=fun σ H Q=>ta σ H fun x H1=>∃c,x=.bl c∧if c=true then tb σ H1 Q else Q (.bl false) H1
def OX (ta:TE):TE:=fun σ H Q=>ta σ H fun x H1=>∃c,x=.bl c∧Q (.bl (!c)) H1
theorem N7 {op}{t:TE}(h:PE X a t):PE X (.BoolOp op [a] pos) t:=fun pins s σ H Q I hw=>BoolOp_one (h pins s σ H Q I hw)
theorem NQ (ha:PE X a ta)(hb:PE X (.BoolOp .And (b::rest) pos) tb):PE X (.BoolOp .And (a::b::rest) pos) (OW ta tb):=by
 intro pins s σ H Q I h
 refine BoolOp_and (thn (ha pins s σ H _ I h) fun v s1 hh=>?_)
 obtain⟨x,H1,I1,r1,q1⟩:=hh
 obtain⟨c,rfl,q1⟩:=q1
 cases r1
 refine wpAny_truthy_bool ?_
 cases c with
 |true=>exact hb pins s1 σ H1 Q I1 q1
 |false=>exact⟨.bl false,H1,I1,rfl,q1⟩
theorem OK (ha:PE X a ta):PE X (.UnaryOp .Not a pos) (OX ta):=by
 intro pins s σ H Q I h
 refine UnaryOp_ (thn (ha pins s σ H _ I h) fun v s1 hh=>?_)
 obtain⟨x,H1,I1,r1,q1⟩:=hh
 obtain⟨c,rfl,q1⟩:=q1
 cases r1
 exact not_of (wpAny_truthy_bool ⟨.bl (!c),H1,I1,rfl,q1⟩)
end
end L2
namespace L2
open PySem PySem.Spec PyProof.Rows
def SqL (K:PySem.W.Frag)(H:Hp)(a:Addr)(xs:List V):Prop :=
 Rd H a (.lst xs) ∨
  ∃(o:Obj)(its:Array Value)(n:Nat),K.lookup a=some o∧o.cls=.type "list"∧o.dict=none∧o.data=.seq its n∧its.size≤sizeLine∧Be xs its.toList
def SqT (K:PySem.W.Frag)(H:Hp)(a:Addr)(xs:List V):Prop :=
 Rd H a (.tup xs) ∨
  ∃(o:Obj)(its:Array Value)(n:Nat),K.lookup a=some o∧o.cls=.type "tuple"∧o.data=.seq its n∧its.size≤sizeLine∧Be xs its.toList
def QV:Value→Option V
 |.none=>some .non
 |.bool b=>some (.bl b)
 |.int i _=>some (.int i)
 |.str x _=>some (.str x)
 |.bytes b _=>some (.byt b)
 |.float b _=>some (.flt b)
 |.ref a=>some (.ref a)
 |.type n=>some (.ty n)
 |_=>none
theorem Bi.abs {x:V}{u:Value}(r:Bi x u):QV u=some x:=by
 cases x with
 |non=>cases r;rfl
 |bl _=>cases r;rfl
 |int _=>obtain⟨t,rfl⟩:=r;rfl
 |str _=>obtain⟨t,rfl⟩:=r;rfl
 |byt _=>obtain⟨t,rfl⟩:=r;rfl
 |flt _=>obtain⟨t,rfl⟩:=r;rfl
 |ref _=>cases r;rfl
 |ty _=>cases r;rfl
theorem Bi.inj {x y:V}{u:Value}(r:Bi x u) (q:Bi y u):x=y:=qAn (r.abs.symm.trans q.abs)
theorem Be.inj:∀{xs ys:List V}{us:List Value},Be xs us→Be ys us→xs=ys
 |_,_,_,.nil,.nil=>rfl
 |_,_,_,.cons r t,.cons r' t'=>by rw[r.inj r',Be.inj t t']
section
variable {X:Cx}{pins:List (Addr×Obj)}{σ:St}{H:Hp}{s:Shared}{a:Addr}{xs ys:List V}
theorem SqL.of {K:PySem.W.Frag}(h:H a=some (.lst xs)):SqL K H a xs:=.inl (.inl h)
theorem SqT.of {K:PySem.W.Frag}(h:H a=some (.tup xs)):SqT K H a xs:=.inl (.inl h)
theorem Inv.list (I:Inv X pins σ H s)(h:SqL X.K H a xs):∃its:List Value,Be xs its∧PlainL s.heap a its.toArray∧xs.length≤sizeLine:=by
 rcases h with h|⟨o,its,n,hk,hc,hd,hs,hz,r⟩
 ·obtain⟨z,its,n,r,e⟩:=h.ok I.hok
  exact⟨its,r,⟨_,n,e,rfl,rfl,rfl⟩,z⟩
 ·refine⟨its.toList,r,⟨o,n,I.kIn a o hk,hc,hd,by simpa using hs⟩,?_⟩
  have e:=r.length
  simp only[Array.length_toList] at e
  omega
theorem Inv.tuple (I:Inv X pins σ H s)(h:SqT X.K H a xs):∃its:List Value,Be xs its∧IsTup s.heap a its.toArray∧xs.length≤sizeLine:=by
 rcases h with h|⟨o,its,n,hk,hc,hs,hz,r⟩
 ·obtain⟨z,its,r,p⟩:=h.ok I.hok
  exact⟨its,r,p,z⟩
 ·refine⟨its.toList,r,⟨o,I.kIn a o hk,hc,n,by simpa using hs⟩,?_⟩
  have e:=r.length
  simp only[Array.length_toList] at e
  omega
theorem Inv.list_inj (I:Inv X pins σ H s)(h:SqL X.K H a xs)(h':SqL X.K H a ys):xs=ys:=by
 obtain⟨its,r,⟨o,n,e,_,_,d⟩,_⟩:=I.list h
 obtain⟨its',r',⟨o',n',e',_,_,d'⟩,_⟩:=I.list h'
 rw[e] at e';cases e'
 rw[d] at d'
 injection d' with d1 _
 have:its=its':=by simpa using congrArg Array.toList d1
 subst this
 exact r.inj r'
theorem Inv.tuple_inj (I:Inv X pins σ H s)(h:SqT X.K H a xs)(h':SqT X.K H a ys):xs=ys:=by
 obtain⟨its,r,⟨o,e,_,n,d⟩,_⟩:=I.tuple h
 obtain⟨its',r',⟨o',e',_,n',d'⟩,_⟩:=I.tuple h'
 rw[e] at e';cases e'
 rw[d] at d'
 injection d' with d1 _
 have:its=its':=by simpa using congrArg Array.toList d1
 subst this
 exact r.inj r'
end
abbrev Cx.wish (X:Cx)(E:Value→Shared→Prop):Cx:={ X with xe:=E }
abbrev Cx.nox (X:Cx):Cx:=X.wish fun _ _=>False
theorem Cx.Ok.wish {X:Cx}(ok:X.Ok) (E:Value→Shared→Prop):(X.wish E).Ok :=
 ⟨ok.mod,ok.kind,ok.glob,ok.blt,ok.above,ok.inj,ok.has,ok.cab,ok.hd,ok.frames,ok.stk,ok.exf,ok.bs,ok.bsz,ok.noex,ok.exfs,ok.funs,ok.frf,ok.tb⟩
theorem Cx.Ok.unwish {X:Cx}{E:Value→Shared→Prop}(ok:(X.wish E).Ok):X.Ok :=
 ⟨ok.mod,ok.kind,ok.glob,ok.blt,ok.above,ok.inj,ok.has,ok.cab,ok.hd,ok.frames,ok.stk,ok.exf,ok.bs,ok.bsz,ok.noex,ok.exfs,ok.funs,ok.frf,ok.tb⟩
section
variable {X:Cx}{pins:List (Addr×Obj)}{σ:St}{H:Hp}{s:Shared}{E:Value→Shared→Prop}
theorem Inv.wish (I:Inv X pins σ H s)(E:Value→Shared→Prop):Inv (X.wish E) pins σ H s:=⟨I.ok.wish E,I.os,I.bare,I.base,I.loc,I.cell,I.free,I.freeC,I.pin,I.hok,I.len⟩
theorem Inv.unwish (I:Inv (X.wish E) pins σ H s):Inv X pins σ H s:=⟨I.ok.unwish,I.os,I.bare,I.base,I.loc,I.cell,I.free,I.freeC,I.pin,I.hok,I.len⟩
theorem SP.unwish {D:Lq}{f:Flow}{s':Shared}(h:SP (X.wish E) pins D f s'):SP X pins D f s':=by
 cases f with
 |next=>obtain⟨σ',H',I,q⟩:=h;exact⟨σ',H',I.unwish,q⟩
 |brk=>obtain⟨σ',H',I,q⟩:=h;exact⟨σ',H',I.unwish,q⟩
 |cont=>obtain⟨σ',H',I,q⟩:=h;exact⟨σ',H',I.unwish,q⟩
 |ret u=>obtain⟨v,σ',H',I,r,q⟩:=h;exact⟨v,σ',H',I.unwish,r,q⟩
theorem PSs.nox {st:List Stmt}{t:TS}(h:PSs X.nox st t):PSs X st t:=fun pins s σ H D I hw =>
 wpAny_mono (h pins s σ H D (I.wish _) hw) (fun _ _ q=>q.unwish) fun _ _ z=>False.elim z
end
section
variable {X:Cx}{st:Stmt}{rest:List Stmt}{t u:TS}{e:Expr}{te:TE}{pos:Pos}
def Pj:TS:=fun D σ H=>D.nx σ H
def Qu (t u:TS):TS:=fun D σ H=>t { D with nx:=u D } σ H
theorem Mu:PSs X [] Pj:=fun _ _ σ H _ I h=>wpAny_execs_nil ⟨σ,H,I,h⟩
theorem Hs (h1:PS X st t)(h2:PSs X rest u):PSs X (st::rest) (Qu t u):=by
 intro pins s σ H D I h
 refine wpAny_execs_cons (thn (h1 pins s σ H { D with nx:=u D } I h) fun f s1 q=>?_)
 cases f with
 |next =>
  obtain⟨σ',H',I',q⟩:=q
  exact h2 pins s1 σ' H' D I' q
 |ret v=>exact q
 |brk=>exact q
 |cont=>exact q
theorem LV (h1:PS X st t):PSs X [st] t:=by
 intro pins s σ H D I h
 refine wpAny_execs_cons (thn (h1 pins s σ H D I h) fun f s1 q=>?_)
 cases f with
 |next=>exact wpAny_execs_nil q
 |ret v=>exact q
 |brk=>exact q
 |cont=>exact q
theorem Inv.quiet {pins:List (Addr×Obj)}{σ:St}{H:Hp}{s:Shared}(I:Inv X pins σ H s):interactive X.env=false:=by simp[interactive,I.ok.kind]
def NF (te:TE):TS:=fun D σ H=>te σ H fun _ H1=>D.nx σ H1
theorem Fc (he:PE X e te)(hs:swapsWith e none pos.line X.env=pure false:=by rfl):PS X (.Expr e pos) (NF te):=by
 intro pins s σ H D I h
 exact wpAny_Expr_any (thn (he pins s σ H _ I h) fun v s1 ⟨x,H1,I1,r1,q1⟩=>⟨σ,H1,I1,q1⟩) I.quiet hs
def QI (te:TE):TS:=fun D σ H=>te σ H D.rt
theorem K2 (he:PE X e te):PS X (.Return (some e) pos) (QI te):=by
 intro pins s σ H D I h
 exact wpAny_Return_some (thn (he pins s σ H _ I h) fun v s1 ⟨x,H1,I1,r1,q1⟩=>⟨x,σ,H1,I1,r1,q1⟩)
def QN (c:TT)(t u:TS):TS:=fun D σ H=>c σ H fun b H1=>if b=true then t D σ H1 else u D σ H1
theorem Pd {c:Expr}{a b:List Stmt}{tc:TT}(hc:PT X c tc) (ha:PSs X a t) (hb:PSs X b u):PS X (.If c a b pos) (QN tc t u):=by
 intro pins s σ H D I h
 refine wpAny_If (thn (hc pins s σ H _ I h) fun d s1 hh=>?_)
 obtain⟨H1,I1,q1⟩:=hh
 cases d with
 |true=>exact ha pins s1 σ H1 D I1 q1
 |false=>exact hb pins s1 σ H1 D I1 q1
def Of:TS:=fun _ _ _=>False
theorem Kb:PS X st Of:=fun _ _ _ _ _ _ h=>h.elim
end
abbrev TG:=V→St→Hp→(St→Hp→Prop)→Prop
def PG (X:Cx)(target:Expr)(t:TG):Prop :=
 ∀(pins:List (Addr×Obj))(s:Shared)(σ:St)(H:Hp)(v:V)(u:Value)(Q:St→Hp→Prop),Inv X pins σ H s→Bi v u→t v σ H Q →
  wpAny (model X.prog X.w) X.A (assign target X.env u) (fun _ s'=>∃σ' H',Inv X pins σ' H' s'∧Q σ' H') X.xe s
section
variable {X:Cx}{pos:Pos}
def Gd (i:Nat):TG:=fun v σ H Q=>Q (σ.set i (some v)) H
theorem EY {i:Nat}{x:Str}(hN:X.N.Nodup) (hi:X.N[i]? = some x) (hx:Loc X.env.scope x) (hf:X.fn x=true∨X.env.scope.names.lookup x=some .local:=by first|exact .inl rfl|exact .inr rfl|assumption):PG X (.Name x pos) (Gd i):=by
 intro pins s σ H v u Q I r h
 exact wpAny_assign_Name (CM I hN hi hx r (fun s' I'=>⟨_,H,I',h⟩) hf)
def QD (te:TE)(g:TG):TS:=fun D σ H=>te σ H fun x H1=>g x σ H1 D.nx
theorem OA {i:Nat}{x:Str}{e:Expr}{te:TE}{pos':Pos}(hN:X.N.Nodup) (hi:X.N[i]? = some x) (hx:Loc X.env.scope x) (he:PE X e te) (hs:swapsWith e (some (.Name x pos')) pos.line X.env=pure false:=by rfl) (hf:X.fn x=true∨X.env.scope.names.lookup x=some .local:=by first|exact .inl rfl|exact .inr rfl|assumption) :
 PS X (.Assign [.Name x pos'] e pos) (QD te (Gd i)):=by
 intro pins s σ H D I h
 refine wpAny_Assign_Name (thn (he pins s σ H _ I h) fun v s1 ⟨y,H1,I1,r1,q1⟩=>?_) hs
 exact CM I1 hN hi hx r1 (fun s2 I2=>⟨_,H1,I2,q1⟩) hf
end
section
variable {X:Cx}{pos:Pos}
def Ob (c:TT)(tb:TS):TS:=fun D σ H=>∃W:Nat→St→Hp→Prop,(∃m,W m σ H)∧∀m σ H,W m σ H →
 c σ H fun b H1=>if b=true then ∃N:St→Hp→Prop,(∀σ' H',N σ' H'→∃m',m'<m∧W m' σ' H')∧tb { D with nx:=N,ct:=N,bk:=D.nx } σ H1 else D.nx σ H1
theorem JX {c:Expr}{body:List Stmt}{tc:TT}{tb:TS}(hp:PassesOwn (model X.prog X.w) X.A X.env X.xe) (hc:PT X c tc) (hb:PSs X body tb):PS X (.While c body [] pos) (Ob tc tb):=by
 intro pins s σ H D I h
 obtain⟨W,⟨m0,w0⟩,turn⟩:=h
 refine wpAny_While (codeAny_whileLoop (fun n s'=>∃σ' H',Inv X pins σ' H' s'∧W n σ' H') ?_ m0 ⟨σ,H,I,w0⟩)
 rintro n s1 ⟨σ1,H1,I1,w1⟩
 refine wpAny_passesOwn hp (thn (hc pins s1 σ1 H1 _ I1 (turn n σ1 H1 w1)) fun b s2 hh=>?_)
 obtain⟨H2,I2,q2⟩:=hh
 cases b with
 |true =>
  obtain⟨N,hN,q2⟩:=q2
  rw[if_pos rfl]
  refine wpAny_passesOwn hp (thn (hb pins s2 σ1 H2 _ I2 q2) fun f s3 q3=>?_)
  cases f with
  |next =>
   obtain⟨σ3,H3,I3,n3⟩:=q3
   obtain⟨m',hm,w3⟩:=hN σ3 H3 n3
   exact⟨m',hm,σ3,H3,I3,w3⟩
  |cont =>
   obtain⟨σ3,H3,I3,n3⟩:=q3
   obtain⟨m',hm,w3⟩:=hN σ3 H3 n3
   exact⟨m',hm,σ3,H3,I3,w3⟩
  |brk=>exact q3
  |ret v=>exact q3
 |false =>
  rw[if_neg qAf]
  exact wpAny_execs_nil ⟨σ1,H2,I2,q2⟩
end
structure It where
 go:Nat→Hp→Prop
 yld:Nat→Hp→V→Hp→Prop
 stop:Nat→Hp→Prop
def HD (X:Cx)(pins:List (Addr×Obj))(H:Hp)(b:Addr):Prop :=
 H b=none∧b≠X.env.locals∧b∉X.fs∧(b∈X.ex∨X.s₀.heap.objs.size≤b)∧(∀x c,X.env.cells.lookup x=some c→c≠b)∧∀p∈X.pn++pins,p.1≠b
theorem Inv.fpOk {X:Cx}{pins:List (Addr×Obj)}{σ:St}{H H':Hp}{s:Shared}{b:Addr}(I:Inv X pins σ H s) (hb:s.heap.objs.size≤b) (hn:H' b=none):HD X pins H' b:=by
 refine⟨hn,qBM (qAk I.lt hb),I.nofs hb,.inr (qAr I.sz hb),fun x c e z=>?_,fun p hp z=>?_⟩
 ·obtain⟨v,q⟩:=I.cell x c e
  exact absurd (qAk q.lt (by rw[z];exact hb)) (qAF _)
 ·exact absurd (qAk (qAh (I.pin p hp).1) (by rw[z];exact hb)) (qAF _)
structure M5 (P:Program)(w:World)(K:PySem.W.Frag)(tg:Expr)(J:It)(fp:List Addr)(it:Addr)(tn:Nat→Heap→Prop):Prop where
 mem:it∈fp
 obj:∀i h,tn i h→∀b∈fp,∃o,h.get? b=some o∧∀v,o.data≠.cell v
 keep:∀i h h',tn i h→(∀b∈fp,∀o,h.get? b=some o→h'.get? b=some o)→tn i h'
 item:∀(X:Cx),X.prog=P→X.w=w→X.K=K→X.calm=true→∀(i:Nat)(pins:List (Addr×Obj))(s:Shared)(σ:St)(H:Hp)(E:Value→Shared→Prop),Inv X pins σ H s→(∀b∈fp,HD X pins H b)→tn i s.heap→J.go i H →
  wpAny (model P w) X.A (pyNext (.ref it)) (fun r s1=>∃u,r=some u ∧
   wpAny (model P w) X.A (letOwnedTupleGo tg (.ref it) u) (fun _ s2=>∃x H',Inv X pins σ H' s2∧Bi x u∧J.yld i H x H'∧tn (i+1) s2.heap∧∀b∈fp,H' b=none) E s1) E s
 done:∀(X:Cx),X.prog=P→X.w=w→X.K=K→X.calm=true→∀(i:Nat)(pins:List (Addr×Obj))(s:Shared)(σ:St)(H:Hp)(E:Value→Shared→Prop),Inv X pins σ H s→(∀b∈fp,HD X pins H b)→tn i s.heap→J.stop i H →
  wpAny (model P w) X.A (pyNext (.ref it)) (fun r s1=>r=none∧Inv X pins σ H s1) E s
 self:∀(A:Around)(i:Nat)(s:Shared)(Q:Value→Shared→Prop)(E:Value→Shared→Prop),tn i s.heap→Q (.ref it) s→wpAny (model P w) A (pyIter (.ref it)) Q E s
abbrev TI:=St→Hp→(It→Hp→Prop)→Prop
def PIE (X:Cx)(pins:List (Addr×Obj))(σ:St)(tg:Expr)(R:It→Hp→Prop)(itv:Value)(s2:Shared):Prop :=
 ∃(it:Addr)(fp:List Addr)(tn:Nat→Heap→Prop)(J:It)(H':Hp),itv=.ref it∧Inv X pins σ H' s2∧M5 X.prog X.w X.K tg J fp it tn∧tn 0 s2.heap∧(∀b∈fp,HD X pins H' b)∧R J H'
def PI (X:Cx)(tg iter:Expr)(wi:TI):Prop :=
 ∀(pins:List (Addr×Obj))(s:Shared)(σ:St)(H:Hp)(R:It→Hp→Prop),Inv X pins σ H s→wi σ H R →
  wpAny (model X.prog X.w) X.A (eval iter X.env) (fun v s1=>wpAny (model X.prog X.w) X.A (pyIter v) (PIE X pins σ tg R) X.xe s1) X.xe s
theorem KC {M:Model}{A:Around}{E:Value→Shared→Prop}{s:Shared}{tg:Expr}{it:Addr}{u:Value}{o:Obj}{n:String}{vs:Array Value}{Q:Unit→Shared→Prop}(ho:s.heap.get? it=some o) (hc:o.cls=.type n) (hd:o.data=.fields vs)
 (hn:["enumerate","zip","dict_itemiterator","dict_reverseitemiterator","odict_iterator","itertools.zip_longest","itertools.pairwise"].contains n=false) (hQ:Q Unit.unit s):wpAny M A (letOwnedTupleGo tg (.ref it) u) Q E s:=by
 unfold letOwnedTupleGo
 cases tg<;>first
  |exact wpAny_pure hQ
  |(cases u<;>first
   |exact wpAny_pure hQ
   |(refine wpAny_bind (wpAny_load ho ?_)
     rw[hc,hd]
     show wpAny M A (if (["enumerate","zip","dict_itemiterator","dict_reverseitemiterator","odict_iterator","itertools.zip_longest","itertools.pairwise"].contains n&&vs[0]? == some (rawInt _))=true then _ else _) Q E s
     rw[if_neg (by intro h;rw[hn,Bool.false_and] at h;cases h)]
     exact wpAny_pure hQ))
def Itl (K:PySem.W.Frag)(a:Addr):It :=
 ⟨fun i H=>∃xs x,SqL K H a xs∧xs[i]? = some x,fun i H x H'=>H'=H∧∀xs,SqL K H a xs→xs[i]? = some x,fun i H=>∃xs,SqL K H a xs∧xs.length≤i⟩
def Itt (K:PySem.W.Frag)(a:Addr):It :=
 ⟨fun i H=>∃xs x,SqT K H a xs∧xs[i]? = some x,fun i H x H'=>H'=H∧∀xs,SqT K H a xs→xs[i]? = some x,fun i H=>∃xs,SqT K H a xs∧xs.length≤i⟩
def Itr (lo:Int)(n:Nat):It:=⟨fun i _=>i<n,fun i H x H'=>H'=H∧x=.int (lo+i),fun i _=>n≤i⟩
theorem Jo {P:Program}{w:World}{K:PySem.W.Frag}{tg:Expr}(a it:Addr):M5 P w K tg (Itl K a) [it] it (fun i h=>h.IsListIter it a i) where
 mem:=by simp
 obj:=fun i h st b hb=>by
  have e:b=it:=by simpa using hb
  subst e
  obtain⟨o,e,c,d⟩:=st
  exact⟨o,e,fun v z=>by rw[d] at z;cases z⟩
 keep:=fun i h h' st k=>st.at fun o e=>k it (by simp) o e
 item:=by
  intro X hP hw hK hc i pins s σ H E I hf st hg
  subst hP hw hK
  obtain⟨xs,x,hq,hx⟩:=hg
  obtain⟨its,rv,p,hz⟩:=I.list hq
  obtain⟨u,hu,ru⟩:=rv.get hx
  obtain⟨f0,f1,f2,f3,f4,f5⟩:=hf it (by simp)
  refine wpAny_pyNext_list_item st p.isList (x:=u) (by simpa using hu) fun h' st' sb=>?_
  have I1:Inv X pins σ H { s with heap:=h' }:=I.turned (t':=s.toks) (fun b o hb e=>(sb.2 b hb).trans e) f0 f1 f3 f4 f5
  obtain⟨o,e,c,d⟩:=id st'
  exact⟨u,rfl,KC (s:={ s with heap:=h' }) e c d ∅ ⟨x,H,I1,ru,⟨rfl,fun ys hy=>by rw[I.list_inj hy hq];exact hx⟩,st',fun b hb=>(hf b hb).1⟩⟩
 done:=by
  intro X hP hw hK hc i pins s σ H E I hf st hg
  subst hP hw hK
  obtain⟨xs,hq,hx⟩:=hg
  obtain⟨its,rv,p,hz⟩:=I.list hq
  obtain⟨f0,f1,f2,f3,f4,f5⟩:=hf it (by simp)
  have hl:=rv.length
  exact wpAny_pyNext_list_end (I.ok.hd hc) st p.isList (by simp;omega) fun h' eb=>⟨rfl,I.turned (t':=s.toks) (fun b o hb e=>eb b o hb e) f0 f1 f3 f4 f5⟩
 self:=fun _ _ _ _ _ st h=>wpAny_pyIter_listiter st h
theorem Hu {P:Program}{w:World}{K:PySem.W.Frag}{tg:Expr}(a it:Addr):M5 P w K tg (Itt K a) [it] it (fun i h=>h.IsTupleIter it a i) where
 mem:=by simp
 obj:=fun i h st b hb=>by
  have e:b=it:=by simpa using hb
  subst e
  obtain⟨o,e,c,d⟩:=st
  exact⟨o,e,fun v z=>by rw[d] at z;cases z⟩
 keep:=fun i h h' st k=>st.at fun o e=>k it (by simp) o e
 item:=by
  intro X hP hw hK hc i pins s σ H E I hf st hg
  subst hP hw hK
  obtain⟨xs,x,hq,hx⟩:=hg
  obtain⟨its,rv,p,hz⟩:=I.tuple hq
  obtain⟨u,hu,ru⟩:=rv.get hx
  obtain⟨f0,f1,f2,f3,f4,f5⟩:=hf it (by simp)
  refine wpAny_pyNext_tuple_item st (show s.heap.IsTuple a its.toArray from p) (x:=u) (by simpa using hu) fun h' st' sb=>?_
  have I1:Inv X pins σ H { s with heap:=h' }:=I.turned (t':=s.toks) (fun b o hb e=>(sb.2 b hb).trans e) f0 f1 f3 f4 f5
  obtain⟨o,e,c,d⟩:=id st'
  exact⟨u,rfl,KC (s:={ s with heap:=h' }) e c d ∅ ⟨x,H,I1,ru,⟨rfl,fun ys hy=>by rw[I.tuple_inj hy hq];exact hx⟩,st',fun b hb=>(hf b hb).1⟩⟩
 done:=by
  intro X hP hw hK hc i pins s σ H E I hf st hg
  subst hP hw hK
  obtain⟨xs,hq,hx⟩:=hg
  obtain⟨its,rv,p,hz⟩:=I.tuple hq
  obtain⟨f0,f1,f2,f3,f4,f5⟩:=hf it (by simp)
  have hl:=rv.length
  exact wpAny_pyNext_tuple_end (I.ok.hd hc) st (show s.heap.IsTuple a its.toArray from p) (by simp;omega) fun h' eb=>⟨rfl,I.turned (t':=s.toks) (fun b o hb e=>eb b o hb e) f0 f1 f3 f4 f5⟩
 self:=fun _ _ _ _ _ st h=>wpAny_pyIter_tupleiter st h
theorem Hy {P:Program}{w:World}{K:PySem.W.Frag}{tg:Expr}(it:Addr) (lo:Int) (n:Nat):M5 P w K tg (Itr lo n) [it] it (fun i h=>IsRangeIter h it (lo+(i:Nat)*1) ((n:Int)-(i:Nat)) 1) where
 mem:=by simp
 obj:=fun i h st b hb=>by
  have e:b=it:=by simpa using hb
  subst e
  exact⟨_,st,fun v z=>by
   have z':Data.fields _=Data.cell v:=z
   cases z'⟩
 keep:=fun i h h' st k=>k it (by simp) _ st
 item:=by
  intro X hP hw hK hc i pins s σ H E I hf st hg
  subst hP hw hK
  obtain⟨f0,f1,f2,f3,f4,f5⟩:=hf it (by simp)
  have W:=Walks.range (prog:=X.prog) (w:=X.w) (I.ok.hd hc) it lo 1 n
  refine W.item i s _ _ hg st fun v h' tk hv st' kk=>?_
  obtain⟨t,rfl⟩:=hv
  have I1:Inv X pins σ H { s with heap:=h',toks:=tk }:=I.turned (fun b o hb e=>kk b o (by simpa using hb) e) f0 f1 f3 f4 f5
  refine⟨_,rfl,KC (s:={ s with heap:=h',toks:=tk }) (n:="range_iterator") st' rfl rfl ∅ ⟨.int (lo+i),H,I1,⟨t,?_⟩,⟨rfl,rfl⟩,st',fun b hb=>(hf b hb).1⟩⟩
  rw[qCg]
 done:=by
  intro X hP hw hK hc i pins s σ H E I hf st hg
  subst hP hw hK
  obtain⟨f0,f1,f2,f3,f4,f5⟩:=hf it (by simp)
  exact wpAny_pyNext_range_end (I.ok.hd hc) st (by have:n≤i:=hg;omega) fun h' eb=>⟨rfl,I.turned (t':=s.toks) (fun b o hb e=>eb b o hb e) f0 f1 f3 f4 f5⟩
 self:=fun _ _ _ _ _ st h=>wpAny_pyIter_rangeiter st h
end L2
namespace L2
open PySem PySem.Spec PyProof.Rows
section
variable {X:Cx}{tg:Expr}
theorem GY {pins:List (Addr×Obj)}{σ:St}{H:Hp}{s:Shared}{R:It→Hp→Prop}{E:Value→Shared→Prop}{lo hi:Int}{t u v:Tok}{tk:Nat}(I:Inv X pins σ H s) (h1:-(2^62)≤lo) (h2:lo<2^62) (h3:-(2^62)≤hi) (h4:hi<2^62)
 (q:R (Itr lo (hi-lo).toNat) H):wpAny (model X.prog X.w) X.A (pyIter (.ref s.heap.objs.size)) (PIE X pins σ tg R) E { s with heap:=s.heap.push { cls:=.type "range",data:=.fields #[.int lo t,.int hi u,.int 1 v] },toks:=tk }:=by
 refine wpAny_pyIter_range (IsRange.new ..) (small_one h1 h2 h3 h4) ?_
 have I1:Inv X pins σ H { s with heap:=s.heap.push { cls:=.type "range",data:=.fields #[.int lo t,.int hi u,.int 1 v] },toks:=tk }:=I.kept fun b o e=>qAm _ e
 refine⟨(s.heap.push { cls:=.type "range",data:=.fields #[.int lo t,.int hi u,.int 1 v] }).objs.size,[(s.heap.push { cls:=.type "range",data:=.fields #[.int lo t,.int hi u,.int 1 v] }).objs.size],_,_,H,rfl,
  I1.kept (t':=tk) fun b o e=>qAm _ e,Hy _ lo (hi-lo).toNat,?_,fun b hb=>?_,q⟩
 ·have e1:lo+((0:Nat):Int)*1=lo:=by simp
  have e2:(((hi-lo).toNat:Nat):Int)-((0:Nat):Int)=Builtin.Range.rangeSize lo hi 1:=by rw[rangeSize_one];split<;>omega
  show IsRangeIter _ _ (lo+((0:Nat):Int)*1) ((((hi-lo).toNat:Nat):Int)-((0:Nat):Int)) 1
  rw[e1,e2]
  exact qAH _ rfl
 ·have e:b=(s.heap.push { cls:=.type "range",data:=.fields #[.int lo t,.int hi u,.int 1 v] }).objs.size:=by simpa using hb
  subst e
  exact I1.fpOk (qAj _) (I1.hok.fresh (qAj _))
def Nx (ta:TA):TI:=fun σ H R=>ta σ H fun vs H1=>∃j:Int,vs=[.int j]∧-(2^62)≤j∧j<2^62∧R (Itr 0 j.toNat) H1
def LR (ta:TA):TI:=fun σ H R=>ta σ H fun vs H1=>∃i j:Int,vs=[.int i,.int j]∧(-(2^62)≤i∧i<2^62∧-(2^62)≤j∧j<2^62)∧R (Itr i (j-i).toNat) H1
theorem Ii {a:Expr}{ta:TA}{p pos:Pos}(hg:Gl X "range") (hm:X.mg "range"=none) (ha:PA X [a] ta) (hs:starEach [a] X.env=[(false,eval a X.env)]:=by rfl):PI X tg (.Call (.Name "range" p) [a] [] pos) (Nx ta):=by
 intro pins s σ H R I h
 refine Call_ (FY I hg hm boot_range (qBn (thn (ha pos pins s σ H _ I h) fun us s1 ⟨vs,H1,I1,r1,q1⟩=>?_) hs rfl))
 obtain⟨j,e,q1,q2,q⟩:=q1
 subst e
 cases r1 with
 |cons r rr =>
  cases rr
  obtain⟨t,rfl⟩:=r
  exact call_range_1 (GY I1 () () q1 q2 (by simpa using q))
theorem Ec {a b:Expr}{ta:TA}{p pos:Pos}(hg:Gl X "range") (hm:X.mg "range"=none) (ha:PA X [a,b] ta) (hs:starEach [a,b] X.env=[(false,eval a X.env),(false,eval b X.env)]:=by rfl) (hs2:starEach [b] X.env=[(false,eval b X.env)]:=by rfl) :
 PI X tg (.Call (.Name "range" p) [a,b] [] pos) (LR ta):=by
 intro pins s σ H R I h
 refine Call_ (FY I hg hm boot_range (qBn (thn (ha pos pins s σ H _ I h) fun us s1 ⟨vs,H1,I1,r1,q1⟩=>?_) (by rw[hs,hs2]) (by rw[hs2];rfl)))
 obtain⟨i,j,e,⟨q1,q2,q3,q4⟩,q⟩:=q1
 subst e
 cases r1 with
 |cons r rr =>
  cases rr with
  |cons r' rr =>
   cases rr
   obtain⟨t,rfl⟩:=r
   obtain⟨t',rfl⟩:=r'
   exact call_range_2 (GY I1 q1 q2 q3 q4 q)
def ON (wi:TI)(g:TG)(tb:TS):TS:=fun D σ H=>wi σ H fun J H1=>∃W:Nat→Nat→St→Hp→Prop,(∃m,W 0 m σ H1)∧∀i m σ H,W i m σ H →
 (J.stop i H∧D.nx σ H)∨(J.go i H∧∃N:St→Hp→Prop,(∀σ' H',N σ' H'→∃m',m'<m∧W (i+1) m' σ' H')∧∀x H',J.yld i H x H'→g x σ H' fun σ2 H2=>tb { D with nx:=N,ct:=N,bk:=D.nx } σ2 H2)
def EI (fp:List Addr)(h:Heap):List (Addr×Obj):=fp.filterMap fun b=>(h.get? b).map fun o=>(b,o)
theorem Bu {fp:List Addr}{h:Heap}{b:Addr}{o:Obj}(hb:b∈fp) (e:h.get? b=some o):(b,o)∈EI fp h:=qBe.mpr ⟨b,hb,by rw[e];rfl⟩
theorem JI {fp:List Addr}{h:Heap}{p:Addr×Obj}(hp:p∈EI fp h):p.1∈fp∧h.get? p.1=some p.2:=by
 obtain⟨b,hb,e⟩:=qBe.mp hp
 cases q:h.get? b with
 |none=>rw[q] at e;cases e
 |some o =>
  rw[q] at e
  have e':(b,o)=p:=qAn e
  subst e'
  exact⟨hb,q⟩
theorem Inv.pinned {pins:List (Addr×Obj)}{σ:St}{H:Hp}{s:Shared}{fp:List Addr}(I:Inv X pins σ H s) (hf:∀b∈fp,HD X pins H b) (ho:∀b∈fp,∃o,s.heap.get? b=some o∧∀v,o.data≠.cell v):Inv X (pins++EI fp s.heap) σ H s :=
 I.pins_of fun p hp=>(qAq.mp hp).elim (fun z=>I.pin p (qAp _ z)) fun z=>by
  obtain⟨hb,e⟩:=JI z
  obtain⟨f0,f1,f2,_⟩:=hf p.1 hb
  obtain⟨o,e',d⟩:=ho p.1 hb
  rw[e] at e';cases e'
  exact⟨e,f0,f1,f2,d⟩
theorem Inv.unpinned {pins pl:List (Addr×Obj)}{σ:St}{H:Hp}{s:Shared}(I:Inv X (pins++pl) σ H s):Inv X pins σ H s:=I.pins_of fun p hp=>I.pin p (qAp _ (qAP _ hp))
theorem Hd {iter:Expr}{body:List Stmt}{wi:TI}{g:TG}{tb:TS}{pos:Pos}(hp:PassesOwn (model X.prog X.w) X.A X.env X.xe) (hc:X.calm=true) (hi:PI X tg iter wi) (hg:PG X tg g) (hb:PSs X body tb)
 (hs:∀x,foldedSetIterable iter X.env x=pure x:=by intro _;rfl):PS X (.For tg iter body [] pos) (ON wi g tb):=by
 intro pins s σ H D I h
 refine wpAny_For (thn (hi pins s σ H _ I h) fun v s1 h1=>thn h1 fun itv s2 h2=>?_) hs
 obtain⟨it,fp,tn,J,H2,e,I2,T,st2,f2,W,⟨m0,w0⟩,turn⟩:=h2
 subst e
 have stat:∀{H':Hp},(∀b∈fp,H' b=none)→∀b∈fp,HD X pins H' b:=fun hn b hb=>⟨hn b hb,(f2 b hb).2⟩
 refine codeAny_forLoop_any (fun n s'=>∃i σ' H',Inv X pins σ' H' s'∧tn i s'.heap∧(∀b∈fp,H' b=none)∧W i n σ' H') ?_ m0 ⟨0,σ,H2,I2,st2,fun b hb=>(f2 b hb).1,w0⟩
 rintro n s3 ⟨i,σ3,H3,I3,st3,fr3,w3⟩
 rcases turn i n σ3 H3 w3 with⟨stop,qn⟩|⟨go,N,hN,step⟩
 ·refine wpAny_passesOwn hp (thn (T.done X rfl rfl rfl hc i pins s3 σ3 H3 X.xe I3 (stat fr3) st3 stop) fun r s4 hh=>?_)
  obtain⟨hr,I4⟩:=hh
  subst hr
  exact wpAny_execs_nil ⟨σ3,H3,I4,qn⟩
 ·refine wpAny_passesOwn hp (thn (T.item X rfl rfl rfl hc i pins s3 σ3 H3 X.xe I3 (stat fr3) st3 go) fun r s4 hh=>?_)
  obtain⟨u,hr,h4⟩:=hh
  subst hr
  refine wpAny_passesOwn hp (thn h4 fun _ s5 hh=>?_)
  obtain⟨x,H5,I5,r5,y5,st5,fr5⟩:=hh
  have I5':=I5.pinned (stat fr5) (T.obj _ _ st5)
  refine wpAny_passesOwn hp (thn (hg _ s5 σ3 H5 x u _ I5' r5 (step x H5 y5)) fun _ s6 hh=>?_)
  obtain⟨σ6,H6,I6,q6⟩:=hh
  refine wpAny_passesOwn hp (thn (hb _ s6 σ6 H6 _ I6 q6) fun f s7 q7=>?_)
  have again:∀{σ7:St}{H7:Hp},Inv X (pins++EI fp s5.heap) σ7 H7 s7→N σ7 H7→∃m,m<n∧∃i σ' H',Inv X pins σ' H' s7∧tn i s7.heap∧(∀b∈fp,H' b=none)∧W i m σ' H':=fun {σ7 H7} I7 n7=>by
   obtain⟨m',hm,w7⟩:=hN σ7 H7 n7
   refine⟨m',hm,i+1,σ7,H7,I7.unpinned,T.keep _ _ _ st5 fun b hb o e=>(I7.pin (b,o) (qAp _ (qAp _ (Bu hb e)))).1,fun b hb=>?_,w7⟩
   obtain⟨o,e,d⟩:=T.obj _ _ st5 b hb
   exact(I7.pin (b,o) (qAp _ (qAp _ (Bu hb e)))).2.1
  cases f with
  |next=>obtain⟨σ7,H7,I7,n7⟩:=q7;exact again I7 n7
  |cont=>obtain⟨σ7,H7,I7,n7⟩:=q7;exact again I7 n7
  |brk=>obtain⟨σ7,H7,I7,q7⟩:=q7;exact⟨σ7,H7,I7.unpinned,q7⟩
  |ret v=>obtain⟨x7,σ7,H7,I7,r7,q7⟩:=q7;exact⟨x7,σ7,H7,I7.unpinned,r7,q7⟩
end
theorem F7 {lo:Int}{n:Nat}{g:TG}{tb:TS}{D:Lq}{σ:St}{H:Hp}(Pv:Nat→St→Hp→Prop) (h0:Pv 0 σ H)
 (hs:∀i σ H,i<n→Pv i σ H→g (.int (lo+i)) σ H fun σ2 H2=>tb { D with nx:=Pv (i+1),ct:=Pv (i+1),bk:=D.nx } σ2 H2) (hd:∀σ H,Pv n σ H→D.nx σ H) :
 ∃W:Nat→Nat→St→Hp→Prop,(∃m,W 0 m σ H)∧∀i m σ H,W i m σ H →
  ((Itr lo n).stop i H∧D.nx σ H)∨((Itr lo n).go i H∧∃N:St→Hp→Prop,(∀σ' H',N σ' H'→∃m',m'<m∧W (i+1) m' σ' H')∧∀x H',(Itr lo n).yld i H x H'→g x σ H' fun σ2 H2=>tb { D with nx:=N,ct:=N,bk:=D.nx } σ2 H2):=by
 refine⟨fun i m σ H=>m=n-i∧i≤n∧Pv i σ H,⟨n,by simp,qBd _,h0⟩,?_⟩
 rintro i m σ H ⟨rfl,hi,p⟩
 by_cases hlt:i<n
 ·refine .inr ⟨hlt,Pv (i+1),fun σ' H' p'=>⟨n-(i+1),(),rfl,hlt,p'⟩,fun x H' y=>?_⟩
  obtain⟨e,y⟩:=y
  subst e y
  exact hs i σ _ hlt p
 ·have e:i=n:=()
  subst e
  exact .inl ⟨qAj _,hd σ H p⟩
end L2
namespace L2
open PySem PySem.Spec PyProof.Rows
abbrev R2:=V→V→Hp→VK→Prop
def OpR (X:Cx)(f:Value→Value→Sem Value)(r:R2):Prop :=
 ∀(pins:List (Addr×Obj))(s:Shared)(σ:St)(H:Hp)(x y:V)(v u:Value)(Q:VK),Inv X pins σ H s→Bi x v→Bi y u→r x y H Q →
  wpAny (model X.prog X.w) X.A (f v u) (EP X pins σ Q) X.xe s
def UnR (X:Cx)(f:Value→Sem Value)(r:V→Hp→VK→Prop):Prop :=
 ∀(pins:List (Addr×Obj))(s:Shared)(σ:St)(H:Hp)(x:V)(v:Value)(Q:VK),Inv X pins σ H s→Bi x v→r x H Q →
  wpAny (model X.prog X.w) X.A (f v) (EP X pins σ Q) X.xe s
def Cd (X:Cx)(f:Value)(r:List V→Hp→VK→Prop):Prop :=
 ∀(pins:List (Addr×Obj))(s:Shared)(σ:St)(H:Hp)(xs:List V)(us:List Value)(Q:VK),Inv X pins σ H s→Be xs us→r xs H Q →
  wpAny (model X.prog X.w) X.A (call f us) (EP X pins σ Q) X.xe s
def tOp (r:R2)(ta tb:TE):TE:=fun σ H Q=>ta σ H fun x H1=>tb σ H1 fun y H2=>r x y H2 Q
def tUn (r:V→Hp→VK→Prop)(ta:TE):TE:=fun σ H Q=>ta σ H fun x H1=>r x H1 Q
def rI (C:Int→Int→Prop)(g:Int→Int→V):R2:=fun x y H Q=>∃i j,x=.int i∧y=.int j∧C i j∧Q (g i j) H
def rI0 (g:Int→Int→V):R2:=fun x y H Q=>∃i j,x=.int i∧y=.int j∧Q (g i j) H
def rU (g:Int→V):V→Hp→VK→Prop:=fun x H Q=>∃i,x=.int i∧Q (g i) H
section
variable {X:Cx}{a b c:Expr}{ta tb tc:TE}{pos:Pos}
theorem Pg (ha:PE X a ta)(hb:PE X b tb){pins:List (Addr×Obj)}{s:Shared}{σ:St}{H:Hp}{R:V→V→Hp→Prop}(I:Inv X pins σ H s)
 (h:ta σ H fun x H1=>tb σ H1 fun y H2=>R x y H2){Q:Value→Shared→Prop}{f:Value→Value→Sem Value}
 (hf:∀v u s2 x y H2,Inv X pins σ H2 s2→Bi x v→Bi y u→R x y H2→wpAny (model X.prog X.w) X.A (f v u) Q X.xe s2) :
 wpAny (model X.prog X.w) X.A (eval a X.env) (fun v s₁=>wpAny (model X.prog X.w) X.A (eval b X.env) (fun u s₂=>wpAny (model X.prog X.w) X.A (f v u) Q X.xe s₂) X.xe s₁) X.xe s:=by
 refine thn (ha pins s σ H _ I h) fun v s1 hh=>?_
 obtain⟨x,H1,I1,r1,q1⟩:=hh
 refine thn (hb pins s1 σ H1 _ I1 q1) fun u s2 hh=>?_
 obtain⟨y,H2,I2,r2,q2⟩:=hh
 exact hf v u s2 x y H2 I2 r1 r2 q2
theorem Mv {op:Operator}{r:R2}(ho:OpR X (binaryOp op) r) (ha:PE X a ta) (hb:PE X b tb):PE X (.BinOp a op b pos) (tOp r ta tb):=by
 intro pins s σ H Q I h
 exact wpAny_BinOp (Pg ha hb I h fun v u s2 x y H2 I2 rx ry q=>ho pins s2 σ H2 x y v u Q I2 rx ry q)
theorem PB {op:UnaryOp}{r:V→Hp→VK→Prop}(ho:UnR X (unaryOp op) r) (ha:PE X a ta):PE X (.UnaryOp op a pos) (tUn r ta):=by
 intro pins s σ H Q I h
 exact UnaryOp_ (thn (ha pins s σ H _ I h) fun v s1 ⟨x,H1,I1,r1,q1⟩=>ho pins s1 σ H1 x v Q I1 r1 q1)
theorem opI {f:Value→Value→Sem Value}{C:Int→Int→Prop}{g:Int→Int→Int}
 (rule:∀(i j:Int)(t u:Tok)(s:Shared)(Q:Value→Shared→Prop)(E:Value→Shared→Prop),C i j→Q (.int (g i j) s.toks) { s with toks:=s.toks+1 }→wpAny (model X.prog X.w) X.A (f (.int i t) (.int j u)) Q E s) :
 OpR X f (rI C fun i j=>.int (g i j)):=by
 intro pins s σ H x y v u Q I rx ry h
 obtain⟨i,j,rfl,rfl,hc,q⟩:=h
 obtain⟨t,rfl⟩:=rx
 obtain⟨t',rfl⟩:=ry
 exact rule i j t t' s _ _ hc ⟨.int (g i j),H,I.tok _,⟨_,rfl⟩,q⟩
theorem P8 {f:Value→Value→Sem Value}{g:Int→Int→Int}
 (rule:∀(i j:Int)(t u:Tok)(s:Shared)(Q:Value→Shared→Prop)(E:Value→Shared→Prop),Q (.int (g i j) s.toks) { s with toks:=s.toks+1 }→wpAny (model X.prog X.w) X.A (f (.int i t) (.int j u)) Q E s) :
 OpR X f (rI0 fun i j=>.int (g i j)):=by
 intro pins s σ H x y v u Q I rx ry h
 obtain⟨i,j,rfl,rfl,q⟩:=h
 obtain⟨t,rfl⟩:=rx
 obtain⟨t',rfl⟩:=ry
 exact rule i j t t' s _ _ ⟨.int (g i j),H,I.tok _,⟨_,rfl⟩,q⟩
theorem PH {f:Value→Value→Sem Value}{g:Int→Int→Bool}
 (rule:∀(i j:Int)(t u:Tok)(s:Shared)(Q:Value→Shared→Prop)(E:Value→Shared→Prop),Q (.bool (g i j)) s→wpAny (model X.prog X.w) X.A (f (.int i t) (.int j u)) Q E s) :
 OpR X f (rI0 fun i j=>.bl (g i j)):=by
 intro pins s σ H x y v u Q I rx ry h
 obtain⟨i,j,rfl,rfl,q⟩:=h
 obtain⟨t,rfl⟩:=rx
 obtain⟨t',rfl⟩:=ry
 exact rule i j t t' s _ _ ⟨.bl (g i j),H,I,rfl,q⟩
def Qa (i j:Int):Prop:=0≤j∧j≤1000000∧i.natAbs<2^64
theorem Lj:OpR X (binaryOp .Add) (rI0 fun i j=>.int (i+j)):=P8 fun _ _ _ _ _ _ _ q=>add_int q
theorem NK:OpR X (binaryOp .Sub) (rI0 fun i j=>.int (i-j)):=P8 fun _ _ _ _ _ _ _ q=>sub_int q
theorem MQ:OpR X (binaryOp .Mod) (rI (fun _ j=>j≠0) fun i j=>.int (i.fmod j)):=opI fun _ _ _ _ _ _ _ hc q=>mod_int' hc q
theorem Om:OpR X (binaryOp .Pow) (rI Qa fun i j=>.int (i^j.toNat)):=opI fun _ _ _ _ _ _ _ hc q=>pow_int_small hc.1 hc.2.1 hc.2.2 q
theorem unI {f:Value→Sem Value}{g:Int→Int}
 (rule:∀(i:Int)(t:Tok)(s:Shared)(Q:Value→Shared→Prop)(E:Value→Shared→Prop),Q (.int (g i) s.toks) { s with toks:=s.toks+1 }→wpAny (model X.prog X.w) X.A (f (.int i t)) Q E s) :
 UnR X f (rU fun i=>.int (g i)):=by
 intro pins s σ H x v Q I rx h
 obtain⟨i,rfl,q⟩:=h
 obtain⟨t,rfl⟩:=rx
 exact rule i t s _ _ ⟨.int (g i),H,I.tok _,⟨_,rfl⟩,q⟩
theorem Nj:UnR X (unaryOp .USub) (rU fun i=>.int (-i)):=unI fun _ _ _ _ _ q=>neg_int q
end
def Qf:V→V→Bool
 |.non,.non=>true|.non,.int _=>true|.int _,.non=>true|.non,.bl _=>true|.bl _,.non=>true|.non,.str _=>true|.str _,.non=>true
 |.int _,.int _=>true|.bl _,.bl _=>true|.str _,.str _=>true|.byt _,.byt _=>true
 |.int _,.str _=>true|.str _,.int _=>true|.bl _,.str _=>true|.str _,.bl _=>true
 |_,_=>false
def rEq:R2:=fun x y H Q=>Qf x y=true∧Q (.bl (decide (x=y))) H
def rNe:R2:=fun x y H Q=>Qf x y=true∧Q (.bl (!decide (x=y))) H
theorem Jm {i j:Int}:decide (V.int i=V.int j)=(i==j):=by
 rw[qBa]
 simp
theorem Ll {i j:Bool}:decide (V.bl i=V.bl j)=(i==j):=by
 rw[qBa]
 simp
theorem HS {i j:Str}:decide (V.str i=V.str j)=(i==j):=by
 rw[qBa]
 simp
theorem ID {i j:Array UInt8}:decide (V.byt i=V.byt j)=(i.toList==j.toList):=by
 rw[qBa]
 cases i
 cases j
 simp
section
variable {X:Cx}{a b c:Expr}{ta tb tc:TE}{pos:Pos}
theorem Av {pins:List (Addr×Obj)}{σ:St}{H:Hp}{s:Shared}{Q:VK}{k k':Bool}(I:Inv X pins σ H s) (q:Q (.bl k) H) (e:k=k'):EP X pins σ Q (.bool k') s:=by
 subst e
 exact⟨.bl k,H,I,rfl,q⟩
theorem OY:OpR X (compareOp .Eq) rEq:=by
 intro pins s σ H x y v u Q I rx ry h
 obtain⟨hs,q⟩:=h
 cases x with
 |non =>
  cases rx
  cases y with
  |non=>cases ry;exact PySem.EqNone.eq_none_none (Av I q (by simp))
  |bl j=>cases ry;exact PySem.EqNone.eq_none_bool (Av I q (by simp))
  |int j=>obtain⟨t',rfl⟩:=ry;exact PySem.EqNone.eq_none_int (Av I q (by simp))
  |str j=>obtain⟨t',rfl⟩:=ry;exact PySem.EqNone.eq_none_str (Av I q (by simp))
  |_=>exact absurd (show false=true from hs) qAf
 |bl i =>
  cases rx
  cases y with
  |non=>cases ry;exact PySem.EqNone.eq_bool_none (Av I q (by simp))
  |bl j=>cases ry;exact eq_bool (Av I q Ll)
  |str j=>obtain⟨t',rfl⟩:=ry;exact PySem.EqMixed.eq_bool_str (Av I q (by simp))
  |_=>exact absurd (show false=true from hs) qAf
 |int i =>
  obtain⟨t,rfl⟩:=rx
  cases y with
  |non=>cases ry;exact PySem.EqNone.eq_int_none (Av I q (by simp))
  |int j=>obtain⟨t',rfl⟩:=ry;exact eq_int (Av I q Jm)
  |str j=>obtain⟨t',rfl⟩:=ry;exact PySem.EqMixed.eq_int_str (Av I q (by simp))
  |_=>exact absurd (show false=true from hs) qAf
 |str i =>
  obtain⟨t,rfl⟩:=rx
  cases y with
  |non=>cases ry;exact PySem.EqNone.eq_str_none (Av I q (by simp))
  |bl j=>cases ry;exact PySem.EqMixed.eq_str_bool (Av I q (by simp))
  |int j=>obtain⟨t',rfl⟩:=ry;exact PySem.EqMixed.eq_str_int (Av I q (by simp))
  |str j=>obtain⟨t',rfl⟩:=ry;exact eq_str (Av I q HS)
  |_=>exact absurd (show false=true from hs) qAf
 |byt i =>
  obtain⟨t,rfl⟩:=rx
  cases y with
  |byt j=>obtain⟨t',rfl⟩:=ry;exact PySem.W.eq_bytes (Av I q ID)
  |_=>exact absurd (show false=true from hs) qAf
 |_=>cases y<;>exact absurd (show false=true from hs) qAf
theorem Px:OpR X (compareOp .NotEq) rNe:=by
 intro pins s σ H x y v u Q I rx ry h
 obtain⟨hs,q⟩:=h
 cases x with
 |non =>
  cases rx
  cases y with
  |non=>cases ry;exact PySem.EqNone.ne_none_none (Av I q (by simp))
  |bl j=>cases ry;exact PySem.EqNone.ne_none_bool (Av I q (by simp))
  |int j=>obtain⟨t',rfl⟩:=ry;exact PySem.EqNone.ne_none_int (Av I q (by simp))
  |str j=>obtain⟨t',rfl⟩:=ry;exact PySem.EqNone.ne_none_str (Av I q (by simp))
  |_=>exact absurd (show false=true from hs) qAf
 |bl i =>
  cases rx
  cases y with
  |non=>cases ry;exact PySem.EqNone.ne_bool_none (Av I q (by simp))
  |bl j=>cases ry;exact ne_bool (Av I q (congrArg not Ll))
  |str j=>obtain⟨t',rfl⟩:=ry;exact PySem.EqMixed.ne_bool_str (Av I q (by simp))
  |_=>exact absurd (show false=true from hs) qAf
 |int i =>
  obtain⟨t,rfl⟩:=rx
  cases y with
  |non=>cases ry;exact PySem.EqNone.ne_int_none (Av I q (by simp))
  |int j=>obtain⟨t',rfl⟩:=ry;exact ne_int (Av I q (congrArg not Jm))
  |str j=>obtain⟨t',rfl⟩:=ry;exact PySem.EqMixed.ne_int_str (Av I q (by simp))
  |_=>exact absurd (show false=true from hs) qAf
 |str i =>
  obtain⟨t,rfl⟩:=rx
  cases y with
  |non=>cases ry;exact PySem.EqNone.ne_str_none (Av I q (by simp))
  |bl j=>cases ry;exact PySem.EqMixed.ne_str_bool (Av I q (by simp))
  |int j=>obtain⟨t',rfl⟩:=ry;exact PySem.EqMixed.ne_str_int (Av I q (by simp))
  |str j=>obtain⟨t',rfl⟩:=ry;exact ne_str (Av I q (congrArg not HS))
  |_=>exact absurd (show false=true from hs) qAf
 |byt i =>
  obtain⟨t,rfl⟩:=rx
  cases y with
  |byt j=>obtain⟨t',rfl⟩:=ry;exact PySem.W.ne_bytes (Av I q (congrArg not ID))
  |_=>exact absurd (show false=true from hs) qAf
 |_=>cases y<;>exact absurd (show false=true from hs) qAf
theorem Pl:OpR X (compareOp .Lt) (rI0 fun i j=>.bl (decide (i<j))):=PH fun _ _ _ _ _ _ _ q=>lt_int q
theorem PY:OpR X (compareOp .LtE) (rI0 fun i j=>.bl (decide (i≤j))):=PH fun _ _ _ _ _ _ _ q=>le_int q
theorem OZ:OpR X (compareOp .Gt) (rI0 fun i j=>.bl (decide (j<i))):=PH fun _ _ _ _ _ _ _ q=>gt_int q
theorem FD:OpR X (compareOp .NotIn) (fun x y H Q=>∃i j,x=.str i∧y=.str j∧Q (.bl (!(!(Builtin.Str.occurrences j i 0 j.length 1).isEmpty))) H):=by
 intro pins s σ H x y v u Q I rx ry h
 obtain⟨i,j,rfl,rfl,q⟩:=h
 obtain⟨t,rfl⟩:=rx
 obtain⟨t',rfl⟩:=ry
 exact notIn_str (Av I q rfl)
theorem OpR.or {f:Value→Value→Sem Value}{r r':R2}(h:OpR X f r) (h':OpR X f r'):OpR X f (fun x y H Q=>r x y H Q∨r' x y H Q):=by
 intro pins s σ H x y v u Q I rx ry q
 rcases q with q|q
 ·exact h pins s σ H x y v u Q I rx ry q
 ·exact h' pins s σ H x y v u Q I rx ry q
theorem IA (b:Expr){op:CmpOp}(h:op≠.In:=by decide) (h2:op≠.NotIn:=by decide):behindInMarks op b=false:=by
 have e1:(op==CmpOp.In)=false:=by cases op<;>first|rfl|exact absurd rfl h
 have e2:(op==CmpOp.NotIn)=false:=by cases op<;>first|rfl|exact absurd rfl h2
 cases b<;>simp[behindInMarks,e1,e2]
theorem Mc {op:CmpOp}{r:R2}(ho:OpR X (compareOp op) r) (ha:PE X a ta) (hb:PE X b tb) (hm:behindInMarks op b=false):PE X (.Compare a [op] [b] pos) (tOp r ta tb):=by
 intro pins s σ H Q I h
 exact wpAny_Compare1 (Pg ha hb I h fun v u s2 x y H2 I2 rx ry q=>ho pins s2 σ H2 x y v u Q I2 rx ry q) hm
def O2 (t:TE):TT:=fun σ H Q=>t σ H fun x H'=>∃k,x=.bl k∧Q k H'
theorem LG {op:CmpOp}{r:R2}(ho:OpR X (compareOp op) r) (ha:PE X a ta) (hb:PE X b tb) (hm:behindInMarks op b=false):PT X (.Compare a [op] [b] pos) (O2 (tOp r ta tb)):=by
 intro pins s σ H Q I h
 refine wpAny_isTrue_Compare1 (thn (ha pins s σ H _ I h) fun v s1 ⟨x,H1,I1,r1,q1⟩=>thn (hb pins s1 σ H1 _ I1 q1) fun u s2 ⟨y,H2,I2,r2,q2⟩ =>
  thn (ho pins s2 σ H2 x y v u _ I2 r1 r2 q2) fun c s3 ⟨z,H3,I3,r3,k,e,q3⟩=>?_) hm
 subst e
 cases r3
 exact wpAny_truthy_bool ⟨H3,I3,q3⟩
theorem FX:(sizeLine:Nat)<2^63:=by rw[sizeLine_eq];decide
theorem ES:OpR X (binaryOp .Add) (fun x y H Q=>∃i j,x=.str i∧y=.str j∧i.length+j.length≤sizeLine∧Q (.str (i++j)) H):=by
 intro pins s σ H x y v u Q I rx ry h
 obtain⟨i,j,rfl,rfl,hz,q⟩:=h
 obtain⟨t,rfl⟩:=rx
 obtain⟨t',rfl⟩:=ry
 exact add_str (fun t' tk=>⟨.str (i++j),H,I.tok _,⟨_,rfl⟩,q⟩) hz
theorem DQ {x:V}{us:List Value}(r:Be [x] us):∃u,us=[u]∧Bi x u:=by
 cases r with
 |cons r1 r2=>cases r2;exact⟨_,rfl,r1⟩
theorem Nt {x y:V}{us:List Value}(r:Be [x,y] us):∃u w',us=[u,w']∧Bi x u∧Bi y w':=by
 cases r with
 |cons r1 r2 =>
  cases r2 with
  |cons r3 r4=>cases r4;exact⟨_,_,rfl,r1,r3⟩
theorem J8:Cd X (.builtin "abs") (fun xs H Q=>∃i,xs=[.int i]∧Q (.int (if i<0 then -i else i)) H):=by
 intro pins s σ H xs us Q I r h
 obtain⟨i,rfl,q⟩:=h
 obtain⟨u,rfl,t,rfl⟩:=DQ r
 exact call_abs_int fun u tk=>⟨.int (if i<0 then -i else i),H,I.tok _,⟨_,rfl⟩,q⟩
theorem Ic:Cd X (.type "int") (fun xs H Q=>(∃i,xs=[.int i]∧Q (.int i) H)∨∃k,xs=[.bl k]∧Q (.int (if k then 1 else 0)) H):=by
 intro pins s σ H xs us Q I r h
 rcases h with⟨i,rfl,q⟩|⟨k,rfl,q⟩
 ·obtain⟨u,rfl,t,rfl⟩:=DQ r
  exact call_int_int ⟨.int i,H,I,⟨_,rfl⟩,q⟩
 ·obtain⟨u,rfl,r1⟩:=DQ r
  cases r1
  exact call_int_bool ⟨.int (if k then 1 else 0),H,I.tok _,⟨_,rfl⟩,q⟩
theorem F4:Cd X (.type "str") (fun xs H Q=>∃i,xs=[.int i]∧i.natAbs.log2<1920∧Q (.str (toString i)) H):=by
 intro pins s σ H xs us Q I r h
 obtain⟨i,rfl,hz,q⟩:=h
 obtain⟨u,rfl,t,rfl⟩:=DQ r
 exact PySem.P.str_of_int hz ⟨.str _,H,I.tok _,⟨_,rfl⟩,q⟩
end
end L2
namespace L2
open PySem PySem.Spec PyProof.Rows
structure Pt (h:Heap)(x dx C:Addr)(mA:Str→Option Value):Prop where
 obj:h.get? x=some (PySem.W.instObj C dx)
 ns:h.Ns1 dx mA
 ne:dx≠x
theorem Jy {h:Heap}{dx:Addr}{mA:Str→Option Value}(n:h.Ns1 dx mA):∃od,h.get? dx=some od∧∀name,PySem.W.lookIn name od=some (mA name):=by
 obtain⟨o,es,ep,ho,hd,hk,_,hm⟩:=n
 refine⟨o,ho,fun name=>?_⟩
 have e:=hm name
 unfold nsFind findBy at e
 rw[←Array.find?_toList] at e
 unfold PySem.W.lookIn
 rw[hd]
 dsimp only
 split
 ·rename_i y q
  rw[q] at e
  exact congrArg some e
 ·rename_i q
  rw[q] at e
  have a:es.toList.any (·.refKey)=false:=by
   rw[List.any_eq_false]
   intro y hy
   obtain⟨z,t,hkey⟩:=hk y (Array.mem_toList_iff.mp hy)
   simp[DictEntry.refKey,hkey]
  have a':¬es.toList.any (·.refKey)=true:=by rw[a];exact qAf
  rw[if_neg a']
  exact congrArg some e
theorem Pt.look {h:Heap}{x dx C:Addr}{mA:Str→Option Value}(I:Pt h x dx C mA):∃od,PySem.W.InstAt h x (PySem.W.instObj C dx) C (some od)∧∀name,PySem.W.lookIn name od=some (mA name) :=
 let ⟨od,ho,hl⟩:=Jy I.ns
 ⟨od,⟨I.obj,rfl,rfl,ho⟩,hl⟩
section
variable {prog:Program}{w:World}{A:Around}{E:Value→Shared→Prop}{s:Shared}{K:PySem.W.Frag}{x dx C f:Addr}{mA:Str→Option Value}{name:Str}{v:Value}
end
section
variable {P:Program}{w:World}{H H':Hp}{h h':Heap}{a C dx:Addr}{fs fs':List (Str×V)}
theorem MV (hok:HOk P w H h)(e:H a=some (.ins C dx fs)):∃mA,Pt h a dx C mA∧(∀f,Py (fs.lookup f) (mA f))∧PySem.Within mA (fs.map (·.1))∧fs.length≤1000∧H dx=some (.own a):=by
 obtain⟨d,z,ne,ob,mA,n,r,q⟩:=(show Bg P w H h a (.ins C dx fs) from hok a _ e)
 exact⟨mA,⟨ob,n,ne⟩,r,q,z,d⟩
end
structure Cls (K:PySem.W.Frag)(C:Addr):Prop where
 pg:PySem.W.plainGet K C Str.empty=true
 hd:PySem.W.hasDictIn K C=true
 po:PySem.W.plainOver K C=true
 sa:PySem.W.findIn K (.ref C) "__setattr__"=some (some (.builtin "object.__setattr__"))
theorem Cls.get {K:PySem.W.Frag}{C:Addr}(c:Cls K C) (f:Str):PySem.W.plainGet K C f=true:=c.pg
section
variable {X:Cx}{pins:List (Addr×Obj)}{σ:St}{H:Hp}{s:Shared}{a C dx:Addr}{fs:List (Str×V)}{f:Str}{v:V}{A:Around}{E:Value→Shared→Prop}
end
section
variable {X:Cx}{o e value:Expr}{f:Str}{pos pos' tpos:Pos}{ta tv:TE}
end
section
variable {X:Cx}{pins:List (Addr×Obj)}{σ:St}{H:Hp}{s:Shared}{A:Around}{E:Value→Shared→Prop}{Q:Value→Shared→Prop}{c:Value}{b:Bool}
inductive HR (K:PySem.W.Frag)(H:Hp):V→Value→Prop where
 |non:HR K H .non (.type "NoneType")
 |bl (x:Bool):HR K H (.bl x) (.type "bool")
 |int (i:Int):HR K H (.int i) (.type "int")
 |str (x:Str):HR K H (.str x) (.type "str")
 |flt (x:UInt64):HR K H (.flt x) (.type "float")
 |lst {a:Addr}{xs:List V}(e:H a=some (.lst xs)):HR K H (.ref a) (.type "list")
 |frz {a:Addr}{o:Obj}{xs:List V}(e:H a=some (.frz o (.lst xs))):HR K H (.ref a) (.type "list")
 |tup {a:Addr}{xs:List V}(e:H a=some (.tup xs)):HR K H (.ref a) (.type "tuple")
 |dK {a:Addr}{kvs:List (Key×V)}(e:H a=some (.dK kvs)):HR K H (.ref a) (.type "dict")
 |dT {a:Addr}{kvs:List (List Key×V)}(e:H a=some (.dT kvs)):HR K H (.ref a) (.type "dict")
 |ins {a C dx:Addr}{fs:List (Str×V)}(e:H a=some (.ins C dx fs)) (cl:Cls K C) (ha:PySem.W.findIn K (.ref C) "__class__"=some (some (.builtin "object.__class__")))
  (hn:PySem.W.specialIn K (.builtin "object.__class__") "__get__"=some (some (.builtin "getset_descriptor.__get__"))) (htk:PySem.W.takesIn K (.builtin "object.__class__")=some true)
  (hm:PySem.W.mroIn K C (.type "object")=some true):HR K H (.ref a) (.ref C)
theorem Dp {x:V}{u t:Value}(I:Inv X pins σ H s) (rx:Bi x u) (ty:HR X.K H x t) (e:PySem.W.kitOne X.K t c=some b) (h:∀tk,Q (.bool b) { s with toks:=tk }) :
 wpAny (model X.prog X.w) A (call (.builtin "isinstance") [u,c]) Q E s:=by
 cases ty with
 |non=>cases (show u=Value.none from rx);exact qAD PySem.W.kitx_none I.kIn True.intro e (fun z=>nomatch z) h
 |bl y=>cases (show u=Value.bool y from rx);exact qAD PySem.W.kitx_bool I.kIn True.intro e (fun z=>nomatch z) h
 |int i=>obtain⟨t,q⟩:=(show ∃t,u=Value.int i t from rx);cases q;exact qAD PySem.W.kitx_int I.kIn True.intro e (fun z=>nomatch z) h
 |str y=>obtain⟨t,q⟩:=(show ∃t,u=Value.str y t from rx);cases q;exact qAD PySem.W.kitx_str I.kIn True.intro e (fun z=>nomatch z) h
 |flt y=>obtain⟨t,q⟩:=(show ∃t,u=Value.float y t from rx);cases q;exact qAD PySem.W.kitx_float I.kIn True.intro e (fun z=>nomatch z) h
 |@lst a xs ea =>
  cases (show u=Value.ref a from rx)
  obtain⟨_,_,n,_,h1⟩:=(show Bg X.prog X.w H s.heap a (.lst xs) from I.hok a _ ea)
  exact qAD qBk I.kIn ⟨_,h1,rfl⟩ e (fun z=>nomatch z) h
 |@frz a ob xs ea =>
  cases (show u=Value.ref a from rx)
  obtain⟨_,_,_,n,_,h1⟩:=(show Bg X.prog X.w H s.heap a (.frz ob (.lst xs)) from I.hok a _ ea)
  exact qAD qBk I.kIn ⟨_,h1,rfl⟩ e (fun z=>nomatch z) h
 |@tup a xs ea =>
  cases (show u=Value.ref a from rx)
  obtain⟨_,_,_,p⟩:=(show Bg X.prog X.w H s.heap a (.tup xs) from I.hok a _ ea)
  obtain⟨o,h1,h2,_⟩:=p
  exact qAD PySem.W.kitx_tuple I.kIn ⟨o,h1,h2⟩ e (fun z=>nomatch z) h
 |@dK a kvs ea =>
  cases (show u=Value.ref a from rx)
  obtain⟨_,_,vs,_,p⟩:=(show Bg X.prog X.w H s.heap a (.dK kvs) from I.hok a _ ea)
  obtain⟨o,es,ep,h1,h2,_⟩:=p
  exact qAD PySem.W.kitx_dict I.kIn ⟨o,h1,h2.1⟩ e (fun z=>nomatch z) h
 |@dT a kvs ea =>
  cases (show u=Value.ref a from rx)
  obtain⟨_,_,xs,_,o,es,ep,h1,h2,_⟩:=(show Bg X.prog X.w H s.heap a (.dT kvs) from I.hok a _ ea)
  exact qAD PySem.W.kitx_dict I.kIn ⟨o,h1,h2.1⟩ e (fun z=>nomatch z) h
 |@ins a C dx fs ea cl ha hn htk hm =>
  cases (show u=Value.ref a from rx)
  obtain⟨mA,O,_⟩:=MV I.hok ea
  obtain⟨od,J,_⟩:=O.look
  exact qAD (PySem.W.kitx_own (cl.get _) cl.hd ha hn htk hm) I.kIn J e (fun z=>nomatch z) h
end
end L2
namespace L2
open PySem PySem.Spec PyProof.Rows
structure Dr (k:Nat)(A:Around):Prop where
 hd:A.handled=none
 dp:A.depth+3*k+5<recursionLimit
 un:A.units+16*k+200<cLine
theorem Dr.mono {j k:Nat}{A:Around}(r:Dr k A) (h:j≤k):Dr j A:=⟨r.hd,by have:=r.dp;omega,by have:=r.un;omega⟩
theorem Dr.deeper {k:Nat}{A:Around}(r:Dr (k+1) A) (env:Env):Dr k (A.deeper env) :=
 ⟨r.hd,by have:=r.dp;show A.depth+1+3*k+5<_;omega,by have:=r.un;show A.units+3+16*k+200<_;omega⟩
theorem Dr.depth {k:Nat}{A:Around}(r:Dr k A):A.depth<recursionLimit:=by have:=r.dp;omega
def Qc:TA:=fun _ H Q=>Q [] H
def N5 (ta:TE)(tr:TA):TA:=fun σ H Q=>ta σ H fun x H1=>tr σ H1 fun xs H2=>Q (x::xs) H2
section
variable {X:Cx}{e:Expr}{es:List Expr}{te:TE}{t:TA}{pos:Pos}
theorem BI:PA X [] Qc:=fun _ _ _ _ H Q I h=>Calls.spliced_nil ⟨[],H,I,.nil,h⟩
theorem AM (ha:PE X e te)(hr:PA X es t)(hs:starEach (e::es) X.env=(false,eval e X.env)::starEach es X.env:=by rfl):PA X (e::es) (N5 te t):=by
 intro pos pins s σ H Q I h
 rw[hs]
 show wpAny _ _ (spliced ((false,eval e X.env)::backTo pos (starEach es X.env))) _ _ s
 refine Calls.spliced_cons (thn (ha pins s σ H _ I h) fun u s1 hh=>?_)
 obtain⟨x,H1,I1,r1,q1⟩:=hh
 exact thn (hr pos pins s1 σ H1 _ I1 q1) fun us s2 ⟨xs,H2,I2,r2,q2⟩=>⟨x::xs,H2,I2,.cons r1 r2,q2⟩
def QF (t:TA):TE:=fun σ H Q=>t σ H fun xs H1=>xs.length≤sizeLine∧∀p,H1 p=none→Q (.ref p) (upd H1 p (.tup xs))
theorem N1 {x1}(h:PA X es t):PE X (.Tuple es x1 pos) (QF t):=by
 intro pins s σ H Q I hq
 refine wpAny_Tuple_spliced (thn (h pos pins s σ H _ I hq) fun us s1 ⟨xs,H1,I1,r,z,q⟩=>⟨by rw[←r.length];exact z,?_⟩)
 have hf:H1 s1.heap.objs.size=none:=I1.hok.fresh (qAj _)
 refine⟨.ref s1.heap.objs.size,upd H1 s1.heap.objs.size (.tup xs),I1.laid (t':=s1.toks) (fun b u e=>qAm _ e) (qAj _) ?_,rfl,q _ hf⟩
 exact⟨z,us,r,⟨_,qAH _ rfl,rfl,_,rfl⟩⟩
end
abbrev Sp:=List V→Hp→VK→XK→Prop
abbrev CXT:=List Env→Hp→Shared→XK→Value→Shared→Prop
structure OP (P:Program)(w:World)(K:PySem.W.Frag)(mg:Str→Option Value)(base:Heap)(A:Around)(outer:List Env)(s:Shared)(H:Hp):Prop where
 frames:A.frames=some outer
 mod:Mod K mg base
 bs:∀b o,base.get? b=some o→s.heap.get? b=some o∧H b=none
 bsz:base.objs.size≤s.heap.objs.size
 funs:s.heap.FunFrames base outer
 frf:∀b∈frs outer,H b=none
 hok:HOk P w H s.heap
 bare:AllBare s.gens
 tb:TB P K mg base H
def CE (outer:List Env)(P:Program)(w:World)(H:Hp)(s:Shared)(Q:VK)(u:Value)(s':Shared):Prop :=
 ∃v H',s'.os=s.os∧AllBare s'.gens∧Un (frs outer) [] H H' s.heap s'.heap∧HOk P w H' s'.heap∧Bi v u∧Q v H'
def CR (CX:CXT)(outer:List Env)(P:Program)(w:World)(H:Hp)(s:Shared)(Q:VK)(E:XK)(r:Result)(s':Shared):Prop :=
 match r with
 |.ok (.ret u)=>CE outer P w H s Q u s'
 |.ok _=>False
 |.error e=>CX outer H s E e s'
structure AS (P:Program)(w:World)(K:PySem.W.Frag)(mg:Str→Option Value)(base:Heap)(CX:CXT)(k:Nat)(f:Addr)(fd:FuncData)(ps:List Str)(sp:Sp):Prop where
 len:∀vs H Q E,sp vs H Q E→vs.length=ps.length
 run:∀(A:Around)(outer:List Env)(s:Shared)(H:Hp)(args:Args)(us:List Value)(vs:List V)(Q:VK)(E:XK),Dr k A→OP P w K mg base A outer s H→BindsTo s fd args (ps.zip us)→Be vs us→sp vs H Q E →
  codeAny (model P w) A (.call (.ref f) args) (CR CX outer P w H s Q E) s
section
variable {X:Cx}{pins:List (Addr×Obj)}{σ:St}{H:Hp}{s s':Shared}
theorem Inv.env0 (I:Inv X pins σ H s):OP X.prog X.w X.K X.mg X.base X.A X.stack s H :=
 ⟨I.ok.frames,I.ok.mod,I.bs,qAr I.ok.bsz I.sz,I.stack,I.stkFree,I.hok,I.bare,I.tb⟩
theorem Inv.after {Q:VK}{u:Value}(I:Inv X pins σ H s) (h:CE X.stack X.prog X.w H s Q u s'):EP X pins σ Q u s':=by
 obtain⟨v,H',os,bare,un,hok,r,q⟩:=h
 obtain⟨hh,g,d,t,os'⟩:=s'
 obtain rfl:os'=s.os:=os
 exact⟨v,H',I.call (h':=hh) (g':=g) (d':=d) (t':=t) (ch:=[]) un hok bare (fun b z=>absurd z (by simp)),r,q⟩
end
def Pw (sp:Sp)(dvs:List V)(E:XK)(t:TA):TE:=fun σ H Q=>t σ H fun vs H1=>sp (vs++dvs) H1 Q E
def Binds (K:PySem.W.Frag)(fd:FuncData)(ps:List Str)(ds:List Value):Prop :=
 ∀(s:Shared)(us:List Value),K.In s.heap→(us++ds).length=ps.length→BindsTo s fd ⟨us,[]⟩ (ps.zip (us++ds))
theorem Binds.all {K:PySem.W.Frag}{fd:FuncData}{ps:List Str}(h:∀us:List Value,us.length=ps.length→bindArgs fd ⟨us,[]⟩=pure (ps.zip us)):Binds K fd ps []:=fun s us _ hl=>by
 rw[qAZ] at hl ⊢
 exact .of_eq (h us hl)
def K8 (CX:CXT)(X:Cx)(E:XK):Prop:=∀(pins:List (Addr×Obj))(σ:St)(H:Hp)(s:Shared)(e:Value)(s':Shared),Inv X pins σ H s→CX X.stack H s E e s'→X.xe e s'
section
variable {X:Cx}{CX:CXT}{k:Nat}{f C:Addr}{fd:FuncData}{ps:List Str}{sp:Sp}{dvs:List V}{ds:List Value}{E:XK}{x m:Str}{p pos apos:Pos}{e o:Expr}{es:List Expr}{ta:TE}{t:TA}
theorem NY {pins:List (Addr×Obj)}{σ:St}{H:Hp}{s:Shared}{Q:VK}{us:List Value}{vs:List V}(F:AS X.prog X.w X.K X.mg X.base CX k f fd ps sp) (hr:Dr k X.A) (hb:Binds X.K fd ps ds) (hd:Be dvs ds) (hx:K8 CX X E)
 (I:Inv X pins σ H s) (r:Be vs us) (h:sp (vs++dvs) H Q E):wpAny (model X.prog X.w) X.A (call (.ref f) us) (EP X pins σ Q) X.xe s:=by
 have r2:Be (vs++dvs) (us++ds):=r.append hd
 have hl:(us++ds).length=ps.length:=by rw[←r2.length];exact F.len _ _ _ _ h
 refine wpAny_call (codeAny_mono (F.run X.A X.stack s H ⟨us,[]⟩ (us++ds) (vs++dvs) Q E hr I.env0 (hb s us I.kIn hl) r2 h) fun r s' hq=>?_)
 cases r with
 |error e=>exact hx pins σ H s e s' I hq
 |ok fl =>
  cases fl with
  |ret u=>exact I.after hq
  |next=>exact False.elim hq
  |brk=>exact False.elim hq
  |cont=>exact False.elim hq
theorem GB (F:AS X.prog X.w X.K X.mg X.base CX k f fd ps sp)(hr:Dr k X.A)(hg:Gl X x)(hm:X.mg x=some (.ref f))(hk:PySem.W.keepIn X.K (.ref f)=true)(hb:Binds X.K fd ps ds)(hd:Be dvs ds)(hx:K8 CX X E)
 (ha:PA X (e::es) t)(hdb:(x==("__debug__":Str))=false:=by decide)(he:starEach (e::es) X.env=(false,eval e X.env)::starEach es X.env:=by rfl)(hpl:(backTo pos (starEach es X.env)).any (·.1)=false:=by rfl) :
 PE X (.Call (.Name x p) (e::es) [] pos) (Pw sp dvs E t):=by
 intro pins s σ H Q I h
 refine wpAny_Call_Name_kw (Cv I hg hm ?_ hdb)
 refine qBX (h₀:=X.base) I.ok.mod.kin hk (thn (ha pos pins s σ H _ I h) fun us s1 ⟨vs,H1,I1,r,q⟩=>⟨I1.kIn,?_⟩) he hpl
 exact NY F hr hb hd hx I1 r q
end
section
variable {X:Cx}{CX:CXT}{k:Nat}{f C:Addr}{fd:FuncData}{ps ks:List Str}{sp:Sp}{E:XK}{x m:Str}{p pos apos kpos:Pos}{e o:Expr}{es:List Expr}{kws:List Keyword}{te ta:TE}{t tk:TA}{nm:Option Str}
variable {g:List Value→List Value→List Value}{gV:List V→List V→List V}
end
structure Ah (N P:List Str)(sc:Scope):Prop where
 kind:sc.kind=.function
 co:sc.isCoroutine=false
 gen:sc.isGenerator=false
 nd:N.Nodup
 pre:N.take P.length=P
 par:∀x∈P,sc.names.lookup x=some .local∨sc.names.lookup x=some .cell
 nofree:∀y∈sc.names,y.2≠.free
theorem FH {kindOf:Str→Option NameKind}{x:Str}:∀{binds:List (Str×Value)}{m:Str→Option Value},(∀v,(x,v)∉binds)→bindL kindOf binds m x=m x
 |[],_,_=>rfl
 |(n,v)::r,m,h=>by
  unfold bindL
  rw[FH fun w hw=>h w (qAc _ hw)]
  split
  ·have:x≠n:=by rintro rfl;exact h v qAe
   simp[this]
  ·rfl
theorem Fw {kindOf:Str→Option NameKind}{x:Str}:∀{binds:List (Str×Value)}{m:Str→Option Value},(∀v,(x,v)∉binds)→bindC kindOf binds m x=m x
 |[],_,_=>rfl
 |(n,v)::r,m,h=>by
  unfold bindC
  rw[Fw fun w hw=>h w (qAc _ hw)]
  split
  ·rfl
  ·have:x≠n:=by rintro rfl;exact h v qAe
   simp[this]
theorem FJ {kindOf:Str→Option NameKind}{x:Str}{v:Value}:∀{P:List Str}{vs:List Value}{i:Nat}{m:Str→Option Value},P.Nodup→P[i]? = some x→vs[i]? = some v→kindOf x=some .local →
 bindL kindOf (P.zip vs) m x=some v
 |[],_,_,_,_,h,_,_=>by simp at h
 |_::_,[],_,_,_,_,h,_=>by simp at h
 |p::P,w::vs,0,m,nd,h1,h2,hk=>by
  simp at h1 h2;subst h1;subst h2
  show bindL kindOf ((p,w)::P.zip vs) m p=_
  unfold bindL
  rw[FH fun v hv=>(qBN.mp nd).1 (qBO hv).1,if_pos hk]
  simp
 |p::P,w::vs,i+1,m,nd,h1,h2,hk=>by
  show bindL kindOf ((p,w)::P.zip vs) m x=_
  unfold bindL
  exact FJ (i:=i) (qBN.mp nd).2 (by simpa using h1) (by simpa using h2) hk
theorem FG {kindOf:Str→Option NameKind}{x:Str}{v:Value}:∀{P:List Str}{vs:List Value}{i:Nat}{m:Str→Option Value},P.Nodup→P[i]? = some x→vs[i]? = some v→kindOf x≠some .local →
 bindC kindOf (P.zip vs) m x=some v
 |[],_,_,_,_,h,_,_=>by simp at h
 |_::_,[],_,_,_,_,h,_=>by simp at h
 |p::P,w::vs,0,m,nd,h1,h2,hk=>by
  simp at h1 h2;subst h1;subst h2
  show bindC kindOf ((p,w)::P.zip vs) m p=_
  unfold bindC
  rw[Fw fun v hv=>(qBN.mp nd).1 (qBO hv).1,if_neg hk]
  simp
 |p::P,w::vs,i+1,m,nd,h1,h2,hk=>by
  show bindC kindOf ((p,w)::P.zip vs) m x=_
  unfold bindC
  exact FG (i:=i) (qBN.mp nd).2 (by simpa using h1) (by simpa using h2) hk
def start (N:List Str)(vs:List V):St:=vs.map some++List.replicate (N.length-vs.length) none
def EK (CX:CXT)(P:Program)(w:World)(K:PySem.W.Frag)(mg:Str→Option Value)(base:Heap)(N:List Str)(qual:Str)(scope:Scope)(f:Addr)(cd:Value)(A:Around)(outer:List Env)(s:Shared)(H:Hp)(E:XK):Cx where
 prog:=P
 w:=w
 K:=K
 mg:=mg
 base:=base
 A:=A.deeper (envOfC qual scope s.heap.objs.size f cd)
 N:=N
 s₀:=s
 H₀:=H
 env:=envOfC qual scope s.heap.objs.size f cd
 outer:=outer
 stack:=envOfC qual scope s.heap.objs.size f cd::outer
 ex:=[]
 calm:=true
 fn:=fun _=>true
 pn:=[]
 xe:=fun e s'=>wpAny (model P w) (A.deeper (envOfC qual scope s.heap.objs.size f cd)) (leaving (envOfC qual scope s.heap.objs.size f cd) e) (fun _ s''=>CX outer H s E e s'') (fun e' s''=>CX outer H s E e' s'') s'
theorem Hf {sc:Scope}{n:Nat}{x:Str}(h:sc.names.lookup x=some .cell):∃c,(cellsFrom n sc.names []).lookup x=some c:=by
 have q:=qCh sc.names n [] (.inl h)
 exact qBw.mp q
theorem IY {CX:CXT}{P:Program}{w:World}{K:PySem.W.Frag}{mg:Str→Option Value}{base:Heap}{N ps:List Str}{qual:Str}{scope:Scope}{f:Addr}{cd:Value}{A:Around}{outer:List Env}{s s1:Shared}{H:Hp}{E:XK}{us:List Value}{vs:List V}
 (S:Ah N ps scope) (hd:A.handled=none) (e0:OP P w K mg base A outer s H) (hl:vs.length=ps.length) (r:Be vs us)
 (x:InCallC s s.heap.objs.size (bindL (envOfC qual scope s.heap.objs.size f cd).kindOf (ps.zip us) fun _=>none) (cellsFrom (s.heap.objs.size+1) scope.names []) (bindC (envOfC qual scope s.heap.objs.size f cd).kindOf (ps.zip us) fun _=>none) s1) :
 Inv (EK CX P w K mg base N qual scope f cd A outer s H E) [] (start N vs) H s1:=by
 have hpl:ps.length≤N.length:=by have:=congrArg List.length S.pre;rw[qAz] at this;omega
 obtain⟨h1,tk,rfl,hk⟩:=x.done
 have noA:∀b:Addr,b∉(EK CX P w K mg base N qual scope f cd A outer s H E).ex:=fun b z=>absurd (show b∈([]:List Addr) from z) (by simp)
 refine⟨⟨e0.mod,S.kind,rfl,rfl,qAj _,fun y z c h1 h2=>?_,fun y hy=>?_,fun y c _ h=>?_,fun _=>hd,Around.frames_deeper e0.frames,.inr ⟨rfl,rfl⟩,fun b z=>absurd z (noA b),e0.bs,e0.bsz,fun b _ _=>noA b,fun b z=>absurd z (noA b),e0.funs,e0.frf,e0.tb⟩,
  rfl,e0.bare,Un.kept hk,⟨_,x.toInCall.ns,fun i y v h1 h2 h3=>?_⟩,fun y c h=>⟨_,x.cell y c h⟩,e0.hok.fresh (qAj _),fun y c h=>?_,fun p hp=>absurd (show p∈([]:List (Addr×Obj)) from hp) (by simp),e0.hok.kept hk,?_⟩
 ·exact name_of_addr x.apart (PySem.mem_of_lookup h1) (PySem.mem_of_lookup h2)
 ·have hy:scope.names.lookup y=some .cell∨scope.names.lookup y=some .free:=hy
  rcases hy with hy|hy
  ·exact Hf hy
  ·exact absurd rfl (S.nofree _ (PySem.mem_of_lookup hy))
 ·exact qA6 (x.above y c (PySem.mem_of_lookup h))
 ·have hi:i<vs.length:=by
   unfold start at h2
   by_cases hi:i<vs.length
   ·exact hi
   ·rw[qAy (by simpa using hi)] at h2
    rw[qBC] at h2
    split at h2<;>cases h2
  have ha:vs[i]? = some v:=by
   unfold start at h2
   rw[qAC (by simpa using hi),qAo] at h2
   cases e:vs[i]? with
   |none=>rw[e] at h2;cases h2
   |some a=>rw[e] at h2;cases h2;rfl
  obtain⟨u,hu,rv⟩:=r.get ha
  have hp:ps[i]? = some y:=by
   rw[←S.pre,List.getElem?_take_of_lt ()];exact h1
  have ndP:ps.Nodup:=by rw[←S.pre];exact S.nd.sublist (List.take_sublist _ _)
  refine⟨u,rv,?_⟩
  rcases S.par y (qAw hp) with k|k
  ·exact .inl ⟨k,FJ ndP hp hu k⟩
  ·obtain⟨c,e⟩:=Hf (n:=s.heap.objs.size+1) k
   refine .inr ⟨.inl k,c,e,?_⟩
   have q:=x.cell y c e
   rw[FG ndP hp hu (by show scope.names.lookup y≠_;rw[k];decide)] at q
   exact q
 ·exact e0.hok.fresh (qA6 (x.above y c (PySem.mem_of_lookup h)))
 ·unfold start
  show _=N.length
  rw[qAd,qAa,qCl]
  omega
theorem Kq {CX:CXT}{P:Program}{w:World}{K:PySem.W.Frag}{mg:Str→Option Value}{base:Heap}{k:Nat}{f:Addr}{name qual:Str}{params:Arguments}{body:List Stmt}{scope:Scope}{dV kV doc pm cdv ct oc:Value}{an od:Option Addr}
 {osl:Array (Option Value)}{N ps:List Str}{sp:Sp}(lk:K.lookup f=some ⟨oc,od,.func (PySem.W.fnOf name qual params body scope dV kV doc pm an cdv ct),osl⟩) (hcd:PySem.W.codeIn K cdv qual=true) (S:Ah N ps scope)
 (len:∀vs H Q E,sp vs H Q E→vs.length=ps.length)
 (hbody:∀(A:Around)(outer:List Env)(s:Shared)(H:Hp)(vs:List V)(Q:VK)(E:XK),Dr k (A.deeper (envOfC qual scope s.heap.objs.size f cdv))→sp vs H Q E →
  ∃t,PSs (EK CX P w K mg base N qual scope f cdv A outer s H E) body t∧t { nx:=fun _ H'=>Q .non H',rt:=Q } (start N vs) H) :
 AS P w K mg base CX (k+1) f (PySem.W.fnOf name qual params body scope dV kV doc pm an cdv ct) ps sp:=by
 refine⟨len,fun A outer s H args us vs Q E hr e0 hb r hsp=>?_⟩
 have hl:=len _ _ _ _ hsp
 have KX:K.In s.heap:=e0.mod.kin.keeps fun b o e=>(e0.bs b o e).1
 have lim:s.heap.NoLimit:=e0.mod.nolimit.keeps fun b o e=>(e0.bs b o e).1
 have hkind:∀y∈ps.zip us,scope.names.lookup y.1=some .local∨(scope.names.lookup y.1=some .cell∧((cellsFrom (s.heap.objs.size+1) scope.names []).lookup y.1).isSome=true):=fun⟨n,v⟩ hy=>by
  rcases S.par n (qBO hy).1 with q|q
  ·exact .inl q
  ·exact .inr ⟨q,qCh _ _ _ (.inl q)⟩
 refine codeAny_call_function hr.depth (KX _ _ lk) rfl S.co S.gen rfl (PySem.W.codeRec_of KX hcd) (hb _ _ _ _ ?_)
 refine wpAny_newFunctionEnv_cells S.kind hkind fun env he s1 x=>?_
 subst he
 refine⟨lim.keeps x.toInCall.keep,codeAny_func ?_⟩
 obtain⟨t,ht,hq⟩:=hbody A outer s H vs Q E (hr.deeper _) hsp
 have I:Inv (EK CX P w K mg base N qual scope f cdv A outer s H E) [] (start N vs) H s1:=IY S hr.hd e0 hl r x
 refine wpAny_mono (ht [] s1 (start N vs) H _ I hq) (fun fl s' hs=>?_) fun e s' hs=>hs
 have fin:∀{σ':St}{H':Hp}{v:V}{u:Value},Inv (EK CX P w K mg base N qual scope f cdv A outer s H E) [] σ' H' s'→Bi v u→Q v H'→CE outer P w H s Q u s' :=
  fun {σ' H' v u} J rv q=>⟨v,H',J.os,J.bare,J.base,J.hok,rv,q⟩
 cases fl with
 |ret u =>
  obtain⟨v,σ',H',J,rv,q⟩:=hs
  exact fin J rv q
 |next =>
  obtain⟨σ',H',J,q⟩:=hs
  exact fin (v:=V.non) (u:=Value.none) J rfl q
 |brk =>
  obtain⟨_,_,_,q⟩:=hs
  exact False.elim q
 |cont =>
  obtain⟨_,_,_,q⟩:=hs
  exact False.elim q
end L2
namespace L2
open PySem PySem.Spec PyProof.Rows
section
variable {X:Cx}{x:Str}{p pos:Pos}{e:Expr}{es:List Expr}{t:TA}{id T:String}{r:List V→Hp→VK→Prop}
def tCB (r:List V→Hp→VK→Prop)(t:TA):TE:=fun σ H Q=>t σ H fun vs H1=>r vs H1 Q
theorem E8 (hc:Cd X (.builtin id) r)(hg:Gl X x)(hm:X.mg x=none)(hv:bootBuiltins x=some (.builtin id))(ha:PA X (e::es) t)(hn:x≠"__name__":=by decide)(hdb:(x==("__debug__":Str))=false:=by decide)
 (he:starEach (e::es) X.env=(false,eval e X.env)::starEach es X.env:=by rfl)(hpl:(backTo pos (starEach es X.env)).any (·.1)=false:=by rfl):PE X (.Call (.Name x p) (e::es) [] pos) (tCB r t):=by
 intro pins s σ H Q I h
 refine wpAny_Call_Name_kw (FY I hg hm hv ?_ hn hdb)
 exact PyProof.Rows.callWith_builtin1 (thn (ha pos pins s σ H _ I h) fun us s1 ⟨vs,H1,I1,r1,q1⟩=>hc pins s1 σ H1 vs us Q I1 r1 q1) he hpl
theorem Fy (hc:Cd X (.type T) r)(hg:Gl X x)(hm:X.mg x=none)(hv:bootBuiltins x=some (.type T))(ha:PA X (e::es) t)(hn:x≠"__name__":=by decide)(hdb:(x==("__debug__":Str))=false:=by decide)
 (he:starEach (e::es) X.env=(false,eval e X.env)::starEach es X.env:=by rfl)(hpl:(backTo pos (starEach es X.env)).any (·.1)=false:=by rfl):PE X (.Call (.Name x p) (e::es) [] pos) (tCB r t):=by
 intro pins s σ H Q I h
 refine wpAny_Call_Name_kw (FY I hg hm hv ?_ hn hdb)
 exact qBn (thn (ha pos pins s σ H _ I h) fun us s1 ⟨vs,H1,I1,r1,q1⟩=>hc pins s1 σ H1 vs us Q I1 r1 q1) he hpl
end
end L2
namespace HT
open PySem PyProof.Rows
section
open PySem.SeqAt
open PySem.AutoSeq1 (wpAny_loadPart')
open PySem.MeetsSeq PySem.MeetsSeq2 PySem.MeetsSeq3
end
section
variable {prog:Program}{w:World}{A:Around}{E:Value→Shared→Prop}{s:Shared}
theorem cat_tup {t b:Addr}{vs ws:List Value}{Q:Value→Shared→Prop}(ht:IsTup s.heap t vs.toArray) (hb:IsTup s.heap b ws.toArray) (hv:vs≠[])
 (h1:ws=[]→Q (.ref t) s) (h2:ws≠[]→Q (.ref s.heap.objs.size) { s with heap:=s.heap.push { cls:=.type "tuple",data:=.seq (vs++ws).toArray } })
 (hsz:vs.length+ws.length≤sizeLine):wpAny (model prog w) A (binaryOp .Add (.ref t) (.ref b)) Q E s:=by
 obtain⟨⟨cls,dd,data,sl⟩,ho,hc,n,hd⟩:=id ht
 obtain⟨⟨cls2,dd2,data2,sl2⟩,ho2,hc2,n2,hd2⟩:=id hb
 simp only at hc hd hc2 hd2
 subst hc hd hc2 hd2
 have e:vs.toArray++ws.toArray=(vs++ws).toArray:=by simp
 by_cases hw:ws=[]
 ·exact concat_meets ⟨_,ho,rfl⟩ ⟨_,ho2,rfl⟩ noFill_tuple_add seq_tuple_add qCi qB7 (qB3 _ _)
   (tuple_addW1 t b vs.toArray ws.toArray n n2 dd dd2 sl sl2 (by simpa using hv) (by simp[hw])) ⟨ho,ho2,h1 hw⟩
 ·refine concat_meets ⟨_,ho,rfl⟩ ⟨_,ho2,rfl⟩ noFill_tuple_add seq_tuple_add qCi qB7 (qB3 _ _)
   (tuple_addW2 t b vs.toArray ws.toArray n n2 dd dd2 sl sl2 (by simpa using hv) (by simpa using hw) (by rw[qAt,qAt];exact hsz)) ⟨ho,ho2,?_⟩
  rw[e]
  exact h2 hw
def sIx (n d:Nat):Option Int→Nat
 |none=>d
 |some v=>if v<0 then (v+(n:Int)).toNat else min v.toNat n
theorem sIx_nat (n d k:Nat):sIx n d (some (k:Int))=min k n:=by
 show(if (k:Int)<0 then ((k:Int)+(n:Int)).toNat else min (k:Int).toNat n)=min k n
 rw[if_neg (),Int.toNat_natCast]
theorem Oo (n d:Nat)(hd:d≤n)(o:Option Int):sIx n d o≤n:=by
 cases o with
 |none=>exact hd
 |some v =>
  show(if v<0 then (v+(n:Int)).toNat else min v.toNat n)≤n
  by_cases hv:v<0
  ·rw[if_pos hv];omega
  ·rw[if_neg hv];exact Nat.min_le_right _ _
theorem Jr (v:Int)(n d:Nat):(if v<0 then max (v+(n:Int)) 0 else min v (n:Int))=((sIx n d (some v):Nat):Int):=by
 show(if v<0 then max (v+(n:Int)) 0 else min v (n:Int))=(((if v<0 then (v+(n:Int)).toNat else min v.toNat n):Nat):Int)
 by_cases hv:v<0
 ·simp only[if_pos hv];omega
 ·simp only[if_neg hv];omega
theorem HH (lo hi:Option Int)(n:Nat):Builtin.Slice.sliceAdjust lo hi 1 (n:Int)=(((sIx n 0 lo:Nat):Int),((sIx n n hi:Nat):Int)):=by
 have h1:¬((1:Int)<0):=()
 unfold Builtin.Slice.sliceAdjust
 simp only[h1,if_false]
 refine Prod.ext ?_ ?_
 ·cases lo with
  |none=>rfl
  |some v=>exact Jr v n 0
 ·cases hi with
  |none=>rfl
  |some v=>exact Jr v n n
theorem HM (i j:Nat):Builtin.Slice.slicePlaces (i:Int) (j:Int) 1=j-i:=by
 unfold Builtin.Slice.slicePlaces
 have h1:(1:Int)>0:=()
 simp only[h1,if_true,Int.ediv_one]
 split<;>omega
theorem EN {v:Value}{o:Option Int}{Q:Option Int→Shared→Prop}(p:IsPart v o) (h:Q o s):wpAny (model prog w) A (Builtin.Slice.slicePartIndex v) Q E s:=by
 cases p with
 |none=>exact slicePart_none h
 |int i t=>exact slicePart_int h
theorem DR {sl:Addr}{vl vu:Value}{lo hi:Option Int}{n:Nat}{Q:Int×Int×Nat→Shared→Prop}(hs:s.heap.IsSliceOf sl vl vu .none) (pl:IsPart vl lo) (pu:IsPart vu hi)
 (h:Q (((sIx n 0 lo:Nat):Int),1,sIx n n hi-sIx n 0 lo) s):wpAny (model prog w) A (Builtin.Slice.sliceApplied (.ref sl) (pure (n:Int))) Q E s:=by
 obtain⟨os,hos,hcs,hds⟩:=id hs
 unfold Builtin.Slice.sliceApplied Builtin.Slice.sliceFields
 refine wpAny_bind (wpAny_bind (wpAny_field hos hds (x:=vl) rfl (wpAny_bind (wpAny_field hos hds (x:=vu) rfl (wpAny_bind (wpAny_field hos hds (x:=.none) rfl (wpAny_pure ?_)))))))
 refine wpAny_bind (slicePart_none ?_)
 show wpAny _ _ (if ((1:Int)==0)=true then _ else _) _ _ s
 rw[if_neg ∅]
 refine wpAny_bind (EN pl (wpAny_bind (EN pu (wpAny_bind (wpAny_pure ?_)))))
 show wpAny _ _ (match Builtin.Slice.sliceAdjust lo hi 1 (n:Int) with|(lo,hi)=>pure (lo,(1:Int),Builtin.Slice.slicePlaces lo hi 1)) _ _ s
 rw[HH lo hi n]
 show wpAny _ _ (pure (((sIx n 0 lo:Nat):Int),(1:Int),Builtin.Slice.slicePlaces ((sIx n 0 lo:Nat):Int) ((sIx n n hi:Nat):Int) 1)) _ _ s
 rw[HM]
 exact wpAny_pure h
theorem JW (xs:Array Value)(i k:Nat):((List.range k).filterMap fun(m:Nat)=>xs[((i:Int)+(m:Int)*1).toNat]?).toArray=((xs.toList.drop i).take k).toArray:=by
 have e:(fun(m:Nat)=>xs[((i:Int)+(m:Int)*1).toNat]?)=fun m=>xs[i+m]? := by
  funext m
  have:((i:Int)+(m:Int)*1).toNat=i+m:=()
  rw[this]
 rw[e]
 have:=pick_run xs i k
 rw[qBY] at this
 have e2:((fun x=>xs[x]?) ∘ fun x=>i+x)=fun m=>xs[i+m]? := rfl
 rw[e2] at this
 rw[this]
theorem getItem_tuple_cut {t sl:Addr}{items:Array Value}{vl vu:Value}{lo hi:Option Int}{Q:Value→Shared→Prop}(ht:IsTup s.heap t items) (hs:s.heap.IsSliceOf sl vl vu .none) (pl:IsPart vl lo) (pu:IsPart vu hi)
 (hw:¬(sIx items.size 0 lo=0∧sIx items.size items.size hi=items.size))
 (h:Q (.ref s.heap.objs.size) { s with heap:=s.heap.push { cls:=.type "tuple",data:=.seq ((items.toList.drop (sIx items.size 0 lo)).take (sIx items.size items.size hi-sIx items.size 0 lo)).toArray } })
 (hsz:items.size≤sizeLine):wpAny (model prog w) A (getItem (.ref t) (.ref sl)) Q E s:=by
 have htake:sizeOk (.seq ((items.toList.drop (sIx items.size 0 lo)).take (sIx items.size items.size hi-sIx items.size 0 lo)).toArray):=by
  show((items.toList.drop (sIx items.size 0 lo)).take (sIx items.size items.size hi-sIx items.size 0 lo)).toArray.size≤sizeLine
  rw[qAt,qAz,qAv,Array.length_toList]
  omega
 have hj:sIx items.size items.size hi≤items.size:=Oo _ _ (qAj _) hi
 obtain⟨os,hos,hcs,hds⟩:=id hs
 have hTs:s.TypeIs (.ref sl) "slice":=⟨os,hos,hcs⟩
 unfold getItem
 try with_reducible refine wpAny_holding ?_
 first|refine wpAny_bind (wpAny_pure ?_)|skip
 refine wpAny_bind (wpAny_sequenceKey ht.typeIs ∅ ?_)
 refine wpAny_bind (wpAny_callSpecial?_slot (name:=Str.ofString "__getitem__") ht.typeIs qBK
  (wpAny_call_entry qBK ht.typeIs entry_tuple_getitem ?_ (args_tuple_getitem _ _)))
 show wpAny _ _ (Builtin.Tuple.tupleItemsOf (.ref t) >>= _) _ _ s
 refine wpAny_bind (tupleItemsOf_ ht ?_)
 refine wpAny_bind (wpAny_typeOf hTs ?_)
 rw[if_pos ∅]
 refine wpAny_bind (DR hs pl pu ?_)
 have hno:¬((((sIx items.size 0 lo:Nat):Int)==0&&(1:Int)==1&&(sIx items.size items.size hi-sIx items.size 0 lo)==items.size)=true):=by
  intro q
  rw[qAN,qAN] at q
  have q1:((sIx items.size 0 lo:Nat):Int)=0:=eq_of_beq q.1.1
  have q2:sIx items.size items.size hi-sIx items.size 0 lo=items.size:=eq_of_beq q.2
  exact hw ⟨(),()⟩
 show wpAny _ _ (if (((sIx items.size 0 lo:Nat):Int)==0&&(1:Int)==1&&(sIx items.size items.size hi-sIx items.size 0 lo)==items.size)=true then _ else _) _ _ s
 rw[if_neg hno,JW]
 first
  |exact wpAny_bind (m:=Builtin.Tuple.tupleExact _) (wpAny_newObj_type (wpAny_pure ⟨_,rfl,wpAny_pure h⟩) htake)
  |exact wpAny_bind (m:=Builtin.Tuple.tupleExact _) (wpAny_newObj_type (wpAny_bind (wpAny_pure (wpAny_pure ⟨_,rfl,wpAny_pure h⟩))) htake)
  |exact wpAny_bind (wpAny_bind (m:=Builtin.Tuple.tupleExact _) (wpAny_newObj_type (wpAny_pure (wpAny_pure ⟨_,rfl,wpAny_pure h⟩)) htake))
  |exact wpAny_bind (wpAny_bind (m:=Builtin.Tuple.tupleExact _) (wpAny_newObj_type (wpAny_pure ⟨_,rfl,wpAny_pure h⟩) htake))
end
end HT
namespace L2
open PySem PySem.Spec PyProof.Rows
abbrev TO:=St→Hp→(Option Int→Hp→Prop)→Prop
def PO (X:Cx)(e:Option Expr)(t:TO):Prop :=
 ∀(pins:List (Addr×Obj))(s:Shared)(σ:St)(H:Hp)(Q:Option Int→Hp→Prop),Inv X pins σ H s→t σ H Q →
  wpAny (model X.prog X.w) X.A (evalPart e X.env) (fun u s'=>∃o H',Inv X pins σ H' s'∧IsPart u o∧Q o H') X.xe s
def Mo:TO:=fun _ H Q=>Q none H
def O1 (t:TE):TO:=fun σ H Q=>t σ H fun x H1=>∃i,x=.int i∧Q (some i) H1
section
variable {X:Cx}{e:Expr}{te:TE}{lo hi:Option Expr}{tl th:TO}{pos p2:Pos}
theorem Mr:PO X none Mo:=by
 intro pins s σ H Q I h
 rw[evalPart_none]
 exact wpAny_pure ⟨none,H,I,.none,h⟩
theorem My (h:PE X e te):PO X (some e) (O1 te):=by
 intro pins s σ H Q I hw
 rw[evalPart_some]
 refine thn (h pins s σ H _ I hw) fun u s1 hh=>?_
 obtain⟨x,H1,I1,r1,q1⟩:=hh
 obtain⟨i,rfl,q⟩:=q1
 obtain⟨t,rfl⟩:=r1
 exact⟨some i,H1,I1,.int i t,q⟩
def SlR (X:Cx)(r:V→Option Int→Option Int→Hp→VK→Prop):Prop :=
 ∀(pins:List (Addr×Obj))(s:Shared)(σ:St)(H:Hp)(x:V)(v vl vu:Value)(lo hi:Option Int)(sl:Addr)(Q:VK),Inv X pins σ H s→Bi x v→s.heap.IsSliceOf sl vl vu .none→IsPart vl lo→IsPart vu hi→r x lo hi H Q →
  ∃T id,typeLookup (.type T) "__getitem__"=pure (some (.builtin id))∧s.TypeIs v T∧wpAny (model X.prog X.w) X.A (getItem v (.ref sl)) (EP X pins σ Q) X.xe s
theorem SlR.or {r r':V→Option Int→Option Int→Hp→VK→Prop}(h:SlR X r) (h':SlR X r'):SlR X (fun x lo hi H Q=>r x lo hi H Q∨r' x lo hi H Q):=by
 intro pins s σ H x v vl vu lo hi sl Q I rx hs pl pu q
 rcases q with q|q
 ·exact h pins s σ H x v vl vu lo hi sl Q I rx hs pl pu q
 ·exact h' pins s σ H x v vl vu lo hi sl Q I rx hs pl pu q
def tSl (r:V→Option Int→Option Int→Hp→VK→Prop)(te:TE)(tl th:TO):TE:=fun σ H Q=>te σ H fun x H1=>tl σ H1 fun l H2=>th σ H2 fun u H3=>r x l u H3 Q
theorem GU {r:V→Option Int→Option Int→Hp→VK→Prop}(hr:SlR X r) (he:PE X e te) (hl:PO X lo tl) (hu:PO X hi th):PE X (.Subscript e (.Slice lo hi none p2) pos) (tSl r te tl th):=by
 intro pins s σ H Q I h
 refine Subscript_ (thn (he pins s σ H _ I h) fun v s1 hh=>?_)
 obtain⟨x,H1,I1,r1,q1⟩:=hh
 refine wpAny_Slice (thn (hl pins s1 σ H1 _ I1 q1) fun vl s2 ⟨l,H2,I2,pl,q2⟩=>thn (hu pins s2 σ H2 _ I2 q2) fun vu s3 hh=>?_)
 obtain⟨u,H3,I3,pu,q3⟩:=hh
 rw[evalPart_none]
 refine wpAny_pure ?_
 have I4:Inv X pins σ H3 { s3 with heap:=s3.heap.push { cls:=.type "slice",data:=.fields #[vl,vu,.none] } }:=I3.kept (t':=s3.toks) fun b ob q=>qAm _ q
 obtain⟨T,id,hT,ht,hg⟩:=hr pins { s3 with heap:=s3.heap.push { cls:=.type "slice",data:=.fields #[vl,vu,.none] } } σ H3 x v vl vu l u s3.heap.objs.size Q I4 r1 (Heap.IsSliceOf.new ..) pl pu q3
 show wpAny (model X.prog X.w) X.A (subscriptTail e (.Slice lo hi none p2) v (.ref s3.heap.objs.size)) (EP X pins σ Q) X.xe { s3 with heap:=s3.heap.push { cls:=.type "slice",data:=.fields #[vl,vu,.none] } }
 exact tail_any (ops:=[.ref s3.heap.objs.size,v]) ht hT hg (by with_unfolding_all rfl)
def HQ (xs:List V)(lo hi:Option Int):List V:=(xs.drop (HT.sIx xs.length 0 lo)).take (HT.sIx xs.length xs.length hi-HT.sIx xs.length 0 lo)
theorem Ed (xs:List V)(lo hi:Option Int):(HQ xs lo hi).length≤xs.length:=by
 unfold HQ
 rw[qAz,qAv]
 omega
def QL (K:PySem.W.Frag):V→Option Int→Option Int→Hp→VK→Prop:=fun x lo hi H Q=>∃a xs,x=.ref a∧SqT K H a xs ∧
 ¬(HT.sIx xs.length 0 lo=0∧HT.sIx xs.length xs.length hi=xs.length)∧∀p,H p=none→Q (.ref p) (upd H p (.tup (HQ xs lo hi)))
theorem NS:SlR X (QL X.K):=by
 intro pins s σ H x v vl vu lo hi sl Q I rx hs pl pu h
 obtain⟨a,xs,rfl,hx,hw,q⟩:=h
 cases rx
 obtain⟨its,r,ht,hz⟩:=I.tuple hx
 have hlen:its.toArray.size=xs.length:=by rw[qAt];exact r.length.symm
 refine⟨"tuple",_,PyProof.Rows.slot_tuple_getitem.lookup,ht.typeIs,?_⟩
 refine HT.getItem_tuple_cut ht hs pl pu (by rw[hlen];exact hw) ?_ (by rw[hlen];exact hz)
 rw[hlen]
 refine⟨.ref s.heap.objs.size,_,I.laid (t':=s.toks) (o:=.tup (HQ xs lo hi)) (fun b ob q=>qAm _ q) (qAj _) ?_,rfl,q _ (I.hok.fresh (qAj _))⟩
 exact⟨qAr (Ed xs lo hi) hz,_,(r.drop (HT.sIx xs.length 0 lo)).take (HT.sIx xs.length xs.length hi-HT.sIx xs.length 0 lo),IsTup.new _ _⟩
def PL (K:PySem.W.Frag):R2:=fun x y H Q=>∃a b xs ys,x=.ref a∧y=.ref b∧SqT K H a xs∧SqT K H b ys∧xs≠[]∧xs.length+ys.length≤sizeLine ∧
 (ys=[]→Q (.ref a) H)∧(ys≠[]→∀p,H p=none→Q (.ref p) (upd H p (.tup (xs++ys))))
theorem Be.nil_iff {xs:List V}{us:List Value}(r:Be xs us):us=[] ↔ xs=[]:=by
 cases r with
 |nil=>simp
 |cons _ _=>simp
theorem Mp:OpR X (binaryOp .Add) (PL X.K):=by
 intro pins s σ H x y v u Q I rx ry h
 obtain⟨a,b,xs,ys,rfl,rfl,ha,hb,hx,hz,q1,q2⟩:=h
 cases rx
 cases ry
 obtain⟨its,r1,p1,_⟩:=I.tuple ha
 obtain⟨its2,r2,p2,_⟩:=I.tuple hb
 refine HT.cat_tup p1 p2 (fun z=>hx (r1.nil_iff.mp z)) (fun z=>⟨.ref a,H,I,rfl,q1 (r2.nil_iff.mp z)⟩) (fun z=>?_) (by rw[←r1.length,←r2.length];exact hz)
 refine⟨.ref s.heap.objs.size,_,I.laid (t':=s.toks) (o:=.tup (xs++ys)) (fun b ob q=>qAm _ q) (qAj _) ?_,rfl,q2 (fun w=>z (r2.nil_iff.mpr w)) _ (I.hok.fresh (qAj _))⟩
 exact⟨by rw[qAd];exact hz,_,r1.append r2,IsTup.new _ _⟩
end
end L2
namespace L2
open PySem PySem.Spec PyProof.Rows
def ixN (n:Nat)(i:Int):Option Nat:=if 0≤i then (if i<n then some i.toNat else none) else if -(n:Int)≤i then some (i+n).toNat else none
def atI {α:Type}(xs:List α) (i:Int):Option α:=(ixN xs.length i).bind fun j=>xs[j]?
theorem MC {n:Nat}{i:Int}{j:Nat}(h:ixN n i=some j):seqIndex? i n=some j∧j<n∧-(n:Int)≤i∧i<n:=by
 unfold ixN at h
 by_cases h0:0≤i
 ·rw[if_pos h0] at h
  by_cases h1:i<n
  ·rw[if_pos h1] at h
   have e:i.toNat=j:=qAn h
   exact⟨by rw[seqIndex_of h0 h1,e],(),(),h1⟩
  ·rw[if_neg h1] at h;cases h
 ·rw[if_neg h0] at h
  by_cases h1:-(n:Int)≤i
  ·rw[if_pos h1] at h
   have e:(i+n).toNat=j:=qAn h
   exact⟨by rw[seqIndex_neg () h1,e],(),h1,()⟩
  ·rw[if_neg h1] at h;cases h
theorem GJ {α:Type}{xs:List α}{i:Int}{v:α}(h:atI xs i=some v):∃j,seqIndex? i xs.length=some j∧xs[j]? = some v∧j<xs.length∧-(xs.length:Int)≤i∧i<xs.length:=by
 unfold atI at h
 cases e:ixN xs.length i with
 |none=>rw[e] at h;cases h
 |some j =>
  rw[e] at h
  obtain⟨h1,h2,h3,h4⟩:=MC e
  exact⟨j,h1,h,h2,h3,h4⟩
theorem Cz {α:Type}{xs:List α}{j:Nat}{v:α}(h:xs[j]? = some v):atI xs (j:Int)=some v:=by
 have hj:j<xs.length:=(qAi.mp h).1
 have e:ixN xs.length (j:Int)=some j:=by
  unfold ixN
  rw[if_pos (),if_pos ()];simp
 unfold atI;rw[e];exact h
def GF (b:Expr):Prop:=∀o i,subscripted b false o i=operate [o,i] (getItem o i)
def IxR (X:Cx)(r:R2):Prop :=
 ∀(value slice:Expr)(pins:List (Addr×Obj))(s:Shared)(σ:St)(H:Hp)(x y:V)(v u:Value)(Q:VK),Inv X pins σ H s→Bi x v→Bi y u→r x y H Q →
  subscripted slice false v u=operate [v,u] (getItem v u)→wpAny (model X.prog X.w) X.A (subscriptTail value slice v u) (EP X pins σ Q) X.xe s
def MtR (X:Cx)(id:String)(r:V→List V→Hp→VK→Prop):Prop :=
 ∀(pins:List (Addr×Obj))(s:Shared)(σ:St)(H:Hp)(x:V)(xs:List V)(v:Value)(us:List Value)(Q:VK),Inv X pins σ H s→Bi x v→Be xs us→r x xs H Q →
  wpAny (model X.prog X.w) X.A (call (.builtin id) (v::us)) (EP X pins σ Q) X.xe s
section
variable {X:Cx}{a b:Expr}{ta tb:TE}{pos:Pos}
theorem IxR.or {r r':R2}(h:IxR X r) (h':IxR X r'):IxR X (fun x y H Q=>r x y H Q∨r' x y H Q):=by
 intro value slice pins s σ H x y v u Q I rx ry q hs
 rcases q with q|q
 ·exact h value slice pins s σ H x y v u Q I rx ry q hs
 ·exact h' value slice pins s σ H x y v u Q I rx ry q hs
theorem Ow {r:R2}(hr:IxR X r) (ha:PE X a ta) (hb:PE X b tb) (hs:GF b):PE X (.Subscript a b pos) (tOp r ta tb):=by
 intro pins s σ H Q I h
 exact Subscript_ (Pg ha hb I h fun v u s2 x y H2 I2 rx ry q=>hr a b pins s2 σ H2 x y v u Q I2 rx ry q (hs _ _))
def Q2 (K:PySem.W.Frag):R2:=fun x y H Q=>∃p xs i v,x=.ref p∧y=.int i∧SqL K H p xs∧atI xs i=some v∧Q v H
def QO (K:PySem.W.Frag):R2:=fun x y H Q=>∃p xs i v,x=.ref p∧y=.int i∧SqT K H p xs∧atI xs i=some v∧Q v H
def Qr:R2:=fun x y H Q=>∃z i c,x=.str z∧y=.int i∧z.length≤sizeLine∧atI z.cps.toList i=some c∧Q (.str ⟨#[c]⟩) H
theorem LN:IxR X (Q2 X.K):=by
 intro value slice pins s σ H x y v u Q I rx ry h hs
 obtain⟨p,xs,i,z,rfl,rfl,hq,he,q⟩:=h
 cases rx
 obtain⟨t,rfl⟩:=ry
 obtain⟨its,r,pl,hz⟩:=I.list hq
 obtain⟨j,h1,h2,h3,h4,h5⟩:=GJ he
 obtain⟨w,ew,rw'⟩:=r.get h2
 have hl:=r.length
 have hn:=FX
 have fin:EP X pins σ Q w s:=⟨z,H,I,rw',q⟩
 by_cases h0:0≤i
 ·have hj:i.toNat=j:=by
   rw[seqIndex_of h0 h5] at h1
   exact qAn h1
  exact item_listR pl.isList h0 () (by rw[hj];simpa using ew) fin hs
 ·have hj:(i+(its.toArray.size:Int)).toNat=j:=by
   rw[seqIndex_neg () h4] at h1
   rw[qAt,←hl]
   exact qAn h1
  exact subscriptTail_builtinR (x:=w) pl.isList.typeIs slot_list_getitem.lookup
   (wpAny_getItem_list_neg (Q:=fun r s'=>r=w∧EP X pins σ Q r s') pl.isList () (by rw[qAt]<;>omega) () (by rw[hj];simpa using ew) ⟨rfl,fin⟩) hs
theorem OI:IxR X (QO X.K):=by
 intro value slice pins s σ H x y v u Q I rx ry h hs
 obtain⟨p,xs,i,z,rfl,rfl,hq,he,q⟩:=h
 cases rx
 obtain⟨t,rfl⟩:=ry
 obtain⟨its,r,pl,hz⟩:=I.tuple hq
 obtain⟨j,h1,h2,h3,h4,h5⟩:=GJ he
 obtain⟨w,ew,rw'⟩:=r.get h2
 have hl:=r.length
 have hn:=FX
 have fin:EP X pins σ Q w s:=⟨z,H,I,rw',q⟩
 exact subscriptTail_builtinR (x:=w) pl.typeIs slot_tuple_getitem.lookup
  (getItem_tuple (j:=j) (Q:=fun r s'=>r=w∧EP X pins σ Q r s') pl () () (by rw[qAt,←hl];exact h1) (by simpa using ew) ⟨rfl,fin⟩) hs
theorem Nz:IxR X Qr:=by
 intro value slice pins s σ H x y v u Q I rx ry h hs
 obtain⟨z,i,c,rfl,rfl,hz,he,q⟩:=h
 obtain⟨t,rfl⟩:=rx
 obtain⟨t',rfl⟩:=ry
 obtain⟨j,h1,h2,h3,h4,h5⟩:=GJ he
 have hl:z.cps.toList.length=z.length:=by simp[Str.length]
 rw[hl] at h1 h4 h5
 have hn:=FX
 exact tail_any (typeIs_str s z t) slot_str_getitem.lookup (getItem_str (c:=c) (by
  have e1:decide (i < -(2^63:Int))=false:=decide_eq_false ()
  have e2:decide (i≥2^63)=false:=decide_eq_false ()
  rw[e1,e2,Bool.or_false]) (by rw[h1];simpa using h2) ⟨.str ⟨#[c]⟩,H,I.tok _,⟨_,rfl⟩,q⟩) hs
theorem F0 (lo hi:Option Int)(n:Nat):(sliceBounds lo hi none n).1=((HT.sIx n 0 lo:Nat):Int)∧(sliceBounds lo hi none n).2.1=((HT.sIx n n hi:Nat):Int)∧(sliceBounds lo hi none n).2.2=1:=by
 refine⟨?_,?_,rfl⟩
 ·cases lo with
  |none=>simp[sliceBounds,HT.sIx]
  |some i =>
   simp only[sliceBounds,HT.sIx,Option.getD_none,show(1:Int)>0 from ∅,if_true]
   by_cases h:i<0
   ·simp only[h,if_true]<;>omega
   ·simp only[h,if_false]<;>omega
 ·cases hi with
  |none=>simp[sliceBounds,HT.sIx]
  |some i =>
   simp only[sliceBounds,HT.sIx,Option.getD_none,show(1:Int)>0 from ∅,if_true]
   by_cases h:i<0
   ·simp only[h,if_true]<;>omega
   ·simp only[h,if_false]<;>omega
theorem Fg (its:List Value)(lo hi:Option Int):slicePick its.toArray lo hi none=((its.drop (HT.sIx its.length 0 lo)).take (HT.sIx its.length its.length hi-HT.sIx its.length 0 lo)).toArray:=by
 obtain⟨h1,h2,h3⟩:=F0 lo hi its.toArray.size
 unfold slicePick
 rw[h1,h2,h3]
 simp only[sliceRange_one,pick_run,qAt]<;>rfl
def QR (K:PySem.W.Frag):V→Option Int→Option Int→Hp→VK→Prop:=fun x lo hi H Q=>∃a xs,x=.ref a∧SqL K H a xs∧∀p,H p=none→Q (.ref p) (upd H p (.lst (HQ xs lo hi)))
theorem MP:SlR X (QR X.K):=by
 intro pins s σ H x v vl vu lo hi sl Q I rx hs pl pu h
 obtain⟨a,xs,rfl,hx,q⟩:=h
 cases rx
 obtain⟨its,r,ht,hz⟩:=I.list hx
 have hlen:=r.length
 refine⟨"list",_,slot_list_getitem.lookup,ht.isList.typeIs,?_⟩
 refine wpAny_getItem_list_slice ht.isList hs pl pu .none (by simp) ?_ (by rw[qAt]<;>omega)
 rw[Fg,←hlen]
 refine⟨.ref s.heap.objs.size,_,I.laid (t':=s.toks) (o:=.lst (HQ xs lo hi)) (fun b ob q=>qAm _ q) (qAj _) ?_,rfl,q _ (I.hok.fresh (qAj _))⟩
 exact⟨qAr (Ed xs lo hi) hz,_,0,(r.drop (HT.sIx xs.length 0 lo)).take (HT.sIx xs.length xs.length hi-HT.sIx xs.length 0 lo),qAH _ rfl⟩
def flatV:V→Bool
 |.non=>true
 |.bl _=>true
 |.int _=>true
 |.str _=>true
 |_=>false
def eqV:V→V→Bool
 |.non,.non=>true
 |.bl a,.bl b=>a==b
 |.bl a,.int b=>(if a then 1 else 0)==b
 |.int a,.bl b=>a==(if b then 1 else 0)
 |.int a,.int b=>a==b
 |.str a,.str b=>a==b
 |_,_=>false
theorem Li {A:Around}{s:Shared}{y x:V}{u v:Value}(ry:Bi y u) (rx:Bi x v) (fy:flatV y=true) (fx:flatV x=true):SeqAt.EqAt A s u v (eqV y x):=by
 cases y with
 |non =>
  cases ry
  cases x with
  |non=>cases rx;exact SeqAt.EqAt.same _
  |bl b=>cases rx;exact SeqAt.EqAt.none_bool b
  |int b=>obtain⟨t,rfl⟩:=rx;exact SeqAt.EqAt.none_int b t
  |str b=>obtain⟨t,rfl⟩:=rx;exact SeqAt.EqAt.none_str b t
  |_=>exact absurd (show false=true from fx) qAf
 |bl a =>
  cases ry
  cases x with
  |non=>cases rx;exact SeqAt.EqAt.bool_none a
  |bl b=>cases rx;exact SeqAt.EqAt.bool_bool a b
  |int b=>obtain⟨t,rfl⟩:=rx;exact SeqAt.EqAt.bool_int a b t
  |str b=>obtain⟨t,rfl⟩:=rx;exact SeqAt.EqAt.bool_str a b t
  |_=>exact absurd (show false=true from fx) qAf
 |int a =>
  obtain⟨t',rfl⟩:=ry
  cases x with
  |non=>cases rx;exact SeqAt.EqAt.int_none a t'
  |bl b=>cases rx;exact SeqAt.EqAt.int_bool a t' b
  |int b=>obtain⟨t,rfl⟩:=rx;exact SeqAt.EqAt.int_int a t' b t
  |str b=>obtain⟨t,rfl⟩:=rx;exact SeqAt.EqAt.int_str a t' b t
  |_=>exact absurd (show false=true from fx) qAf
 |str a =>
  obtain⟨t',rfl⟩:=ry
  cases x with
  |non=>cases rx;exact SeqAt.EqAt.str_none a t'
  |bl b=>cases rx;exact SeqAt.EqAt.str_bool a t' b
  |int b=>obtain⟨t,rfl⟩:=rx;exact SeqAt.EqAt.str_int a t' b t
  |str b=>obtain⟨t,rfl⟩:=rx;exact SeqAt.EqAt.str_str a t' b t
  |_=>exact absurd (show false=true from fx) qAf
 |_=>exact absurd (show false=true from fy) qAf
theorem F3:Cd X (.builtin "len") (fun xs H Q=>∃p ys,xs=[.ref p]∧(SqL X.K H p ys∨SqT X.K H p ys)∧Q (.int ys.length) H):=by
 intro pins s σ H xs us Q I r h
 obtain⟨p,ys,rfl,hq,q⟩:=h
 obtain⟨u,rfl,rx⟩:=DQ r
 cases rx
 have hn:=FX
 rcases hq with hq|hq
 ·obtain⟨its,r',pl,hz⟩:=I.list hq
  have hlen:=r'.length
  exact Calls.call_len_list pl.isList (by simp only[qAt]<;>omega) ⟨.int ys.length,H,I.tok _,⟨s.toks+1,by rw[qAt,hlen]⟩,q⟩
 ·obtain⟨its,r',pl,hz⟩:=I.tuple hq
  have hlen:=r'.length
  exact len_tuple pl (by simp only[qAt]<;>omega) ⟨.int ys.length,H,I.tok _,⟨s.toks+1,by rw[qAt,hlen]⟩,q⟩
theorem FC:Cd X (.builtin "len") (fun xs H Q=>∃z,xs=[.str z]∧z.length≤sizeLine∧Q (.int z.length) H):=by
 intro pins s σ H xs us Q I r h
 obtain⟨z,rfl,hz,q⟩:=h
 obtain⟨u,rfl,t,rfl⟩:=DQ r
 have hn:=FX
 exact len_str () ⟨.int z.length,H,I.tok _,⟨_,rfl⟩,q⟩
theorem Cd.or {f:Value}{r r':List V→Hp→VK→Prop}(h:Cd X f r) (h':Cd X f r'):Cd X f (fun xs H Q=>r xs H Q∨r' xs H Q):=by
 intro pins s σ H xs us Q I rs q
 rcases q with q|q
 ·exact h pins s σ H xs us Q I rs q
 ·exact h' pins s σ H xs us Q I rs q
theorem E7:Cd X (.type "tuple") (fun xs H Q=>∃p ys,xs=[.ref p]∧((SqL X.K H p ys∧∀l,H l=none→Q (.ref l) (upd H l (.tup ys)))∨(SqT X.K H p ys∧Q (.ref p) H))):=by
 intro pins s σ H xs us Q I r h
 obtain⟨p,ys,rfl,h⟩:=h
 obtain⟨u,rfl,rx⟩:=DQ r
 cases rx
 rcases h with⟨hq,q⟩|⟨hq,q⟩
 ·obtain⟨its,r',pl,hz⟩:=I.list hq
  have hlen:=r'.length
  refine call_tuple_list pl.isList (fun h' kp=>?_) (by simp only[qAt]<;>omega)
  have I1:Inv X pins σ H { s with heap:=h' }:=I.kept (t':=s.toks) kp
  have I2:Inv X pins σ (upd H h'.objs.size (.tup ys)) { s with heap:=h'.push { cls:=.type "tuple",data:=.seq its.toArray } } :=
   I1.laid (t':=s.toks) (fun b o e=>qAm _ e) (qAj _) (show Bg X.prog X.w _ _ _ (.tup ys) from ⟨hz,its,r',IsTup.new _ _⟩)
  exact⟨.ref h'.objs.size,_,I2,rfl,q _ (I1.hok.fresh (qAj _))⟩
 ·obtain⟨its,r',pl,hz⟩:=I.tuple hq
  exact call_tuple_same pl ⟨.ref p,H,I,rfl,q⟩
def tyV (K:PySem.W.Frag)(T:String)(x:V)(H:Hp):Prop:=match x with
 |.str _=>T="str"
 |.int _=>T="int"
 |.ref p=>(T="list"∧∃xs,SqL K H p xs)∨(T="tuple"∧∃o,K.lookup p=some o∧o.cls=.type "tuple"∧o.dict=none) ∨
  (T="dict"∧((∃kvs,H p=some (.dK kvs))∨∃kvs,H p=some (.dT kvs)))∨(T="set"∧∃S n,H p=some (.set S n))
 |_=>False
theorem Oy {pins:List (Addr×Obj)}{σ:St}{H:Hp}{s:Shared}{T:String}{x:V}{v:Value}(I:Inv X pins σ H s) (r:Bi x v) (ty:tyV X.K T x H) :
 s.TypeIs v T∧∀a,v=.ref a→∃ob,s.heap.get? a=some ob∧ob.dict=none:=by
 cases x with
 |str z =>
  obtain⟨t,rfl⟩:=r
  cases (show T="str" from ty)
  exact⟨typeIs_str s z t,fun _ e=>nomatch e⟩
 |int i =>
  obtain⟨t,rfl⟩:=r
  cases (show T="int" from ty)
  exact⟨typeIs_int s i t,fun _ e=>nomatch e⟩
 |ref p =>
  cases r
  rcases ty with⟨rfl,xs,hq⟩|⟨rfl,o,hk,hc,hd⟩|⟨rfl,hk⟩|⟨rfl,S,n,hk⟩
  ·obtain⟨its,_,pl,_⟩:=I.list hq
   refine⟨pl.isList.typeIs,fun a e=>?_⟩
   cases e
   obtain⟨o,n,e,c,hd,_⟩:=pl
   exact⟨o,e,hd⟩
  ·refine⟨⟨o,I.kIn p o hk,hc⟩,fun a e=>?_⟩
   cases e
   exact⟨o,I.kIn _ o hk,hd⟩
  ·have z:∃o,s.heap.get? p=some o∧o.ExactDict:=by
    rcases hk with⟨kvs,hk⟩|⟨kvs,hk⟩
    ·obtain⟨_,_,_,_,o,_,_,e,ex,_⟩:=I.hok p _ hk
     exact⟨o,e,ex⟩
    ·obtain⟨_,_,_,_,o,_,_,e,ex,_⟩:=I.hok p _ hk
     exact⟨o,e,ex⟩
   obtain⟨o,e,ex⟩:=z
   refine⟨⟨o,e,ex.1⟩,fun a e2=>?_⟩
   cases e2
   exact⟨o,e,ex.2.1⟩
  ·obtain⟨o,_,_,_,e,ex,_⟩:=I.hok p _ hk
   refine⟨⟨o,e,ex.1⟩,fun a e2=>?_⟩
   cases e2
   exact⟨o,e,ex.2.1⟩
 |_=>exact False.elim ty
def tBM (K:PySem.W.Frag)(T:String)(r:V→List V→Hp→VK→Prop)(to:TE)(t:TA):TE:=fun σ H Q=>to σ H fun x H1=>tyV K T x H1∧t σ H1 fun xs H2=>r x xs H2 Q
variable {o e:Expr}{es:List Expr}{to:TE}{t:TA}{name:Str}{apos cpos:Pos}{T id:String}{r:V→List V→Hp→VK→Prop}
theorem F9 (pa:PlainAttrs T)(slot:Slot T name id)(hty:typeOf (.builtin id)=pure (.type "method_descriptor"))(hm:MtR X id r)(ho:PE X o to)(ha:PA X (e::es) t)
 (hbase:attributeBase o name X.env (eval o X.env)=eval o X.env:=by rfl)
 (hfew:((backTo cpos (starEach (e::es) X.env)).all (fun x=>!x.1)&&(backToKw cpos (keywordEach [] X.env)).all (fun x=>x.1.isSome)
  && decide ((e::es).length+([]:List Keyword).length+(if ([]:List Keyword).isEmpty then 0 else 1)<30))=true:=by rfl)
 (hline:(apos.endLine==cpos.line)=true:=by rfl) (hs:starEach (e::es) X.env=(false,eval e X.env)::starEach es X.env:=by rfl) (hplain:(backTo cpos (starEach es X.env)).any (·.1)=false:=by rfl) :
 PE X (.Call (.Attribute o name apos) (e::es) [] cpos) (tBM X.K T r to t):=by
 intro pins s σ H Q I h
 refine wpAny_Call_method_late hbase hfew hline rfl (thn (ho pins s σ H _ I h) fun v s1 hh=>?_)
 obtain⟨x,H1,I1,r1,ty,q1⟩:=hh
 obtain⟨h1,h2⟩:=Oy I1 r1 ty
 refine⟨T,id,pa,slot,hty,h1,h2,?_⟩
 have hA:=ha cpos pins s1 σ H1 _ I1 q1
 rw[hs] at hA ⊢
 refine Calls.callWith_builtin (by show(false||(backTo cpos (starEach es X.env)).any (·.1))=false;rw[hplain]<;>rfl) (Calls.evalArgs_plain ?_)
 exact thn hA fun us s2 ⟨vs,H2,I2,r2,q2⟩=>hm pins s2 σ H2 x vs v us Q I2 r1 r2 q2
end
end L2
namespace L2
open PySem PySem.Spec PyProof.Rows
def MtM (X:Cx)(id:String)(r:V→List V→Hp→VK→Prop):Prop :=
 ∀(pins:List (Addr×Obj))(s:Shared)(σ:St)(H:Hp)(x:V)(xs:List V)(v:Value)(us:List Value)(Q:VK),Inv X pins σ H s→Bi x v→Be xs us→r x xs H Q →
  wpAny (model X.prog X.w) X.A (call (.builtin id) (v::us)) (EP X pins σ Q) X.xe s
theorem Be.one:∀{x:V}{us:List Value},Be [x] us→∃u,us=[u]∧Bi x u
 |_,_,.cons r .nil=>⟨_,rfl,r⟩
section
variable {X:Cx}{pins:List (Addr×Obj)}{σ:St}{H:Hp}{s:Shared}{l b:Addr}{xs ys zs:List V}
theorem Inv.lset {its its':List Value}{n:Nat}{f:Array Value→Array Value}{t':Nat}(I:Inv X pins σ H s) (hH:H l=some (.lst xs))
 (e:s.heap.get? l=some { cls:=.type "list",data:=.seq its.toArray n }) (hf:f its.toArray=its'.toArray) (hv:Be ys its') (hz:ys.length≤sizeLine) :
 Inv X pins σ (upd H l (.lst ys)) { s with heap:=s.heap.update l (Obj.mapSeq f),toks:=t' }:=by
 have q:=PySem.IsL.update e f
 rw[hf] at q
 refine I.write (x:=l) (e:=l) (by rw[hH];exact trivial) (.inl rfl) (fun b' u hb hu=>(qBh s.heap (Obj.mapSeq f) (Ne.symm hb)).trans hu) ⟨_,q⟩ ?_
 exact⟨hz,its',_,hv,q⟩
theorem Inv.lnew {its:List Value}{t':Nat}(I:Inv X pins σ H s) (hv:Be ys its) (hz:ys.length≤sizeLine) :
 Inv X pins σ (upd H s.heap.objs.size (.lst ys)) { s with heap:=s.heap.push { cls:=.type "list",data:=.seq its.toArray },toks:=t' } :=
 I.laid (fun _ _ q=>qAm _ q) (qAj _) ⟨hz,its,0,hv,qAH _ rfl⟩
theorem Inv.fresh (I:Inv X pins σ H s):H s.heap.objs.size=none:=I.hok.fresh (qAj _)
theorem Inv.lstM (I:Inv X pins σ H s)(hH:H l=some (.lst xs)):xs.length≤sizeLine∧∃(its:List Value)(n:Nat),Be xs its∧xs.length=its.length∧s.heap.get? l=some { cls:=.type "list",data:=.seq its.toArray n }:=by
 obtain⟨z,its,n,r,e⟩:=I.hok l _ hH
 exact⟨z,its,n,r,r.length,e⟩
end
section
variable {X:Cx}
def IC:V→List V→Hp→VK→Prop:=fun x vs H Q=>∃l xs y,x=.ref l∧vs=[y]∧H l=some (.lst xs)∧xs.length<sizeLine∧Q .non (upd H l (.lst (xs++[y])))
theorem Cw:MtM X "list.append" IC:=by
 intro pins s σ H x vs v us Q I rx rv h
 obtain⟨l,xs,y,rfl,rfl,hH,hz,q⟩:=h
 cases rx
 obtain⟨u,rfl,ru⟩:=rv.one
 obtain⟨z,its,n,r,hl,e⟩:=I.lstM hH
 refine call_meets F.slot_list_append ⟨_,e,rfl⟩ F.entry_list_append (F.args_list_append_2 _ _) (PySem.list_append l its.toArray n u (by rw[qAt];omega)) ⟨e,?_⟩
 refine⟨.non,_,I.lset (its':=its++[u]) hH e (by simp) (r.append (.cons ru .nil)) ?_,rfl,q⟩
 rw[qAd,qBl]
 omega
def QT:R2:=fun x y H Q=>∃l b xs zs,x=.ref l∧y=.ref b∧H l=some (.lst xs)∧H b=some (.lst zs)∧xs.length+zs.length≤sizeLine∧∀p,H p=none→Q (.ref p) (upd H p (.lst (xs++zs)))
theorem N2:OpR X (binaryOp .Add) QT:=by
 intro pins s σ H x y v u Q I rx ry h
 obtain⟨l,b,xs,zs,rfl,rfl,hH,hB,hz,q⟩:=h
 cases rx
 cases ry
 obtain⟨z,its,n,r,hl,e⟩:=I.lstM hH
 obtain⟨z2,its2,n2,r2,hl2,e2⟩:=I.lstM hB
 refine PySem.P.add_list e e2 ?_ (by rw[qAt,qAt];omega)
 have ea:its.toArray++its2.toArray=(its++its2).toArray:=by simp
 rw[ea]
 exact⟨.ref _,_,I.lnew (t':=s.toks) (r.append r2) (by rw[qAd];omega),rfl,q _ I.fresh⟩
end
section
variable {prog:Program}{w:World}{A:Around}{E:Value→Shared→Prop}{s:Shared}
end
section
variable {X:Cx}
end
end L2
namespace Att
open PySem PySem.W PySem.Calls PyProof.Rows
theorem Eo {P:Params}{h:Heap}:∀(ns:List Int)(vs:List Value),WellAll P h vs (ns.map WData.int)→IntsAre vs ns:=by
 intro ns
 induction ns with
 |nil =>
  intro vs w
  rw[List.map_nil] at w
  cases w
  exact .nil
 |cons n ns ih =>
  intro vs w
  rw[qA1] at w
  cases w with
  |cons a b =>
   cases a
   exact .cons _ _ (ih _ b)
theorem Jh {l:OpenLaw}{n:Nat}(hn:l.most=some n){P:Params}{h:Heap}{args:List WData}{vals:List Value}
 (hpre:l.row.toRowW.claim.pre args=true) (hwl:WellAll P h vals args) :
 ∃a vs ns,vals=[Value.ref a]∧args=[WData.list (ns.map WData.int)]∧h.get? a=some { cls:=.type "list",data:=.seq vs.toArray }∧IntsAre vs ns∧ns.length≤n:=by
 have hsh:WShape.hasAll [] args [.list .int]=true:=(pre_splitW hpre).1
 have hc:l.pre.holds [] { args:=args }=true:=(pre_splitW hpre).2
 obtain⟨d,r,rfl,h1,h2⟩:=hasAllW_cons hsh
 obtain rfl:=hasAllW_nil h2
 obtain⟨xs,rfl,h3⟩:=hasW_list h1
 obtain⟨ns,rfl⟩:=items_int h3
 have hlen:ns.length≤n:=by
  unfold OpenLaw.pre at hc
  have h4:(WTm.not (.lt (.lit (.int (n:Int))) (.len (.arg 0)))).holds [] { args:=[.list (ns.map .int)] }=true:=by
   have h4:=(holds_andW hc).1
   rw[hn] at h4
   exact h4
  have h5:=condW_of h4 (w_not (w_lt w_lit (w_len_list (w_arg rfl))))
  rw[qAa] at h5
  refine Nat.le_of_not_lt fun q=>?_
  have q':(n:Int)<((ns.length:Nat):Int):=()
  first
   |(rw[decide_eq_true q'] at h5;exact absurd h5 ∅)
   |(simp at h5;omega)
 cases hwl with
 |cons w1 w2 =>
  cases w2
  cases w1 with
  |list ho hall=>exact⟨_,_,ns,rfl,rfl,ho,Eo ns _ hall,hlen⟩
theorem JE (l:OpenLaw)(args:List WData):l.row.toRowW.claim.post args (.bool true) args=true :=
 postW_of (r:=l.row.toRowW) (X:=(true==true))
  (show WShape.has [] (.bool true) .bool=true by first|rfl|decide|simp[WShape.has,WShape.arms,WShape.armsAll])
  (show(WTm.eq .res (.lit (.bool true))).value [] { args:=args,res:=some (.bool true),after:=args }=some (.bool (true==true)) from w_eq_bool (w_res rfl) w_lit) rfl
theorem attach_call {l:OpenLaw}{n:Nat}{q:Program}{loose:List Str}{XP:(Str→Option Value)→Heap→Prop}{YP:World→Heap→Prop}{d:DefRec}
 (hn:l.most=some n) (hdf:d.params.defaults=[])
 (call:∀(w:World)(s₀ s₁:Shared)(mg mb:Str→Option Value)(fa:Addr)(o:Obj)(pm cd doc:Value)(a:Addr)(vs:List Value)(ns:List Int),
  Ground q loose [] XP w s₀ mg mb s₁.heap→YP w s₁.heap →
  s₁.heap.get? fa=some o→o.data=.func (docDef d.name d.params d.body d.scope pm cd doc)→s₁.heap.CodeRec cd d.name→mg d.name=some (.ref fa) →
  s₁.heap.get? a=some { cls:=.type "list",data:=.seq vs.toArray }→IntsAre vs ns→ns.length≤n→s₁.gens=#[] →
  codeAny (model l.prog w) callerA (.call (.ref fa) ⟨[.ref a],[]⟩) (fun r s'=>r=.ok (.ret (.bool true))∧OldK s₁.heap s'.heap∧s'.os=s₁.os∧AllBare s'.gens) s₁) :
 WalkO q loose XP YP l.row.toRowW d [] (fun f vs=>PySem.call f vs):=by
 intro w s₀ s₁ mg mb G Y fa o pm cd doc dV kV ho hd hcd hD hmg hg args vals as hpre hlay hrd hwl hlo
 obtain rfl:dV=.none:=Dflts.none hD hdf
 obtain rfl:kV=.none:=Dflts.noKw hD
 obtain⟨a,vs,ns,rfl,rfl,hobj,hints,hlen⟩:=Jh hn hpre hwl
 refine enter_call (codeAny_mono (call w s₀ s₁ mg mb fa o pm cd doc a vs ns G Y ho (fd_plain hd) hcd hmg hobj hints hlen hg) fun r s' hq=>?_)
 obtain⟨rfl,h2,h3,h4⟩:=hq
 exact⟨.inl ⟨.bool true,.bool true,[],rfl,fun _=>rfl,.bool true,JE l _,fun _=>⟨List.Pairwise.nil,fun _ hm=>(nomatch hm)⟩⟩,h2,h3,h4⟩
section
variable {prog:Program}{w:World}{A:Around}{E:Value→Shared→Prop}{s:Shared}{K:Frag}
end
end Att
namespace L2
open PySem PySem.Spec PyProof.Rows
theorem FL:∀{vs:List Value}{ns:List Int},IntsAre vs ns→Be (ns.map V.int) vs
 |_,_,.nil=>.nil
 |_,_,.cons n t h=>.cons ⟨t,rfl⟩ (FL h)
end L2
namespace L2
open PySem PySem.Spec PyProof.Rows
abbrev CX0:CXT:=fun _ _ _ _ _ _=>False
structure Fun (K:PySem.W.Frag)(x qual:Str)(st:Stmt)(f:Addr)(fd:FuncData):Prop where
 ex:∃(oc:Value)(od:Option Addr)(kV doc pm:Value)(an:Option Addr)(cdv ct:Value)(osl:Array (Option Value)),
  fd=PySem.W.fnOf x qual (C6 st) (Bf st) (Ab st) .none kV doc pm an cdv ct∧K.lookup f=some ⟨oc,od,.func fd,osl⟩∧PySem.W.codeIn K cdv qual=true
 kp:PySem.W.keepIn K (.ref f)=true
section
variable {P:Program}{w:World}{K:PySem.W.Frag}{mg:Str→Option Value}{base:Heap}
theorem Fun.ok {x qual:Str}{st:Stmt}{f:Addr}{fd:FuncData}{N ps:List Str}{k:Nat}{sp:Sp}(F:Fun K x qual st f fd) (S:Ah N ps (Ab st)) (len:∀vs H Q E,sp vs H Q E→vs.length=ps.length)
 (hbody:∀(cdv:Value)(A:Around)(outer:List Env)(s:Shared)(H:Hp)(vs:List V)(Q:VK)(E:XK),Dr k (A.deeper (envOfC qual (Ab st) s.heap.objs.size f cdv))→sp vs H Q E →
  ∃t,PSs (EK CX0 P w K mg base N qual (Ab st) f cdv A outer s H E).nox (Bf st) t∧t { nx:=fun _ H'=>Q .non H',rt:=Q } (start N vs) H):AS P w K mg base CX0 (k+1) f fd ps sp:=by
 obtain⟨oc,od,kV,doc,pm,an,cdv,ct,osl,rfl,lk,hcd⟩:=F.ex
 refine Kq lk hcd S len fun A outer s H vs Q E hr hsp=>?_
 obtain⟨t,h,q⟩:=hbody cdv A outer s H vs Q E hr hsp
 exact⟨t,h.nox,q⟩
theorem Fun.binds {x qual:Str}{st:Stmt}{f:Addr}{fd:FuncData}{ps:List Str}(F:Fun K x qual st f fd)
 (h:∀(kV doc pm:Value)(an:Option Addr)(cdv ct:Value)(us:List Value),us.length=ps.length→bindArgs (PySem.W.fnOf x qual (C6 st) (Bf st) (Ab st) .none kV doc pm an cdv ct) ⟨us,[]⟩=pure (ps.zip us)):Binds K fd ps []:=by
 obtain⟨oc,od,kV,doc,pm,an,cdv,ct,osl,rfl,lk,hcd⟩:=F.ex
 exact .all (h kV doc pm an cdv ct)
theorem Ir {x qual:Str}{st:Stmt}{f:Addr}{oc:Value}{od an:Option Addr}{osl:Array (Option Value)}{kV doc pm cdv ct:Value}(l:K.lookup f=some ⟨oc,od,.func (PySem.W.fnOf x qual (C6 st) (Bf st) (Ab st) .none kV doc pm an cdv ct),osl⟩)
 (c:PySem.W.codeIn K cdv qual=true) (k:PySem.W.keepIn K (.ref f)=true):Fun K x qual st f (PySem.W.fnOf x qual (C6 st) (Bf st) (Ab st) .none kV doc pm an cdv ct):=⟨⟨oc,od,kV,doc,pm,an,cdv,ct,osl,rfl,l,c⟩,k⟩
end
theorem IM {n:Nat}(h:n≤1000):n<sizeLine:=Nat.lt_of_le_of_lt h ∅
section
variable {X:Cx}
theorem pv (i:Nat){x:Str}{pos:Pos}(hN:X.N[i]? = some x:=by rfl) (hv:Vis X.env.scope x:=by first|exact Or.inl rfl|exact Or.inr (Or.inl rfl)|exact Or.inr (Or.inr rfl)) (hd:(x==("__debug__":Str))=false:=by decide)
 (hcd:(x==("__classdict__":Str))=false:=by decide):PE X (.Name x pos) (KG i):=NU hN hv hd hcd
end
def AH (H H':Hp):Prop:=∀b o,H b=some o→H' b=some o
theorem AH.refl (H:Hp):AH H H:=fun _ _ h=>h
theorem AH.trans {H H1 H2:Hp}(a:AH H H1) (b:AH H1 H2):AH H H2:=fun c o h=>b c o (a c o h)
theorem AH.free {H H':Hp}(e:AH H H'){l:Addr}(h:H' l=Option.none):H l=Option.none:=by
 cases q:H l with
 |none=>rfl
 |some o =>
  rw[e l o q] at h
  cases h
theorem AH.seq {K:PySem.W.Frag}{H H':Hp}{a:Addr}{xs:List V}(e:AH H H') (h:SqL K H a xs):SqL K H' a xs:=by
 rcases h with (h|⟨o,h⟩)|h
 ·exact .inl (.inl (e _ _ h))
 ·exact .inl (.inr ⟨o,e _ _ h⟩)
 ·exact .inr h
end L2
set_option maxHeartbeats 4000000
namespace CH
def g (a b:Int):Int:=(Int.gcd a b:Int)
theorem Nu {a b:Int}(h:b≠0):0<g a b:=by
 have:=Int.gcd_pos_of_ne_zero_right a h
 unfold g;omega
theorem K9 {x y:Int}(hy:0<y):g y (x%y)=g x y:=by
 unfold g
 have e:x%y=x-y*(x/y):=Int.emod_def x y
 rw[e,Int.gcd_sub_mul_left_right,Int.gcd_comm]
theorem Nd {x:Int}(hx:0≤x):g x 0=x:=by
 unfold g;rw[Int.gcd_zero];omega
theorem OB (a b:Int):g (if a<0 then -a else a) (if b<0 then -b else b)=g a b:=by
 unfold g
 split<;>split<;>simp
theorem Jq (a b:Int):g a b ∣ a:=Int.gcd_dvd_left a b
theorem JG (a b:Int):g a b ∣ b:=Int.gcd_dvd_right a b
def cm (a b:Int):Int:=if b<0 then -(g a b) else g a b
theorem EH {a c:Int}(h:c ∣ a) (hc:c≠0):Int.fdiv a c*c=a:=by
 obtain⟨k,rfl⟩:=h
 rw[Int.mul_comm c k,qBU _ hc]
theorem Dj {a b:Int}(hb:b≠0):Int.fdiv a (cm a b)=(Rat.divInt a b).num∧Int.fdiv b (cm a b)=((Rat.divInt a b).den:Int):=by
 have hg:=Nu (a:=a) hb
 have d1:=Jq a b
 have d2:=JG a b
 rw[Rat.num_divInt,Rat.den_divInt,if_neg hb]
 have eg:((b.gcd a:Nat):Int)=g a b:=by unfold g;rw[Int.gcd_comm]
 rw[Int.natCast_ediv,eg]
 unfold cm
 split
 ·rename_i h
  rw[Int.sign_eq_neg_one_of_neg h]
  have e1:(-1*a)/g a b=Int.fdiv a (-(g a b)):=by
   obtain⟨k,hk⟩:=d1
   have:-1*a=(-k)*g a b:=⋯
   rw[this,Int.mul_ediv_cancel _ ()]
   have:a=(-k)*(-(g a b)):=⋯
   have q:=qBU (-k) (show -(g a b)≠0 from ())
   rw[←this] at q
   exact q.symm
  have e2:((b.natAbs:Nat):Int)/g a b=Int.fdiv b (-(g a b)):=by
   obtain⟨k,hk⟩:=d2
   have hn:((b.natAbs:Nat):Int)=-b:=()
   rw[hn]
   have:-b=(-k)*g a b:=⋯
   rw[this,Int.mul_ediv_cancel _ ()]
   have:b=(-k)*(-(g a b)):=⋯
   have q:=qBU (-k) (show -(g a b)≠0 from ())
   rw[←this] at q
   exact q.symm
  exact⟨e1.symm,e2.symm⟩
 ·rename_i h
  have hp:0<b:=()
  rw[Int.sign_eq_one_of_pos hp,Int.one_mul]
  have hn:((b.natAbs:Nat):Int)=b:=()
  rw[hn,qBq _ (),qBq _ ()]
  exact⟨rfl,rfl⟩
theorem HK {a b:Int}(hb:b≠0):cm a b≠0:=by
 have:=Nu (a:=a) hb
 unfold cm;split<;>omega
theorem den_pos (q:Rat):1≤(q.den:Int):=by have:=q.den_pos;omega
theorem EG (q:Rat):(q.num:Rat)=q*q.den:=by
 have h:=qBZ q
 rw[qAS] at h
 have hd:((q.den:Int):Rat)≠0:=by
  have:=q.den_nz
  simp[this]
 have e:((q.den:Int):Rat)=(q.den:Rat):=rfl
 rw[e] at h hd
 grind
theorem den_ne (q:Rat):(q.den:Rat)≠0:=by have:=q.den_nz;simp[this]
theorem lt_iff (p q:Rat):p.num*(q.den:Int)<q.num*(p.den:Int) ↔ p<q:=(Rat.lt_iff p q).symm
theorem MN (p q:Rat):Rat.divInt (p.num*q.den+q.num*p.den) ((p.den:Int)*q.den)=p+q:=by
 rw[qAS,qB9,qAT,qAT,qAT,EG p,EG q]
 have h1:=den_ne p
 have h2:=den_ne q
 have e1:((p.den:Int):Rat)=(p.den:Rat):=rfl
 have e2:((q.den:Int):Rat)=(q.den:Rat):=rfl
 rw[e1,e2]
 grind
theorem GR (p q:Rat):Rat.divInt (p.num*q.den-q.num*p.den) ((p.den:Int)*q.den)=p-q:=by
 rw[qAS,Rat.intCast_sub,qAT,qAT,qAT,EG p,EG q]
 have h1:=den_ne p
 have h2:=den_ne q
 have e1:((p.den:Int):Rat)=(p.den:Rat):=rfl
 have e2:((q.den:Int):Rat)=(q.den:Rat):=rfl
 rw[e1,e2]
 grind
theorem LX (p q:Rat)(hq:q≠0):Rat.divInt (p.num*q.den) ((p.den:Int)*q.num)=p/q:=by
 rw[qAS,qAT,qAT,EG p,EG q]
 have h1:=den_ne p
 have h2:=den_ne q
 have e1:((p.den:Int):Rat)=(p.den:Rat):=rfl
 have e2:((q.den:Int):Rat)=(q.den:Rat):=rfl
 rw[e1,e2]
 grind
end CH
namespace CH
def Sz (k:Nat)(q:Rat):Prop:=q.num.natAbs<2^k∧q.den<2^k
theorem Ji {k m:Nat}(h:k≤m):2^k≤2^m:=qBP ∅ h
theorem Sz.mono {k m:Nat}{q:Rat}(h:Sz k q) (hk:k≤m):Sz m q:=⟨qAk h.1 (Ji hk),qAk h.2 (Ji hk)⟩
theorem Dm {a c x:Int}(h:x*c=a) (hc:c≠0):x.natAbs≤a.natAbs:=by
 rw[←h,Int.natAbs_mul]
 exact Nat.le_mul_of_pos_right _ ()
theorem D5 {a b:Int}{k:Nat}(hb:b≠0) (h1:a.natAbs<2^k) (h2:b.natAbs<2^k):Sz k (Rat.divInt a b):=by
 have p:=Dj (a:=a) hb
 have d1:cm a b ∣ a:=by
  unfold cm;split
  ·exact Int.neg_dvd.mpr (Jq a b)
  ·exact Jq a b
 have d2:cm a b ∣ b:=by
  unfold cm;split
  ·exact Int.neg_dvd.mpr (JG a b)
  ·exact JG a b
 have e1:=Dm (EH d1 (HK hb)) (HK hb)
 have e2:=Dm (EH d2 (HK hb)) (HK hb)
 rw[p.1] at e1
 rw[p.2] at e2
 have e3:(((Rat.divInt a b).den:Int)).natAbs=(Rat.divInt a b).den:=qA7 _
 rw[e3] at e2
 exact⟨(),()⟩
theorem CD {a b:Int}{k m:Nat}(h1:a.natAbs<2^k) (h2:b.natAbs<2^m):(a*b).natAbs<2^(k+m):=by
 rw[Int.natAbs_mul,Nat.pow_add]
 exact Nat.mul_lt_mul'' h1 h2
theorem Nn {a b:Int}{k:Nat}(h1:a.natAbs<2^k) (h2:b.natAbs<2^k):(a+b).natAbs<2^(k+1):=by
 rw[qCq]
 generalize 2^k=p at *
 omega
theorem Lo {a b:Int}{k:Nat}(h1:a.natAbs<2^k) (h2:b.natAbs<2^k):(a-b).natAbs<2^(k+1):=by
 rw[qCq]
 generalize 2^k=p at *
 omega
theorem AL {k:Nat}{q:Rat}(h:Sz k q):((q.den:Int)).natAbs<2^k:=by rw[qA7];exact h.2
theorem MT (p q:Rat):(p.den:Int)*(q.den:Int)≠0:=by
 have h1:=den_pos p
 have h2:=den_pos q
 exact Int.mul_ne_zero () ()
theorem Bh {k m:Nat}{x:Nat}(h:x<2^k) (e:k≤m):x<2^m:=qAk h (Ji e)
theorem Sz.add {k m:Nat}{p q:Rat}(hp:Sz k p) (hq:Sz m q):Sz (k+m+1) (p+q):=by
 rw[←MN]
 have a1:=CD hp.1 (AL hq)
 have a2:=CD hq.1 (AL hp)
 have a3:=CD (AL hp) (AL hq)
 rw[qCr m k] at a2
 exact D5 (MT p q) (Nn a1 a2) (Bh a3 (qCj _))
theorem Sz.sub {k m:Nat}{p q:Rat}(hp:Sz k p) (hq:Sz m q):Sz (k+m+1) (p-q):=by
 rw[←GR]
 have a1:=CD hp.1 (AL hq)
 have a2:=CD hq.1 (AL hp)
 have a3:=CD (AL hp) (AL hq)
 rw[qCr m k] at a2
 exact D5 (MT p q) (Lo a1 a2) (Bh a3 (qCj _))
theorem Sz.zero:Sz 1 0:=⟨∅,∅⟩
theorem Sz.den_ne {k:Nat}{p q:Rat}(hq:q≠0):(p.den:Int)*q.num≠0:=by
 have h1:=den_pos p
 have h2:q.num≠0:=fun z=>hq (Rat.num_eq_zero.mp z)
 exact Int.mul_ne_zero () h2
end CH
namespace L3
open PySem PySem.Spec PyProof.Rows L2
abbrev St:=L2.St
def GS:Expr→Bool
 |.Starred .. => true
 |_=>false
theorem AV {e:Expr}{es:List Expr}{env:Env}(h:GS e=false):starEach (e::es) env=(false,eval e env)::starEach es env:=by
 cases e<;>first|rfl|cases h
theorem AR {pos:Pos}{env:Env}:∀{es:List Expr},es.all (fun e=>!GS e)=true→(backTo pos (starEach es env)).any (·.1)=false
 |[],_=>rfl
 |e::es,h=>by
  rw[List.all_cons,qAN] at h
  have h1:GS e=false:=by
   cases q:GS e with
   |false=>rfl
   |true=>rw[q] at h;exact absurd h.1 ∅
  rw[AV h1]
  show(false||(backTo pos (starEach es env)).any (·.1))=false
  rw[AR h.2]
  rfl
inductive D where
 |non|bl (b:Bool)|int (i:Int)|str (x:Str)|ty (n:String)|tup (xs:List D)|lst (xs:List D)|ref (a:Addr)
inductive S where
 |d (x:D)|l (xs:List D)|r (xs:List D)
def S.isL:S→Bool
 |.d _=>false
 |_=>true
def S.share:S→S
 |.l xs=>.r xs
 |s=>s
def S.own:S→Bool
 |.l _=>true
 |_=>false
inductive Is (K:PySem.W.Frag)(H:Hp):V→D→Prop where
 |non:Is K H .non .non
 |bl (b:Bool):Is K H (.bl b) (.bl b)
 |int (i:Int):Is K H (.int i) (.int i)
 |str (x:Str):Is K H (.str x) (.str x)
 |ty (n:String):Is K H (.ty n) (.ty n)
 |ref (a:Addr):Is K H (.ref a) (.ref a)
 |tup {a:Addr}{vs:List V}{xs:List D}(h:SqT K H a vs) (hl:vs.length=xs.length) (r:∀(i:Nat)(v:V)(x:D),vs[i]? = some v→xs[i]? = some x→Is K H v x):Is K H (.ref a) (.tup xs)
 |lst {a:Addr}{vs:List V}{xs:List D}(h:H a=some (.lst vs)) (hl:vs.length=xs.length) (r:∀(i:Nat)(v:V)(x:D),vs[i]? = some v→xs[i]? = some x→Is K H v x):Is K H (.ref a) (.lst xs)
def Iss (K:PySem.W.Frag)(H:Hp)(vs:List V)(xs:List D):Prop :=
 vs.length=xs.length∧∀(i:Nat)(v:V)(x:D),vs[i]? = some v→xs[i]? = some x→Is K H v x
structure HZ where
 h:Hp
 z:Hp
structure Ext (p q:HZ):Prop where
 hh:AH p.h q.h
 zz:AH p.z q.z
 sub:AH q.z q.h
 new:∀a o,q.z a=some o→p.z a=some o∨p.h a=none
theorem Ext.refl {p:HZ}(h:AH p.z p.h):Ext p p:=⟨AH.refl _,AH.refl _,h,fun _ _ e=>.inl e⟩
theorem Ext.trans {p q r:HZ}(a:Ext p q) (b:Ext q r):Ext p r:=⟨a.hh.trans b.hh,a.zz.trans b.zz,b.sub,fun c o e=>by
 rcases b.new c o e with e|e
 ·exact a.new c o e
 ·exact .inr (a.hh.free e)⟩
theorem Ext.grow {H H' z:Hp}(h:AH z H) (e:AH H H'):Ext ⟨H,z⟩ ⟨H',z⟩:=⟨e,AH.refl _,h.trans e,fun _ _ e=>.inl e⟩
theorem Bb {H:Hp}{p:Addr}(h:H p=none) (o:HO):AH H (upd H p o):=fun b u q=>by rw[Ar (A7 q h)];exact q
theorem Ext.freeze {p q:HZ}{a:Addr}{o:HO}(e:Ext p q) (n:p.h a=none) (nz:q.z a=none) (h:q.h a=some o):Ext p ⟨q.h,upd q.z a o⟩:=by
 refine⟨e.hh,e.zz.trans (Bb nz o),fun b u hb=>?_,fun b u hb=>?_⟩
 ·by_cases z:b=a
  ·subst z
   have hb':upd q.z b o b=some u:=hb
   rw[Al] at hb'
   cases hb'
   exact h
  ·have hb':upd q.z a o b=some u:=hb
   rw[Ar z] at hb'
   exact e.sub b u hb'
 ·by_cases z:b=a
  ·subst z;exact .inr n
  ·have hb':upd q.z a o b=some u:=hb
   rw[Ar z] at hb'
   exact e.new b u hb'
theorem Ext.own {H z:Hp}{a:Addr}(h:AH z H) (n:H a=none) (o:HO):Ext ⟨H,z⟩ ⟨upd H a o,z⟩:=Ext.grow h (Bb n o)
theorem Ext.lay {H z:Hp}{a:Addr}(h:AH z H) (n:H a=none) (o:HO):Ext ⟨H,z⟩ ⟨upd H a o,upd z a o⟩ :=
 (Ext.own h n o).freeze n (h.free n) Al
def IsS (K:PySem.W.Frag)(p:HZ)(v:V):S→Prop
 |.d x=>Is K p.z v x
 |.l xs=>∃a vs,v=.ref a∧p.h a=some (.lst vs)∧Iss K p.z vs xs
 |.r xs=>∃a vs,v=.ref a∧SqL K p.h a vs∧Iss K p.z vs xs
section
variable {K:PySem.W.Frag}{H H':Hp}{p q:HZ}{a:Addr}{v:V}{x:D}{vs:List V}{xs:List D}
theorem SqT.same (e:AH H H')(h:SqT K H a vs):SqT K H' a vs:=by
 rcases h with (h|⟨o,h⟩)|h
 ·exact .inl (.inl (e _ _ h))
 ·exact .inl (.inr ⟨o,e _ _ h⟩)
 ·exact .inr h
theorem Is.mono (e:AH H H')(h:Is K H v x):Is K H' v x:=by
 induction h with
 |non=>exact .non
 |bl b=>exact .bl b
 |int i=>exact .int i
 |str y=>exact .str y
 |ty n=>exact .ty n
 |ref a=>exact .ref a
 |tup h hl r ih=>exact .tup (SqT.same e h) hl ih
 |lst h hl r ih=>exact .lst (e _ _ h) hl ih
theorem Iss.mono (e:AH H H')(h:Iss K H vs xs):Iss K H' vs xs:=⟨h.1,fun i v x h1 h2=>(h.2 i v x h1 h2).mono e⟩
theorem Iss.nil:Iss K H [] []:=⟨rfl,fun i v x h=>by simp at h⟩
theorem Iss.snoc (t:Iss K H vs xs)(h:Is K H v x):Iss K H (vs++[v]) (xs++[x]):=by
 refine⟨by simp[t.1],fun i w y h1 h2=>?_⟩
 by_cases hi:i<vs.length
 ·rw[qAC hi] at h1
  rw[qAC (by have:=t.1;omega)] at h2
  exact t.2 i w y h1 h2
 ·rw[qAy ()] at h1
  rw[qAy (by have:=t.1;omega)] at h2
  have e:i-vs.length=0:=by
   have:=(qAi.mp h1).1
   simp at this
   omega
  have e2:i-xs.length=0:=by have:=t.1;omega
  rw[e] at h1
  rw[e2] at h2
  simp at h1 h2
  subst h1;subst h2
  exact h
theorem IsS.mono {s:S}(e:Ext p q) (h:IsS K p v s):IsS K q v s:=by
 cases s with
 |d x=>exact Is.mono e.zz h
 |l xs =>
  obtain⟨a,vs,e1,h1,h2⟩:=h
  exact⟨a,vs,e1,e.hh _ _ h1,h2.mono e.zz⟩
 |r xs =>
  obtain⟨a,vs,e1,h1,h2⟩:=h
  exact⟨a,vs,e1,e.hh.seq h1,h2.mono e.zz⟩
theorem IsS.share {s:S}(h:IsS K p v s):IsS K p v s.share:=by
 cases s with
 |d x=>exact h
 |l xs =>
  obtain⟨a,vs,e1,h1,h2⟩:=h
  exact⟨a,vs,e1,SqL.of h1,h2⟩
 |r xs=>exact h
theorem Is.tup_inv {xs:List D}(h:Is K H v (.tup xs)):∃a vs,v=.ref a∧SqT K H a vs∧Iss K H vs xs:=by
 cases h with
 |tup h hl r=>exact⟨_,_,rfl,h,hl,r⟩
theorem Is.lst_inv {xs:List D}(h:Is K H v (.lst xs)):∃a vs,v=.ref a∧SqL K H a vs∧Iss K H vs xs:=by
 cases h with
 |lst h hl r=>exact⟨_,_,rfl,SqL.of h,hl,r⟩
theorem Is.lst_own {xs:List D}(h:Is K H v (.lst xs)):∃a vs,v=.ref a∧H a=some (.lst vs)∧Iss K H vs xs:=by
 cases h with
 |lst h hl r=>exact⟨_,_,rfl,h,hl,r⟩
theorem Is.int_inv {i:Int}(h:Is K H v (.int i)):v=.int i:=by cases h;rfl
theorem Is.bl_inv {i:Bool}(h:Is K H v (.bl i)):v=.bl i:=by cases h;rfl
theorem Is.non_inv (h:Is K H v .non):v=.non:=by cases h;rfl
theorem Is.str_inv {i:Str}(h:Is K H v (.str i)):v=.str i:=by cases h;rfl
end
abbrev Tau:=List (Option S)
def Fr3 (K:PySem.W.Frag)(p q:HZ)(v:V)(s:S):Prop:=∀xs a,s=.l xs→v=.ref a→p.h a=none∧K.lookup a=none∧q.z a=none
structure Rep (X:Cx)(b:HZ)(τ:Tau)(σ:St)(p:HZ):Prop where
 len:σ.length=τ.length
 ext:Ext b p
 val:∀(i:Nat)(s:S),τ[i]? = some (some s)→∃v,σ[i]? = some (some v)∧IsS X.K p v s
 own:∀(i:Nat)(xs:List D)(a:Addr),τ[i]? = some (some (.l xs))→σ[i]? = some (some (.ref a))→b.h a=none∧X.K.lookup a=none∧p.z a=none
 sep:∀(i j:Nat)(xs:List D)(s:S)(a:Addr),i≠j→τ[i]? = some (some (.l xs))→τ[j]? = some (some s)→s.isL=true→σ[i]? = some (some (.ref a))→σ[j]?≠some (some (.ref a))
 top:X.lent=none→AH X.H₀ b.h
 pin:∀i a,X.lent=some (i,a)→σ[i]? = some (some (.ref a))
def DH (X:Cx)(i:Nat):Prop:=∀k a,X.lent=some (k,a)→k≠i
theorem CU {X:Cx}{i:Nat}(h:X.lent=none):DH X i:=fun k a e=>by rw[h] at e;cases e
section
variable {X:Cx}{b b' p q:HZ}{τ τ':Tau}{σ:St}{v:V}{s:S}
theorem Rep.all (r:Rep X b τ σ p)(hl:X.lent=none):AH X.H₀ p.h:=(r.top hl).trans r.ext.hh
theorem Rep.own_list {i:Nat}{xs:List D}{a:Addr}(r:Rep X b τ σ p) (h1:τ[i]? = some (some (.l xs))) (h2:σ[i]? = some (some (.ref a))):∃vs,p.h a=some (.lst vs)∧Iss X.K p.z vs xs:=by
 obtain⟨v,e,c,vs,e1,h3,h4⟩:=r.val i _ h1
 rw[h2] at e
 cases e
 cases e1
 exact⟨vs,h3,h4⟩
theorem Rep.mono (r:Rep X b τ σ p)(e:Ext p q):Rep X b τ σ q :=
 ⟨r.len,r.ext.trans e,fun i s h=>let ⟨v,h1,h2⟩:=r.val i s h;⟨v,h1,h2.mono e⟩,(fun i xs a h1 h2=>by
  obtain⟨o1,o2,o3⟩:=r.own i xs a h1 h2
  obtain⟨vs,hv,_⟩:=r.own_list h1 h2
  refine⟨o1,o2,?_⟩
  cases z:q.z a with
  |none=>rfl
  |some o =>
   rcases e.new a o z with x|x
   ·rw[o3] at x;cases x
   ·rw[hv] at x;cases x),r.sep,r.top,r.pin⟩
theorem EB {K:PySem.W.Frag}(e:Ext b p) (f:Fr3 K p q v s):Fr3 K b q v s:=fun xs a h1 h2=>⟨e.hh.free (f xs a h1 h2).1,(f xs a h1 h2).2⟩
theorem Az {α:Type}{l:List (Option α)}{i j:Nat}{x y:α}(h:(l.set i (some x))[j]? = some (some y)):(j=i∧y=x)∨(j≠i∧l[j]? = some (some y)):=by
 rw[List.getElem?_set] at h
 by_cases hij:i=j
 ·rw[if_pos hij] at h
  split at h
  ·cases h
   exact .inl ⟨hij.symm,rfl⟩
  ·cases h
 ·rw[if_neg hij] at h
  exact .inr ⟨fun z=>hij z.symm,h⟩
theorem Rep.set {i:Nat}(r:Rep X b τ σ p) (e:Ext p q) (h:IsS X.K q v s) (f:Fr3 X.K p q v s) (hr:s.isL=s.own) (hp:DH X i):Rep X b (τ.set i (some s)) (σ.set i (some v)) q:=by
 have r':=r.mono e
 refine⟨by simp[r.len],r'.ext,fun j s' hj=>?_,fun j xs a hj ha=>?_,fun j k xs s' a hjk hj hk hs ha=>?_,r.top,fun k a hk=>by rw[qBo (fun z=>hp k a hk z.symm)];exact r.pin k a hk⟩
 ·rcases Az hj with⟨rfl,rfl⟩|⟨hn,hj⟩
  ·have hl:j<σ.length:=by
    rw[r.len]
    have:=(qAi.mp hj).1
    simpa using this
   exact⟨v,by rw[qBg hl],h⟩
  ·obtain⟨w,h1,h2⟩:=r'.val j s' hj
   exact⟨w,by rw[qBo (fun z=>hn z.symm)];exact h1,h2⟩
 ·rcases Az hj with⟨rfl,e1⟩|⟨hn,hj⟩
  ·rcases Az ha with⟨_,e2⟩|⟨hn,_⟩
   ·exact(EB r.ext f) xs a e1.symm e2.symm
   ·exact absurd rfl hn
  ·rcases Az ha with⟨e2,_⟩|⟨_,ha⟩
   ·exact absurd e2 hn
   ·exact r'.own j xs a hj ha
 ·
  have fresh:∀(m:Nat)(t:S),τ[m]? = some (some t)→t.isL=true→s.own=true→v=.ref a→σ[m]?≠some (some (.ref a)):=by
   intro m t hm ht ho hv hσ
   obtain⟨w,h1,h2⟩:=r.val m t hm
   rw[hσ] at h1
   cases h1
   cases s with
   |d _=>cases ho
   |r _=>cases ho
   |l ys =>
    obtain⟨f1,f2,_⟩:=f ys a rfl hv
    cases t with
    |d _=>cases ht
    |l zs =>
     obtain⟨c,vs,e1,h3,_⟩:=h2
     cases e1
     rw[f1] at h3
     cases h3
    |r zs =>
     obtain⟨c,vs,e1,h3,_⟩:=h2
     cases e1
     rcases h3 with (h3|⟨o,h3⟩)|⟨o,its,n,h3,_⟩
     ·rw[f1] at h3;cases h3
     ·rw[f1] at h3;cases h3
     ·rw[f2] at h3;cases h3
  intro hσk
  rcases Az hj with⟨rfl,e1⟩|⟨hn,hj'⟩
  ·rcases Az ha with⟨_,e2⟩|⟨hn,_⟩
   ·rcases Az hk with⟨e3,_⟩|⟨_,hk⟩
    ·exact hjk e3.symm
    ·rcases Az hσk with⟨e4,_⟩|⟨_,hσk⟩
     ·exact hjk e4.symm
     ·exact fresh k s' hk hs (by rw[←e1];rfl) e2.symm hσk
   ·exact absurd rfl hn
  ·rcases Az ha with⟨e2,_⟩|⟨_,ha'⟩
   ·exact absurd e2 hn
   ·rcases Az hk with⟨e3,e4⟩|⟨hkn,hk'⟩
    ·rcases Az hσk with⟨_,e5⟩|⟨hx,_⟩
     ·subst e4
      exact fresh j (.l xs) hj' rfl (by rw[←hr];exact hs) e5.symm ha'
     ·exact absurd e3 hx
    ·rcases Az hσk with⟨e5,_⟩|⟨_,hσk'⟩
     ·exact absurd e5 hkn
     ·exact r.sep j k xs s' a hjk hj' hk' hs ha' hσk'
theorem Rep.data {i:Nat}{xs:List D}{h z:Hp}(r:Rep X b τ σ ⟨h,z⟩) (hi:τ[i]? = some (some (.l xs))):∃z',Rep X b (τ.set i (some (.d (.lst xs)))) σ ⟨h,z'⟩:=by
 obtain⟨v,h1,a,vs,rfl,h2,h3⟩:=r.val i _ hi
 obtain⟨o1,o2,o3⟩:=r.own i xs a hi h1
 have zz:AH z (upd z a (.lst vs)):=Bb o3 _
 refine⟨upd z a (.lst vs),by simp[r.len],r.ext.freeze o1 o3 h2,fun j s' hj=>?_,fun j ys c hj hc=>?_,fun j k ys s' c hjk hj hk hs' hc=>?_,r.top,r.pin⟩
 ·rcases Az hj with⟨rfl,rfl⟩|⟨hn,hj⟩
  ·have h3':=h3.mono zz
   exact⟨.ref a,h1,Is.lst Al h3'.1 h3'.2⟩
  ·obtain⟨w,w1,w2⟩:=r.val j s' hj
   refine⟨w,w1,?_⟩
   cases s' with
   |d x=>exact Is.mono zz w2
   |l zs=>obtain⟨c,us,e1,q1,q2⟩:=w2;exact⟨c,us,e1,q1,q2.mono zz⟩
   |r zs=>obtain⟨c,us,e1,q1,q2⟩:=w2;exact⟨c,us,e1,q1,q2.mono zz⟩
 ·rcases Az hj with⟨rfl,e1⟩|⟨hn,hj'⟩
  ·cases e1
  ·obtain⟨q1,q2,q3⟩:=r.own j ys c hj' hc
   refine⟨q1,q2,?_⟩
   show upd z a (.lst vs) c=none
   have hca:c≠a:=by
    rintro rfl
    exact r.sep j i ys (.l xs) c hn hj' hi rfl hc h1
   rw[Ar hca]
   exact q3
 ·rcases Az hj with⟨rfl,e1⟩|⟨hn,hj'⟩
  ·cases e1
  ·rcases Az hk with⟨rfl,e4⟩|⟨hkn,hk'⟩
   ·subst e4;cases hs'
   ·exact r.sep j k ys s' c hjk hj' hk' hs' hc
open Classical in
noncomputable def IU (τ:Tau)(σ:St)(H:Hp):Hp:=fun b=>if ∃(i:Nat)(xs:List D),τ[i]? = some (some (S.l xs))∧σ[i]? = some (some (V.ref b)) then none else H b
theorem MS {H:Hp}:AH (IU τ σ H) H:=fun b o h=>by
 unfold IU at h
 split at h
 ·cases h
 ·exact h
theorem Km {H:Hp}{c:Addr}(h:∀(i:Nat)(xs:List D),τ[i]? = some (some (S.l xs))→σ[i]?≠some (some (V.ref c))):IU τ σ H c=H c:=by
 unfold IU
 rw[if_neg]
 rintro⟨i,xs,h1,h2⟩
 exact h i xs h1 h2
theorem Rep.baseB (r:Rep X b τ σ p):AH b.h (IU τ σ p.h):=fun c o h=>by
 rw[Km]
 ·exact r.ext.hh c o h
 ·intro i xs h1 h2
  have:=(r.own i xs c h1 h2).1
  rw[h] at this
  cases this
theorem Rep.inB (r:Rep X b τ σ p):Rep X ⟨IU τ σ p.h,p.z⟩ τ σ p :=
 ⟨r.len,⟨MS,AH.refl _,r.ext.sub,fun _ _ e=>.inl e⟩,r.val,fun i xs a h1 h2=>⟨by show IU τ σ p.h a=none;unfold IU;rw[if_pos ⟨i,xs,h1,h2⟩],(r.own i xs a h1 h2).2⟩,r.sep,fun h=>(r.top h).trans r.baseB,r.pin⟩
structure LeB (X:Cx)(b b':HZ):Prop where
 hh:AH b.h b'.h
 zz:AH b.z b'.z
 new:∀a o,b'.z a=some o→b.z a=some o∨b.h a=none
 top:X.lent=none→AH X.H₀ b.h
theorem LeB.ext (e:LeB X b b')(f:Ext b' p):Ext b p:=⟨e.hh.trans f.hh,e.zz.trans f.zz,f.sub,fun a o h=>by
 rcases f.new a o h with x|x
 ·exact e.new a o x
 ·exact .inr (e.hh.free x)⟩
theorem Rep.outB (e:LeB X b b')(r:Rep X b' τ σ p):Rep X b τ σ p :=
 ⟨r.len,e.ext r.ext,r.val,fun i xs a h1 h2=>⟨e.hh.free (r.own i xs a h1 h2).1,(r.own i xs a h1 h2).2⟩,r.sep,e.top,r.pin⟩
theorem Rep.leB (r:Rep X b τ σ p):LeB X b ⟨IU τ σ p.h,p.z⟩:=⟨r.baseB,r.ext.zz,r.ext.new,r.top⟩
theorem Rep.leR (r:Rep X b τ σ p):LeB X b b:=⟨AH.refl _,AH.refl _,fun _ _ e=>.inl e,r.top⟩
end
abbrev TE3:=Tau→(S→Prop)→Prop
abbrev TT3:=Tau→(Bool→Prop)→Prop
abbrev TA3:=Tau→(List S→Prop)→Prop
structure Jl where
 nx:Tau→Prop
 rt:S→Prop
 bk:Tau→Prop:=fun _=>False
 ct:Tau→Prop:=fun _=>False
abbrev TS3:=Jl→Tau→Prop
def Args (K:PySem.W.Frag)(p:HZ)(vs:List V)(ss:List S):Prop :=
 vs.length=ss.length∧∀(i:Nat)(v:V)(s:S),vs[i]? = some v→ss[i]? = some s→IsS K p v s∧s.own=false
def FE (X:Cx)(t:TE3):TE:=fun σ H Q=>∃B z τ R,Rep X B τ σ ⟨H,z⟩∧t τ R∧∀s v q,Ext ⟨H,z⟩ q→IsS X.K q v s→Fr3 X.K ⟨H,z⟩ q v s→R s→Q v q.h
def FT (X:Cx)(t:TT3):TT:=fun σ H Q=>∃B z τ R,Rep X B τ σ ⟨H,z⟩∧t τ R∧∀c q,Ext ⟨H,z⟩ q→R c→Q c q.h
def FA (X:Cx)(t:TA3):TA:=fun σ H Q=>∃B z τ R,Rep X B τ σ ⟨H,z⟩∧t τ R∧∀ss vs q,Ext ⟨H,z⟩ q→Args X.K q vs ss→R ss→Q vs q.h
structure OO (X:Cx)(B:HZ)(D3:Jl)(D2:Lq):Prop where
 nx:∀τ σ p,Rep X B τ σ p→D3.nx τ→D2.nx σ p.h
 bk:∀τ σ p,Rep X B τ σ p→D3.bk τ→D2.bk σ p.h
 ct:∀τ σ p,Rep X B τ σ p→D3.ct τ→D2.ct σ p.h
 rt:∀s v q,Ext B q→IsS X.K q v s→Fr3 X.K B q v s→D3.rt s→D2.rt v q.h
def FS (X:Cx)(t:TS3):TS:=fun D2 σ H=>∃B z τ D3,Rep X B τ σ ⟨H,z⟩∧t D3 τ∧OO X B D3 D2
structure PE3 (X:Cx)(e:Expr)(t:TE3):Prop where
 out:PE X e (FE X t)
structure PT3 (X:Cx)(e:Expr)(t:TT3):Prop where
 out:PT X e (FT X t)
structure PW3 (X:Cx)(e:Expr)(t:TT3):Prop where
 out:PW X e (FT X t)
structure PA3 (X:Cx)(es:List Expr)(t:TA3):Prop where
 out:PA X es (FA X t)
structure PS3 (X:Cx)(st:Stmt)(t:TS3):Prop where
 out:PS X st (FS X t)
structure DJ (X:Cx)(st:List Stmt)(t:TS3):Prop where
 out:PSs X st (FS X t)
theorem PW3.pt {X:Cx}{e:Expr}{t:TT3}(h:PW3 X e t):PT3 X e t:=⟨h.out _⟩
section
variable {X:Cx}{e a b:Expr}{ta tb:TE3}{pos:Pos}
theorem Ax {t t':TE}(h:PE X e t) (f:∀σ H Q,t' σ H Q→t σ H Q):PE X e t':=fun pins s σ H Q I q=>h pins s σ H Q I (f σ H Q q)
theorem IQ {t t':TT}(h:PT X e t) (f:∀σ H Q,t' σ H Q→t σ H Q):PT X e t':=fun pins s σ H Q I q=>h pins s σ H Q I (f σ H Q q)
theorem Lz {t t':TT}(h:PW X e t) (f:∀σ H Q,t' σ H Q→t σ H Q):PW X e t':=fun wh pins s σ H Q I q=>h wh pins s σ H Q I (f σ H Q q)
theorem KZ {es:List Expr}{t t':TA}(h:PA X es t) (f:∀σ H Q,t' σ H Q→t σ H Q):PA X es t':=fun pos pins s σ H Q I q=>h pos pins s σ H Q I (f σ H Q q)
theorem BS {st:Stmt}{t t':TS}(h:PS X st t) (f:∀D σ H,t' D σ H→t D σ H):PS X st t':=fun pins s σ H D I q=>h pins s σ H D I (f D σ H q)
theorem Dy {st:List Stmt}{t t':TS}(h:PSs X st t) (f:∀D σ H,t' D σ H→t D σ H):PSs X st t':=fun pins s σ H D I q=>h pins s σ H D I (f D σ H q)
def OV (i:Nat):TE3:=fun τ R=>match τ[i]? with
 |some (some s)=>R s.share
 |_=>False
def vC (d:D):TE3:=fun _ R=>R (.d d)
theorem KJ {K:PySem.W.Frag}{p q:HZ}{v:V}{s:S}:Fr3 K p q v s.share:=by
 intro xs a h
 cases s<;>cases h
theorem Ce {K:PySem.W.Frag}{p q:HZ}{v:V}{d:D}:Fr3 K p q v (.d d):=by
 intro xs a h
 cases h
theorem PD {i:Nat}{x:Str}(h:PE X (.Name x pos) (KG i)):PE3 X (.Name x pos) (OV i):=by
 refine⟨?_⟩
 refine Ax h fun σ H Q hh9=>?_
 obtain⟨B,z,τ,R,r,ht,q⟩:=hh9
 unfold OV at ht
 split at ht
 ·rename_i s hs
  obtain⟨v,h1,h2⟩:=r.val i s hs
  exact⟨v,h1,q _ v ⟨H,z⟩ (Ext.refl r.ext.sub) h2.share KJ ht⟩
 ·exact ht.elim
theorem Fh {v:V}{d:D}(h:PE X e (tC v)) (hd:∀K H,Is K H v d):PE3 X e (vC d):=⟨Ax h fun σ H Q hh=>by obtain⟨B,z,τ,R,r,ht,q⟩:=hh;exact q (.d d) v ⟨H,z⟩ (Ext.refl r.ext.sub) (hd _ _) Ce ht⟩
theorem Ac {i j}:PE3 X (.Constant (.int i) j pos) (vC (.int i)):=Fh OJ fun _ _=>.int i
theorem Ng {i j}:PE3 X (.Constant (.bool i) j pos) (vC (.bl i)):=Fh O0 fun _ _=>.bl i
theorem PU {j}:PE3 X (.Constant .none j pos) (vC .non):=Fh Nr fun _ _=>.non
theorem Ao {x j}:PE3 X (.Constant (.str x) j pos) (vC (.str x)):=Fh Og fun _ _=>.str x
abbrev R3:=D→D→(D→Prop)→Prop
def lft (K:PySem.W.Frag)(r3:R3):R2:=fun x y H Q=>∃z dx dy R,AH z H∧Is K z x dx∧Is K z y dy∧r3 dx dy R∧∀d v q,Ext ⟨H,z⟩ q→Is K q.z v d→R d→Q v q.h
def DW (X:Cx)(f:Value→Value→Sem Value)(r3:R3):Prop:=OpR X f (lft X.K r3)
theorem CB {f:Value→Value→Sem Value}{r r':R2}(h:OpR X f r) (i:∀x y H Q,r' x y H Q→r x y H Q):OpR X f r':=fun pins s σ H x y v u Q I rx ry q=>h pins s σ H x y v u Q I rx ry (i x y H Q q)
def oI (C:Int→Int→Prop)(g:Int→Int→Int):R3:=fun dx dy R=>match dx,dy with
 |.int i,.int j=>C i j∧R (.int (g i j))
 |_,_=>False
def oI0 (g:Int→Int→Int):R3:=fun dx dy R=>match dx,dy with
 |.int i,.int j=>R (.int (g i j))
 |_,_=>False
def oB0 (g:Int→Int→Bool):R3:=fun dx dy R=>match dx,dy with
 |.int i,.int j=>R (.bl (g i j))
 |_,_=>False
theorem JR {f:Value→Value→Sem Value}{C:Int→Int→Prop}{g:Int→Int→Int}(h:OpR X f (rI C fun i j=>.int (g i j))):DW X f (oI C g) :=
 CB h fun x y H Q hh=>by
  obtain⟨z,dx,dy,R,hz,hx,hy,h3,q⟩:=hh
  unfold oI at h3
  split at h3
  ·rename_i i j
   exact⟨i,j,hx.int_inv,hy.int_inv,h3.1,q _ _ ⟨H,z⟩ (Ext.refl hz) (.int _) h3.2⟩
  ·exact h3.elim
theorem Lx {f:Value→Value→Sem Value}{g:Int→Int→Int}(h:OpR X f (rI0 fun i j=>.int (g i j))):DW X f (oI0 g) :=
 CB h fun x y H Q hh=>by
  obtain⟨z,dx,dy,R,hz,hx,hy,h3,q⟩:=hh
  unfold oI0 at h3
  split at h3
  ·rename_i i j
   exact⟨i,j,hx.int_inv,hy.int_inv,q _ _ ⟨H,z⟩ (Ext.refl hz) (.int _) h3⟩
  ·exact h3.elim
theorem ML {f:Value→Value→Sem Value}{g:Int→Int→Bool}(h:OpR X f (rI0 fun i j=>.bl (g i j))):DW X f (oB0 g) :=
 CB h fun x y H Q hh=>by
  obtain⟨z,dx,dy,R,hz,hx,hy,h3,q⟩:=hh
  unfold oB0 at h3
  split at h3
  ·rename_i i j
   exact⟨i,j,hx.int_inv,hy.int_inv,q _ _ ⟨H,z⟩ (Ext.refl hz) (.bl _) h3⟩
  ·exact h3.elim
theorem MI:OpR X (binaryOp .Mult) (rI IntMulOk fun i j=>.int (i*j)):=opI fun _ _ _ _ _ _ _ hc q=>mul_int q hc
def CDv (i j:Int):Prop:=j≠0∧Builtin.divisionGoesByPylong i j=false
theorem KW:OpR X (binaryOp .FloorDiv) (rI CDv fun i j=>.int (i.fdiv j)):=opI fun _ _ _ _ _ _ _ hc q=>floordiv_int hc.1 q (.inl hc.2)
def QY:R3:=fun dx dy R=>match dx,dy with
 |.int i,.int j=>R (.int (i+j))
 |_,_=>False
theorem Bj:DW X (binaryOp .Add) QY:=Lx Lj
def QA:R3:=fun dx dy R=>match dx,dy with
 |.int i,.int j=>R (.int (i-j))
 |_,_=>False
theorem JT:DW X (binaryOp .Sub) QA:=Lx NK
def Qq:R3:=fun dx dy R=>match dx,dy with
 |.int i,.int j=>IntMulOk i j∧R (.int (i*j))
 |_,_=>False
theorem Dw:DW X (binaryOp .Mult) Qq:=JR MI
def O5:R3:=fun dx dy R=>match dx,dy with
 |.int i,.int j=>CDv i j∧R (.int (i.fdiv j))
 |_,_=>False
theorem Dg:DW X (binaryOp .FloorDiv) O5:=JR KW
def QZ:R3:=fun dx dy R=>match dx,dy with
 |.int i,.int j=>j≠0∧R (.int (i.fmod j))
 |_,_=>False
theorem Br:DW X (binaryOp .Mod) QZ:=JR MQ
def Qs:R3:=fun dx dy R=>match dx,dy with
 |.int i,.int j=>Qa i j∧R (.int (i^j.toNat))
 |_,_=>False
theorem LP:DW X (binaryOp .Pow) Qs:=JR Om
def oLt:R3:=fun dx dy R=>match dx,dy with
 |.int i,.int j=>R (.bl (decide (i<j)))
 |_,_=>False
theorem MZ:DW X (compareOp .Lt) oLt:=ML Pl
def oLe:R3:=fun dx dy R=>match dx,dy with
 |.int i,.int j=>R (.bl (decide (i≤j)))
 |_,_=>False
theorem Qn:DW X (compareOp .LtE) oLe:=ML PY
def oGt:R3:=fun dx dy R=>match dx,dy with
 |.int i,.int j=>R (.bl (decide (j<i)))
 |_,_=>False
theorem OU:DW X (compareOp .Gt) oGt:=ML OZ
def oEq:R3:=fun dx dy R=>match dx,dy with
 |.int i,.int j=>R (.bl (decide (i=j)))
 |.bl i,.bl j=>R (.bl (decide (i=j)))
 |.str i,.str j=>R (.bl (decide (i=j)))
 |_,_=>False
def oNe:R3:=fun dx dy R=>match dx,dy with
 |.int i,.int j=>R (.bl (!decide (i=j)))
 |.bl i,.bl j=>R (.bl (!decide (i=j)))
 |.str i,.str j=>R (.bl (!decide (i=j)))
 |_,_=>False
theorem Hv {α β:Type}{i j:α}{f:α→β} [DecidableEq α] [DecidableEq β] (h:∀a b,f a=f b→a=b):decide (f i=f j)=decide (i=j):=by
 by_cases e:i=j
 ·rw[decide_eq_true e,decide_eq_true (by rw[e])]
 ·rw[decide_eq_false e,decide_eq_false fun z=>e (h _ _ z)]
theorem DX:DW X (compareOp .Eq) oEq :=
 CB OY fun x y H Q hh=>by
  obtain⟨z,dx,dy,R,hz,hx,hy,h3,q⟩:=hh
  unfold oEq at h3
  split at h3
  ·rename_i i j
   cases hx.int_inv
   cases hy.int_inv
   exact⟨rfl,by rw[Hv (f:=V.int) (fun _ _ z=>by cases z;rfl)];exact q _ _ ⟨H,z⟩ (Ext.refl hz) (.bl _) h3⟩
  ·rename_i i j
   cases hx.bl_inv
   cases hy.bl_inv
   exact⟨rfl,by rw[Hv (f:=V.bl) (fun _ _ z=>by cases z;rfl)];exact q _ _ ⟨H,z⟩ (Ext.refl hz) (.bl _) h3⟩
  ·rename_i i j
   cases hx.str_inv
   cases hy.str_inv
   exact⟨rfl,by rw[Hv (f:=V.str) (fun _ _ z=>by cases z;rfl)];exact q _ _ ⟨H,z⟩ (Ext.refl hz) (.bl _) h3⟩
  ·exact h3.elim
theorem PV:DW X (compareOp .NotEq) oNe :=
 CB Px fun x y H Q hh=>by
  obtain⟨z,dx,dy,R,hz,hx,hy,h3,q⟩:=hh
  unfold oNe at h3
  split at h3
  ·rename_i i j
   cases hx.int_inv
   cases hy.int_inv
   exact⟨rfl,by rw[Hv (f:=V.int) (fun _ _ z=>by cases z;rfl)];exact q _ _ ⟨H,z⟩ (Ext.refl hz) (.bl _) h3⟩
  ·rename_i i j
   cases hx.bl_inv
   cases hy.bl_inv
   exact⟨rfl,by rw[Hv (f:=V.bl) (fun _ _ z=>by cases z;rfl)];exact q _ _ ⟨H,z⟩ (Ext.refl hz) (.bl _) h3⟩
  ·rename_i i j
   cases hx.str_inv
   cases hy.str_inv
   exact⟨rfl,by rw[Hv (f:=V.str) (fun _ _ z=>by cases z;rfl)];exact q _ _ ⟨H,z⟩ (Ext.refl hz) (.bl _) h3⟩
  ·exact h3.elim
def dd (x:S)(k:D→Prop):Prop:=match x with
 |.d d=>k d
 |_=>False
def vOp (r3:R3)(ta tb:TE3):TE3:=fun τ R=>ta τ fun x=>tb τ fun y=>dd x fun dx=>dd y fun dy=>r3 dx dy fun d=>R (.d d)
theorem Ea {x:S}{k:D→Prop}(h:dd x k):∃d,x=.d d∧k d:=by
 cases x with
 |d d=>exact⟨d,rfl,h⟩
 |l _=>exact h.elim
 |r _=>exact h.elim
theorem two {r3:R3}{σ:St}{H:Hp}{Q:VK}(h:FE X (vOp r3 ta tb) σ H Q):tOp (lft X.K r3) (FE X ta) (FE X tb) σ H Q:=by
 obtain⟨B,z,τ,R,r,ht,q⟩:=h
 refine⟨B,_,τ,_,r,ht,fun x v H1 e1 i1 f1 h1=>?_⟩
 refine⟨B,_,τ,_,r.mono e1,h1,fun y u H2 e2 i2 f2 h2=>?_⟩
 obtain⟨dx,rfl,h4⟩:=Ea h2
 obtain⟨dy,rfl,h5⟩:=Ea h4
 exact⟨H2.z,dx,dy,_,e2.sub,Is.mono e2.zz i1,i2,h5,fun d w H3 e3 i3 h3=>q (.d d) w H3 (e1.trans (e2.trans e3)) i3 Ce h3⟩
theorem Ay {op:Operator}{r3:R3}(ho:DW X (binaryOp op) r3) (ha:PE3 X a ta) (hb:PE3 X b tb):PE3 X (.BinOp a op b pos) (vOp r3 ta tb):=⟨Ax (Mv ho ha.out hb.out) fun _ _ _ h=>two h⟩
theorem NC {op:CmpOp}{r3:R3}(ho:DW X (compareOp op) r3) (ha:PE3 X a ta) (hb:PE3 X b tb) (hm:behindInMarks op b=false):PE3 X (.Compare a [op] [b] pos) (vOp r3 ta tb):=⟨Ax (Mc ho ha.out hb.out hm) fun _ _ _ h=>two h⟩
def bb (x:S)(k:Bool→Prop):Prop:=match x with
 |.d (.bl c)=>k c
 |_=>False
theorem Hh {x:S}{k:Bool→Prop}(h:bb x k):∃c,x=.d (.bl c)∧k c:=by
 unfold bb at h
 split at h
 ·exact⟨_,rfl,h⟩
 ·exact h.elim
def Md (t:TE3):TT3:=fun τ R=>t τ fun x=>bb x R
theorem N6 {op:CmpOp}{r3:R3}(ho:DW X (compareOp op) r3) (ha:PE3 X a ta) (hb:PE3 X b tb) (hm:behindInMarks op b=false):PT3 X (.Compare a [op] [b] pos) (Md (vOp r3 ta tb)):=⟨IQ (LG ho ha.out hb.out hm) fun σ H Q hh=>by obtain⟨B,z,τ,R,r,ht,q⟩:=hh;exact two ⟨B,_,τ,_,r,ht,fun s v H' e i f h=>by
 obtain⟨c,rfl,h⟩:=Hh h
 cases Is.bl_inv i
 exact⟨c,rfl,q c H' e h⟩⟩⟩
theorem CI {t:TE3}(h:PE3 X e t) (he:∀whole,isTrue e X.env whole=(do let v ←whole;standAt e.pos;holding [v] (truthy v)):=by intro _;rfl):PT3 X e (Md t):=⟨IQ (NT h.out he) fun σ H Q hh=>by obtain⟨B,z,τ,R,r,ht,q⟩:=hh;exact⟨B,_,τ,_,r,ht,fun s v H' e i f hz=>by
 obtain⟨c,rfl,hz⟩:=Hh hz
 cases Is.bl_inv i
 exact⟨c,rfl,q c H' e hz⟩⟩⟩
def Q1 (ta:TE3):TE3:=fun τ R=>ta τ fun x=>match x with
 |.d (.int i)=>R (.d (.int (-i)))
 |_=>False
theorem GA (ha:PE3 X a ta):PE3 X (.UnaryOp .USub a pos) (Q1 ta):=⟨Ax (PB Nj ha.out) fun σ H Q hh=>by obtain⟨B,z,τ,R,r,ht,q⟩:=hh;exact⟨B,_,τ,_,r,ht,fun s v H' e i f h=>by
 split at h
 ·rename_i i'
  exact⟨i',Is.int_inv i,q (.d _) _ H' e (Is.int _) Ce h⟩
 ·exact h.elim⟩⟩
variable {tA tB':TT3}{rest:List Expr}
def Qy (t u:TT3):TT3:=fun τ R=>t τ fun c=>if c=true then u τ R else R false
def wOr (t u:TT3):TT3:=fun τ R=>t τ fun c=>if c=true then R true else u τ R
def QX (t:TT3):TT3:=fun τ R=>t τ fun c=>R (!c)
theorem Fv (ha:PT3 X a tA):PW3 X (.BoolOp .And [a] pos) tA:=⟨Mg ha.out⟩
theorem HB (ha:PT3 X a tA):PW3 X (.BoolOp .Or [a] pos) tA:=⟨Ou ha.out⟩
theorem HE (ha:PT3 X a tA)(hb:PW3 X (.BoolOp .And (b::rest) pos) tB'):PW3 X (.BoolOp .And (a::b::rest) pos) (Qy tA tB'):=⟨Lz (ND ha.out hb.out) fun σ H Q hh=>by obtain⟨B,z,τ,R,r,ht,q⟩:=hh;exact⟨B,_,τ,_,r,ht,fun c H1 e h=>by
 cases c with
 |true=>rw[if_pos rfl] at h ⊢;exact⟨B,_,τ,R,r.mono e,h,fun d H2 e2 h2=>q d H2 (e.trans e2) h2⟩
 |false=>rw[if_neg qAf] at h ⊢;exact q _ _ e h⟩⟩
theorem JN (ha:PT3 X a tA)(hb:PW3 X (.BoolOp .Or (b::rest) pos) tB'):PW3 X (.BoolOp .Or (a::b::rest) pos) (wOr tA tB'):=⟨Lz (O8 ha.out hb.out) fun σ H Q hh=>by obtain⟨B,z,τ,R,r,ht,q⟩:=hh;exact⟨B,_,τ,_,r,ht,fun c H1 e h=>by
 cases c with
 |false=>rw[if_neg qAf] at h ⊢;exact⟨B,_,τ,R,r.mono e,h,fun d H2 e2 h2=>q d H2 (e.trans e2) h2⟩
 |true=>rw[if_pos rfl] at h ⊢;exact q _ _ e h⟩⟩
theorem w_not (ha:PT3 X a tA):PT3 X (.UnaryOp .Not a pos) (QX tA):=⟨IQ (Oc ha.out) fun σ H Q hh=>by obtain⟨B,z,τ,R,r,ht,q⟩:=hh;exact⟨B,_,τ,_,r,ht,fun c H1 e h=>q _ _ e h⟩⟩
def Qw (ta tb:TE3):TE3:=fun τ R=>ta τ fun x=>bb x fun c=>if c=true then tb τ R else R (.d (.bl false))
def Qo (ta:TE3):TE3:=fun τ R=>ta τ fun x=>bb x fun c=>R (.d (.bl (!c)))
theorem Ox {op}{t:TE3}(h:PE3 X a t):PE3 X (.BoolOp op [a] pos) t:=⟨N7 h.out⟩
theorem Oz (ha:PE3 X a ta)(hb:PE3 X (.BoolOp .And (b::rest) pos) tb):PE3 X (.BoolOp .And (a::b::rest) pos) (Qw ta tb):=⟨Ax (NQ ha.out hb.out) fun σ H Q hh=>by obtain⟨B,z,τ,R,r,ht,q⟩:=hh;exact⟨B,_,τ,_,r,ht,fun s v H1 e i f h=>by
 obtain⟨c,rfl,h'⟩:=Hh h
 cases Is.bl_inv i
 refine⟨c,rfl,?_⟩
 cases c with
 |true=>rw[if_pos rfl] at h' ⊢;exact⟨B,_,τ,R,r.mono e,h',fun s2 v2 H2 e2 i2 f2 h2=>q _ _ _ (e.trans e2) i2 (EB e f2) h2⟩
 |false=>rw[if_neg qAf] at h' ⊢;exact q (.d _) _ _ e (Is.bl _) Ce h'⟩⟩
theorem PJ (ha:PE3 X a ta):PE3 X (.UnaryOp .Not a pos) (Qo ta):=⟨Ax (OK ha.out) fun σ H Q hh=>by obtain⟨B,z,τ,R,r,ht,q⟩:=hh;exact⟨B,_,τ,_,r,ht,fun s v H1 e i f h=>by
 obtain⟨c,rfl,h'⟩:=Hh h
 cases Is.bl_inv i
 exact⟨c,rfl,q (.d _) _ _ e (Is.bl _) Ce h'⟩⟩⟩
def items:S→Option (List D)
 |.d (.tup xs)=>some xs
 |.d (.lst xs)=>some xs
 |.l xs=>some xs
 |.r xs=>some xs
 |_=>none
def vIx (ta tb:TE3):TE3:=fun τ R=>ta τ fun x=>tb τ fun y=>match items x,y with
 |some xs,.d (.int i)=>match atI xs i with
  |some d=>R (.d d)
  |none=>False
 |_,_=>False
theorem Fe {K:PySem.W.Frag}{H:Hp}{vs:List V}{xs:List D}{i:Int}{d:D}(h:Iss K H vs xs) (e:atI xs i=some d):∃v,atI vs i=some v∧Is K H v d:=by
 unfold atI at e ⊢
 rw[h.1]
 cases q:ixN xs.length i with
 |none=>rw[q] at e;cases e
 |some j =>
  rw[q] at e
  have e':xs[j]? = some d:=e
  have hj:=(qAi.mp e').1
  have hl:j<vs.length:=by rw[h.1];exact hj
  have hv:vs[j]? = some vs[j]:=qAb hl
  exact⟨vs[j],hv,h.2 j _ _ hv e'⟩
theorem Cf (ha:PE3 X a ta)(hb:PE3 X b tb)(hs:GF b:=by exact fun _ _=>rfl):PE3 X (.Subscript a b pos) (vIx ta tb):=⟨Ax (Ow (LN.or OI) ha.out hb.out hs) fun σ H Q hh=>by
 obtain⟨B,z,τ,R,r,ht,q⟩:=hh
 refine⟨B,_,τ,_,r,ht,fun x v H1 e1 i1 f1 h1=>?_⟩
 refine⟨B,_,τ,_,r.mono e1,h1,fun y u H2 e2 i2 f2 h2=>?_⟩
 split at h2
 ·rename_i xs i hx
  split at h2
  ·rename_i d hd
   cases Is.int_inv i2
   have i1':=IsS.mono e2 i1
   cases x with
   |d z =>
    cases z with
    |tup zs =>
     cases hx
     obtain⟨p,vs,rfl,h3,h4⟩:=Is.tup_inv i1'
     obtain⟨w,hw,iw⟩:=Fe h4 hd
     exact .inr ⟨p,vs,i,w,rfl,rfl,SqT.same e2.sub h3,hw,q (.d _) _ _ (e1.trans e2) iw Ce h2⟩
    |lst zs =>
     cases hx
     obtain⟨p,vs,rfl,h3,h4⟩:=Is.lst_inv i1'
     obtain⟨w,hw,iw⟩:=Fe h4 hd
     exact .inl ⟨p,vs,i,w,rfl,rfl,e2.sub.seq h3,hw,q (.d _) _ _ (e1.trans e2) iw Ce h2⟩
    |_=>cases hx
   |l zs =>
    cases hx
    obtain⟨p,vs,rfl,h3,h4⟩:=i1'
    obtain⟨w,hw,iw⟩:=Fe h4 hd
    exact .inl ⟨p,vs,i,w,rfl,rfl,SqL.of h3,hw,q (.d _) _ _ (e1.trans e2) iw Ce h2⟩
   |r zs =>
    cases hx
    obtain⟨p,vs,rfl,h3,h4⟩:=i1'
    obtain⟨w,hw,iw⟩:=Fe h4 hd
    exact .inl ⟨p,vs,i,w,rfl,rfl,h3,hw,q (.d _) _ _ (e1.trans e2) iw Ce h2⟩
  ·exact h2.elim
 ·exact h2.elim⟩
variable {es:List Expr}{tr:TA3}{te:TE3}
def OT:TA3:=fun _ R=>R []
def S.arg:S→S
 |.l xs=>.d (.lst xs)
 |s=>s
def Jp (ta:TE3)(tr:TA3):TA3:=fun τ R=>ta τ fun x=>tr τ fun xs=>R (x.arg::xs)
theorem LZ:PA3 X [] OT:=⟨KZ BI fun σ H Q hh=>by obtain⟨B,z,τ,R,r,ht,q⟩:=hh;exact q [] [] ⟨H,z⟩ (Ext.refl r.ext.sub) ⟨rfl,fun i v s h=>by simp at h⟩ ht⟩
theorem Ma (s:S):s.arg.own=false:=by cases s<;>rfl
theorem DG {K:PySem.W.Frag}{p q:HZ}{v:V}{s:S}(e:Ext p q) (i:IsS K q v s) (f:Fr3 K p q v s):∃z',Ext p ⟨q.h,z'⟩∧IsS K ⟨q.h,z'⟩ v s.arg:=by
 cases s with
 |d x=>exact⟨q.z,e,i⟩
 |r xs=>exact⟨q.z,e,i⟩
 |l xs =>
  obtain⟨a,vs,rfl,h1,h2⟩:=i
  obtain⟨f1,f2,f3⟩:=f xs a rfl rfl
  have h3:=h2.mono (Bb f3 (.lst vs))
  exact⟨upd q.z a (.lst vs),e.freeze f1 f3 h1,Is.lst Al h3.1 h3.2⟩
theorem AU (ha:PE3 X e te)(hr:PA3 X es tr)(hs:starEach (e::es) X.env=(false,eval e X.env)::starEach es X.env:=by exact AV rfl):PA3 X (e::es) (Jp te tr) :=
 ⟨KZ (AM ha.out hr.out hs) fun σ H Q hh=>by
  obtain⟨B,z,τ,R,r,ht,q⟩:=hh
  refine⟨B,_,τ,_,r,ht,fun x v H1 e1 i1 f1 h1=>?_⟩
  obtain⟨z1,e1',i1'⟩:=DG e1 i1 f1
  refine⟨B,z1,τ,_,r.mono e1',h1,fun ss vs H2 e2 i2 h2=>?_⟩
  refine q _ _ _ (e1'.trans e2) ⟨by simp[i2.1],fun i w s hw hs=>?_⟩ h2
  cases i with
  |zero =>
   simp at hw hs
   subst hw;subst hs
   exact⟨IsS.mono e2 i1',Ma x⟩
  |succ i=>exact i2.2 i w s (by simpa using hw) (by simpa using hs)⟩
def M4:List S→Option (List D)
 |[]=>some []
 |.d x::r=>(M4 r).map (x :: ·)
 |_::_=>none
theorem Fp:∀{ss:List S}{ds:List D},M4 ss=some ds→ss=ds.map S.d
 |[],ds,h=>by cases h;rfl
 |.d x::r,ds,h=>by
  unfold M4 at h
  cases q:M4 r with
  |none=>rw[q] at h;cases h
  |some ys =>
   rw[q] at h
   cases h
   rw[Fp q]
   rfl
 |.l _::_,_,h=>by cases h
 |.r _::_,_,h=>by cases h
theorem Ho {K:PySem.W.Frag}{p:HZ}{vs:List V}{ds:List D}(h:Args K p vs (ds.map S.d)):Iss K p.z vs ds:=by
 refine⟨by simpa using h.1,fun i v x h1 h2=>?_⟩
 exact(h.2 i v (.d x) h1 (by rw[qAo,h2];rfl)).1
def QU (t:TA3):TE3:=fun τ R=>t τ fun ss=>match M4 ss with
 |some ds=>ds.length≤1000∧R (.d (.tup ds))
 |none=>False
theorem La {n:Nat}(h:n≤1000):n≤sizeLine:=qA6 (IM h)
theorem BE {x1}(h:PA3 X es tr):PE3 X (.Tuple es x1 pos) (QU tr) :=
 ⟨Ax (N1 h.out) fun σ H Q hh=>by obtain⟨B,z,τ,R,r,ht,q⟩:=hh;exact⟨B,_,τ,_,r,ht,fun ss vs H1 e1 i1 h1=>by
  try dsimp only at h1
  split at h1
  ·rename_i ds hd
   rw[Fp hd] at i1
   have j:=Ho i1
   refine⟨by rw[j.1];exact La h1.1,fun p hp=>?_⟩
   have el:=Ext.lay (o:=.tup vs) e1.sub hp
   have j':=j.mono (Bb (e1.sub.free hp) (.tup vs))
   exact q (.d _) _ _ (e1.trans el) (Is.tup (SqT.of Al) j'.1 j'.2) Ce h1.2
  ·exact h1.elim⟩⟩
theorem MD {t:TA}(h:PA X es t):PE X (.List es pos) (fun σ H Q=>t σ H fun xs H1=>xs.length≤sizeLine∧∀p,H1 p=none→X.K.lookup p=none→Q (.ref p) (upd H1 p (.lst xs))):=by
 intro pins s σ H Q I hq
 refine wpAny_List_spliced (thn (h pos pins s σ H _ I hq) fun us s1 ⟨xs,H1,I1,r,z,q⟩=>⟨by rw[←r.length];exact z,?_⟩)
 have hf:H1 s1.heap.objs.size=none:=I1.hok.fresh (qAj _)
 have hk:X.K.lookup s1.heap.objs.size=none:=by
  cases e:X.K.lookup s1.heap.objs.size with
  |none=>rfl
  |some o=>exact absurd (qAh (I1.kIn _ _ e)) (qAF _)
 refine⟨.ref s1.heap.objs.size,upd H1 s1.heap.objs.size (.lst xs),I1.laid (t':=s1.toks) (fun b u e=>qAm _ e) (qAj _) ?_,rfl,q _ hf hk⟩
 exact⟨z,us,0,r,qAH _ rfl⟩
def QB (t:TA3):TE3:=fun τ R=>t τ fun ss=>match M4 ss with
 |some ds=>ds.length≤1000∧R (.l ds)
 |none=>False
theorem CP (h:PA3 X es tr):PE3 X (.List es pos) (QB tr) :=
 ⟨Ax (MD h.out) fun σ H Q hh=>by obtain⟨B,z,τ,R,r,ht,q⟩:=hh;exact⟨B,_,τ,_,r,ht,fun ss vs H1 e1 i1 h1=>by
  try dsimp only at h1
  split at h1
  ·rename_i ds hd
   rw[Fp hd] at i1
   have j:=Ho i1
   refine⟨by rw[j.1];exact La h1.1,fun p hp hk=>q (.l ds) _ ⟨_,H1.z⟩ (e1.trans (Ext.own e1.sub hp _)) ⟨p,vs,rfl,Al,j⟩ (fun xs a _ h2=>?_) h1.2⟩
   cases h2
   exact⟨e1.hh.free hp,hk,e1.sub.free hp⟩
  ·exact h1.elim⟩⟩
def vCB (r:List S→(S→Prop)→Prop)(t:TA3):TE3:=fun τ R=>t τ fun ss=>r ss R
def Ei (X:Cx)(f:Value)(r3:List S→(S→Prop)→Prop):Prop :=
 Cd X f (fun xs H Q=>∃z ss R,AH z H∧Args X.K ⟨H,z⟩ xs ss∧r3 ss R∧∀s v q,Ext ⟨H,z⟩ q→IsS X.K q v s→Fr3 X.K ⟨H,z⟩ q v s→R s→Q v q.h)
theorem Cp {f:Value}{r r':List V→Hp→VK→Prop}(h:Cd X f r) (i:∀xs H Q,r' xs H Q→r xs H Q):Cd X f r':=fun pins s σ H xs us Q I rs q=>h pins s σ H xs us Q I rs (i xs H Q q)
theorem B4 {x:Str}{p:Pos}{id:String}{r:List S→(S→Prop)→Prop}(hc:Ei X (.builtin id) r) (hg:Gl X x) (hm:X.mg x=none) (hv:bootBuiltins x=some (.builtin id)) (ha:PA3 X (e::es) tr) (hn:x≠"__name__":=by decide)
 (hdb:(x==("__debug__":Str))=false:=by decide) (he:starEach (e::es) X.env=(false,eval e X.env)::starEach es X.env:=by exact AV rfl) (hpl:(backTo pos (starEach es X.env)).any (·.1)=false:=by exact AR rfl) :
 PE3 X (.Call (.Name x p) (e::es) [] pos) (vCB r tr):=⟨Ax (E8 hc hg hm hv ha.out hn hdb he hpl) fun σ H Q hh=>by obtain⟨B,z,τ,R,r,ht,q⟩:=hh;exact⟨B,_,τ,_,r,ht,fun ss vs H1 e1 i1 h1=>⟨H1.z,ss,R,e1.sub,i1,h1,fun s v H2 e2 i2 f2 h2=>q s v H2 (e1.trans e2) i2 (EB e1 f2) h2⟩⟩⟩
theorem P4 {α:Type}{l:List α}(h:l.length=1):∃a,l=[a]:=by
 cases l with
 |nil=>cases h
 |cons a t=>exact⟨a,by rw[List.length_eq_zero_iff.mp (Nat.succ.inj h)]⟩
theorem Qt {α:Type}{l:List α}(h:l.length=2):∃a b,l=[a,b]:=by
 cases l with
 |nil=>cases h
 |cons a t =>
  obtain⟨b,e⟩:=P4 (Nat.succ.inj h)
  exact⟨a,b,by rw[e]⟩
theorem GG {K:PySem.W.Frag}{H:HZ}{vs:List V}{s:S}(h:Args K H vs [s]):∃v,vs=[v]∧IsS K H v s:=by
 obtain⟨hl,hv⟩:=h
 obtain⟨v,rfl⟩:=P4 hl
 exact⟨v,rfl,(hv 0 v s rfl rfl).1⟩
theorem Oe {K:PySem.W.Frag}{H:HZ}{vs:List V}{s t:S}(h:Args K H vs [s,t]):∃v u,vs=[v,u]∧IsS K H v s∧IsS K H u t:=by
 obtain⟨hl,hv⟩:=h
 obtain⟨v,u,rfl⟩:=Qt hl
 exact⟨v,u,rfl,(hv 0 v s rfl rfl).1,(hv 1 u t rfl rfl).1⟩
def Qj:List S→(S→Prop)→Prop:=fun ss R=>match ss with
 |[.d (.int i)]=>R (.d (.int (if i<0 then -i else i)))
 |_=>False
theorem LL:Ei X (.builtin "abs") Qj :=
 Cp J8 fun xs H Q hh=>by
  obtain⟨z,ss,R,hz,ha,h3,q⟩:=hh
  unfold Qj at h3
  split at h3
  ·rename_i i
   obtain⟨v,rfl,h⟩:=GG ha
   cases Is.int_inv h
   exact⟨i,rfl,q (.d _) _ ⟨H,z⟩ (Ext.refl hz) (Is.int _) Ce h3⟩
  ·exact h3.elim
def Ph:List S→(S→Prop)→Prop:=fun ss R=>match ss with
 |[s]=>match items s with
  |some xs=>R (.d (.int xs.length))
  |none=>False
 |_=>False
theorem Pa:Ei X (.builtin "len") Ph :=
 Cp F3 fun xs H Q hh=>by
  obtain⟨z,ss,R,hz,ha,h3,q⟩:=hh
  unfold Ph at h3
  split at h3
  ·rename_i s
   split at h3
   ·rename_i ys hy
    obtain⟨v,rfl,h⟩:=GG ha
    cases s with
    |d z =>
     cases z with
     |tup zs =>
      cases hy
      obtain⟨p,vs,rfl,h1,h2⟩:=Is.tup_inv h
      exact⟨p,vs,rfl,.inr (SqT.same hz h1),by rw[h2.1];exact q (.d _) _ ⟨H,z⟩ (Ext.refl hz) (Is.int _) Ce h3⟩
     |lst zs =>
      cases hy
      obtain⟨p,vs,rfl,h1,h2⟩:=Is.lst_inv h
      exact⟨p,vs,rfl,.inl (hz.seq h1),by rw[h2.1];exact q (.d _) _ ⟨H,z⟩ (Ext.refl hz) (Is.int _) Ce h3⟩
     |_=>cases hy
    |l zs =>
     cases hy
     obtain⟨p,vs,rfl,h1,h2⟩:=h
     exact⟨p,vs,rfl,.inl (SqL.of h1),by rw[h2.1];exact q (.d _) _ ⟨H,z⟩ (Ext.refl hz) (Is.int _) Ce h3⟩
    |r zs =>
     cases hy
     obtain⟨p,vs,rfl,h1,h2⟩:=h
     exact⟨p,vs,rfl,.inl h1,by rw[h2.1];exact q (.d _) _ ⟨H,z⟩ (Ext.refl hz) (Is.int _) Ce h3⟩
   ·exact h3.elim
  ·exact h3.elim
inductive Ty where
 |int|bool|tuple|str|list
def LH:Ty→String
 |.int=>"int"
 |.bool=>"bool"
 |.tuple=>"tuple"
 |.str=>"str"
 |.list=>"list"
def PF:Ty→S→Bool
 |.int,.d (.int _)=>true
 |.int,.d (.bl _)=>true
 |.bool,.d (.bl _)=>true
 |.tuple,.d (.tup _)=>true
 |.str,.d (.str _)=>true
 |.list,.l _=>true
 |.list,.r _=>true
 |.list,.d (.lst _)=>true
 |_,_=>false
def Qb:S→Prop
 |.d (.ty _)=>False
 |.d (.ref _)=>False
 |_=>True
theorem KP (k:Ty):Cd X (.builtin "isinstance") (fun xs H Q=>∃z x s,AH z H∧xs=[x,.ty (LH k)]∧IsS X.K ⟨H,z⟩ x s∧Qb s∧Q (.bl (PF k s)) H):=by
 intro pins s σ H xs us Q I rs h
 obtain⟨zz,x,z,hz,rfl,h1,h2,q⟩:=h
 obtain⟨v',u',rfl,r1,r2⟩:=Nt rs
 cases r2
 have fin:∀tk,EP X pins σ Q (.bool (PF k z)) { s with toks:=tk }:=fun tk=>⟨.bl _,H,I.tok tk,rfl,q⟩
 cases z with
 |d z =>
  cases z with
  |non=>cases Is.non_inv h1;exact Dp I r1 .non (by cases k<;>kernel_rfl) fin
  |bl y=>cases Is.bl_inv h1;exact Dp I r1 (.bl y) (by cases k<;>kernel_rfl) fin
  |int y=>cases Is.int_inv h1;exact Dp I r1 (.int y) (by cases k<;>kernel_rfl) fin
  |str y=>cases Is.str_inv h1;exact Dp I r1 (.str y) (by cases k<;>kernel_rfl) fin
  |ty y=>exact h2.elim
  |ref y=>exact h2.elim
  |lst y =>
   obtain⟨p,vs,rfl,g1,g2⟩:=Is.lst_inv h1
   cases r1
   obtain⟨its,_,pl,_⟩:=I.list (hz.seq g1)
   obtain⟨o,n',e1,e2,_⟩:=pl
   exact qAD qBk I.kIn ⟨o,e1,e2⟩ (by cases k<;>kernel_rfl) (fun z=>nomatch z) fin
  |tup y =>
   obtain⟨p,vs,rfl,g1,g2⟩:=Is.tup_inv h1
   cases r1
   obtain⟨its,_,pl,_⟩:=I.tuple (SqT.same hz g1)
   obtain⟨o,e1,e2,_⟩:=pl
   exact qAD PySem.W.kitx_tuple I.kIn ⟨o,e1,e2⟩ (by cases k<;>kernel_rfl) (fun z=>nomatch z) fin
 |l y =>
  obtain⟨p,vs,rfl,g1,g2⟩:=h1
  cases r1
  obtain⟨its,_,pl,_⟩:=I.list (SqL.of g1)
  obtain⟨o,n',e1,e2,_⟩:=pl
  exact qAD qBk I.kIn ⟨o,e1,e2⟩ (by cases k<;>kernel_rfl) (fun z=>nomatch z) fin
 |r y =>
  obtain⟨p,vs,rfl,g1,g2⟩:=h1
  cases r1
  obtain⟨its,_,pl,_⟩:=I.list g1
  obtain⟨o,n',e1,e2,_⟩:=pl
  exact qAD qBk I.kIn ⟨o,e1,e2⟩ (by cases k<;>kernel_rfl) (fun z=>nomatch z) fin
def QE (k:Ty)(te:TE3):TE3:=fun τ R=>te τ fun x=>Qb x∧R (.d (.bl (PF k x)))
theorem Mx (k:Ty){y:Str}{p p2:Pos}(ha:PE3 X e te) (hg:Gl X "isinstance") (hm:X.mg "isinstance"=none) (hg2:Gl X y) (hm2:X.mg y=none) (hv:bootBuiltins y=some (.type (LH k)))
 (hn:y≠"__name__":=by decide) (hd:(y==("__debug__":Str))=false:=by decide)
 (he:starEach [e,.Name y p2] X.env=(false,eval e X.env)::starEach [.Name y p2] X.env:=by exact AV rfl) (he2:starEach [.Name y p2] X.env=(false,eval (.Name y p2) X.env)::starEach [] X.env:=by exact AV rfl) (hpl:(backTo pos (starEach [.Name y p2] X.env)).any (·.1)=false:=by exact AR rfl) :
 PE3 X (.Call (.Name "isinstance" p) [e,.Name y p2] [] pos) (QE k te):=⟨Ax (E8 (KP k) hg hm qBW (AM ha.out (AM (Ih (v:=.ty (LH k)) hg2 hm2 hv rfl hn hd) BI he2) he) (he:=he) (hpl:=hpl)) fun σ H Q ⟨B,z,τ,R,r,ht,q⟩ =>
 ⟨B,_,τ,_,r,ht,fun s v H1 e1 i1 f1 h1=>⟨H1.z,v,s,e1.sub,rfl,i1,h1.1,q (.d _) _ H1 e1 (Is.bl _) Ce h1.2⟩⟩⟩
abbrev Sp3:=List S→(S→Prop)→(Str→Prop)→Prop
def Ak (K:PySem.W.Frag)(mg:Str→Option Value)(sp:Sp3):Sp:=fun vs H Q E=>∃z ss R U,AH z H∧Args K ⟨H,z⟩ vs ss∧sp ss R U∧(∀s v q,Ext ⟨H,z⟩ q→IsS K q v s→Fr3 K ⟨H,z⟩ q v s→R s→Q v q.h) ∧
 ∀x C H',AH H H'→mg x=some (.ref C)→U x→E (.ref C) none H'
structure Cal (P:Program)(w:World)(K:PySem.W.Frag)(mg:Str→Option Value)(base:Heap)(CX:CXT)(k:Nat)(x:Str)(ps:List Str)(sp:Sp3):Prop where
 ex:∃f fd,AS P w K mg base CX k f fd ps (Ak K mg sp)∧mg x=some (.ref f)∧PySem.W.keepIn K (.ref f)=true∧Binds K fd ps []
def NoU:Str→Prop:=fun _=>False
variable {st:Stmt}{rest':List Stmt}{t u:TS3}
def Pk:TS3:=fun D3 τ=>D3.nx τ
def QJ (t u:TS3):TS3:=fun D3 τ=>t { D3 with nx:=u D3 } τ
def QP (t u:TS3):TS3:=fun D3 τ=>∃mid:Tau→Prop,t { D3 with nx:=mid } τ∧∀τ',mid τ'→u D3 τ'
theorem Am:DJ X [] Pk:=⟨Dy Mu fun _ _ _ ⟨_,_,_,_,r,ht,c⟩=>c.nx _ _ _ r ht⟩
theorem Aq (h:PS3 X st t):DJ X [st] t:=⟨LV h.out⟩
theorem Aa (h1:PS3 X st t)(h2:DJ X rest' u):DJ X (st::rest') (QJ t u):=⟨Dy (Hs h1.out h2.out) fun D2 σ H hh=>by obtain⟨B,z,τ,D3,r,ht,c⟩:=hh;exact⟨B,_,τ,{ D3 with nx:=u D3 },r,ht,⟨fun τ' σ' p' r' h'=>⟨B,_,τ',D3,r',h',c⟩,c.bk,c.ct,c.rt⟩⟩⟩
theorem Di (h1:PS3 X st t)(h2:DJ X rest' u):DJ X (st::rest') (QP t u):=⟨Dy (Hs h1.out h2.out) fun D2 σ H ⟨B,z,τ,D3,r,⟨mid,ht,hm⟩,c⟩=>⟨B,_,τ,{ D3 with nx:=mid },r,ht,⟨fun τ' σ' p' r' h'=>⟨B,_,τ',D3,r',hm τ' h',c⟩,c.bk,c.ct,c.rt⟩⟩⟩
def sGd (t u:TS3):TS3:=fun D3 τ=>t { D3 with nx:=fun τ'=>τ'=τ } τ∧u D3 τ
theorem LO (h1:PS3 X st t)(h2:DJ X rest' u):DJ X (st::rest') (sGd t u):=⟨Dy (Di h1 h2).out fun D2 σ H ⟨B,z,τ,D3,r,⟨ht,hu⟩,c⟩=>⟨B,_,τ,D3,r,⟨fun τ'=>τ'=τ,ht,fun τ' e=>by subst e;exact hu⟩,c⟩⟩
def Nh:TS3:=fun _ _=>False
theorem IJ:PS3 X st Nh:=⟨BS Kb fun _ _ _ ⟨_,_,_,_,_,h,_⟩=>h.elim⟩
def PR (te:TE3):TS3:=fun D3 τ=>te τ fun _=>D3.nx τ
theorem G3 (he:PE3 X e te)(hs:swapsWith e none pos.line X.env=pure false:=by rfl):PS3 X (.Expr e pos) (PR te):=⟨BS (Fc he.out hs) fun D2 σ H hh=>by obtain⟨B,z,τ,D3,r,ht,c⟩:=hh;exact⟨B,_,τ,_,r,ht,fun s v H' e i f h=>c.nx _ _ _ (r.mono e) h⟩⟩
def P7 (te:TE3):TS3:=fun D3 τ=>te τ D3.rt
theorem Pr (he:PE3 X e te):PS3 X (.Return (some e) pos) (P7 te):=⟨BS (K2 he.out) fun D2 σ H hh=>by obtain⟨B,z,τ,D3,r,ht,c⟩:=hh;exact⟨B,_,τ,_,r,ht,fun s v H' e i f h=>c.rt s v H' (r.ext.trans e) i (EB r.ext f) h⟩⟩
def Oi (i:Nat):TS3:=fun D3 τ=>match τ[i]? with
 |some (some s)=>D3.rt s
 |_=>False
theorem LF {i:Nat}{x:Str}{pos':Pos}(h:PE X (.Name x pos') (KG i)):PS3 X (.Return (some (.Name x pos')) pos) (Oi i):=⟨BS (K2 h) fun D2 σ H hh=>by
 obtain⟨B,z,τ,D3,r,ht,c⟩:=hh
 unfold Oi at ht
 split at ht
 ·rename_i s hs
  obtain⟨v,h1,h2⟩:=r.val i s hs
  exact⟨v,h1,c.rt s v ⟨H,z⟩ r.ext h2 (fun xs a e1 e2=>r.own i xs a (by rw[←e1];exact hs) (by rw[←e2];exact h1)) ht⟩
 ·exact ht.elim⟩
def sIf (c:TT3)(t u:TS3):TS3:=fun D3 τ=>c τ fun b=>if b=true then t D3 τ else u D3 τ
theorem BZ {c:Expr}{as bs:List Stmt}{tc:TT3}(hc:PT3 X c tc) (ha:DJ X as t) (hb:DJ X bs u):PS3 X (.If c as bs pos) (sIf tc t u):=⟨BS (Pd hc.out ha.out hb.out) fun D2 σ H hh=>by obtain⟨B,z,τ,D3,r,ht,c⟩:=hh;exact⟨B,_,τ,_,r,ht,fun b H1 e h=>by
 cases b with
 |true=>rw[if_pos rfl] at h ⊢;exact⟨B,_,τ,D3,r.mono e,h,c⟩
 |false=>rw[if_neg qAf] at h ⊢;exact⟨B,_,τ,D3,r.mono e,h,c⟩⟩⟩
def OM (i:Nat)(te:TE3):TS3:=fun D3 τ=>te τ fun s=>match s with
 |.r _=>False
 |.d x=>D3.nx (τ.set i (some (.d x)))
 |.l xs=>D3.nx (τ.set i (some (.l xs)))
theorem O3 {i:Nat}{x:Str}{pos':Pos}(hN:X.N.Nodup) (hi:X.N[i]? = some x) (hx:Loc X.env.scope x) (he:PE3 X e te) (hs:swapsWith e (some (.Name x pos')) pos.line X.env=pure false:=by rfl) (hf:X.fn x=true∨X.env.scope.names.lookup x=some .local:=by first|exact .inl rfl|exact .inr rfl|assumption) (hp:DH X i:=by first|exact CU rfl|exact pin_ne rfl ∅|assumption) :
 PS3 X (.Assign [.Name x pos'] e pos) (OM i te):=⟨BS (OA hN hi hx he.out hs hf) fun D2 σ H hh=>by obtain⟨B,z,τ,D3,r,ht,c⟩:=hh;exact⟨B,_,τ,_,r,ht,fun s v H' e i f h=>by
 cases s with
 |r _=>exact h.elim
 |d y=>exact c.nx _ _ _ (r.set e i f rfl hp) h
 |l ys=>exact c.nx _ _ _ (r.set e i f rfl hp) h⟩⟩
theorem Rep.push {B:HZ}{H z:Hp}{τ:Tau}{σ:St}{i:Nat}{xs:List D}{l:Addr}{vs:List V}{w:V}{d:D}(r:Rep X B τ σ ⟨H,z⟩) (hi:τ[i]? = some (some (.l xs))) (hσ:σ[i]? = some (some (.ref l)))
 (hl:H l=some (.lst vs)) (hv:Iss X.K z vs xs) (iw:Is X.K z w d):Rep X B (τ.set i (some (.l (xs++[d])))) σ ⟨upd H l (.lst (vs++[w])),z⟩:=by
 obtain⟨o1,o2,o3⟩:=r.own i xs l hi hσ
 refine⟨by simp[r.len],⟨fun b o h=>?_,r.ext.zz,fun b o h=>?_,r.ext.new⟩,fun j s hj=>?_,fun j ys a hj ha=>?_,fun j k ys s a hjk hj hk hs ha=>?_,r.top,r.pin⟩
 ·have hb:b≠l:=by
   rintro rfl
   rw[h] at o1
   cases o1
  show upd H l _ b=some o
  rw[Ar hb]
  exact r.ext.hh b o h
 ·have hb:b≠l:=by
   rintro rfl
   have h':z b=some o:=h
   rw[show z b=none from o3] at h'
   cases h'
  show upd H l _ b=some o
  rw[Ar hb]
  exact r.ext.sub b o h
 ·rcases Az hj with⟨rfl,rfl⟩|⟨hn,hj⟩
  ·exact⟨.ref l,hσ,l,_,rfl,Al,hv.snoc iw⟩
  ·obtain⟨v,h1,h2⟩:=r.val j s hj
   refine⟨v,h1,?_⟩
   cases s with
   |d x=>exact h2
   |l ys =>
    obtain⟨b,ws,rfl,h3,h4⟩:=h2
    have hb:b≠l:=by
     rintro rfl
     exact r.sep i j xs (.l ys) b (fun z=>hn z.symm) hi hj rfl hσ h1
    exact⟨b,ws,rfl,by show upd H l _ b=_;rw[Ar hb];exact h3,h4⟩
   |r ys =>
    obtain⟨b,ws,rfl,h3,h4⟩:=h2
    have hb:b≠l:=by
     rintro rfl
     exact r.sep i j xs (.r ys) b (fun z=>hn z.symm) hi hj rfl hσ h1
    refine⟨b,ws,rfl,?_,h4⟩
    rcases h3 with (h3|⟨o,h3⟩)|h3
    ·exact .inl (.inl (by show upd H l _ b=_;rw[Ar hb];exact h3))
    ·exact .inl (.inr ⟨o,by show upd H l _ b=_;rw[Ar hb];exact h3⟩)
    ·exact .inr h3
 ·rcases Az hj with⟨rfl,_⟩|⟨hn,hj⟩
  ·exact r.own j xs a hi ha
  ·exact r.own j ys a hj ha
 ·rcases Az hj with⟨rfl,_⟩|⟨hn,hj'⟩
  ·rcases Az hk with⟨e3,_⟩|⟨hkn,hk'⟩
   ·exact absurd e3.symm hjk
   ·exact r.sep j k xs s a hjk hi hk' hs ha
  ·rcases Az hk with⟨rfl,rfl⟩|⟨hkn,hk'⟩
   ·exact r.sep j k ys (.l xs) a hjk hj' hi rfl ha
   ·exact r.sep j k ys s a hjk hj' hk' hs ha
def P6 (i:Nat)(te:TE3):TS3:=fun D3 τ=>match τ[i]? with
 |some (some (.l xs))=>te τ fun s=>dd s.arg fun d=>xs.length<1000000∧D3.nx (τ.set i (some (.l (xs++[d]))))
 |_=>False
theorem MA {i:Nat}{o:Expr}{apos cpos:Pos}(h:PS X (.Expr (.Call (.Attribute o "append" apos) [e] [] cpos) pos) (NF (tBM X.K "list" IC (KG i) (N5 (FE X te) Qc)))) :
 PS3 X (.Expr (.Call (.Attribute o "append" apos) [e] [] cpos) pos) (P6 i te):=⟨BS h fun D2 σ H hh=>by
 obtain⟨B,z,τ,D3,r,ht,c⟩:=hh
 unfold P6 at ht
 split at ht
 ·rename_i xs hs
  obtain⟨v,h1,a,vs,rfl,h2,h3⟩:=r.val i _ hs
  refine⟨.ref a,h1,.inl ⟨rfl,vs,SqL.of h2⟩,B,_,τ,_,r,ht,fun s v H' e i' f h=>?_⟩
  obtain⟨d,hd,h4,h5⟩:=Ea h
  obtain⟨z',e',i''⟩:=DG e i' f
  rw[hd] at i''
  have sz:(1000000:Nat)<sizeLine:=∅
  exact⟨a,vs,v,rfl,rfl,e.hh _ _ h2,by rw[h3.1];omega,c.nx _ _ _ ((r.mono e').push hs h1 (e.hh _ _ h2) (h3.mono e'.zz) i'') h5⟩
 ·exact ht.elim⟩
def Oj (c:TT3)(tb:TS3):TS3:=fun D3 τ=>∃W:Nat→Tau→Prop,(∃m,W m τ)∧∀m τ,W m τ →
 c τ fun b=>if b=true then tb { D3 with nx:=fun τ'=>∃m',m'<m∧W m' τ',ct:=fun τ'=>∃m',m'<m∧W m' τ',bk:=D3.nx } τ else D3.nx τ
theorem JC {c:Expr}{body:List Stmt}{tc:TT3}{tb:TS3}(hp:PassesOwn (model X.prog X.w) X.A X.env X.xe) (hc:PT3 X c tc) (hb:DJ X body tb):PS3 X (.While c body [] pos) (Oj tc tb):=⟨BS (JX hp hc.out hb.out) fun D2 σ H hh=>by
 obtain⟨B,z,τ,D3,r,⟨W,⟨m0,w0⟩,turn⟩,c⟩:=hh
 refine⟨fun m σ H=>∃z τ,Rep X B τ σ ⟨H,z⟩∧W m τ,⟨m0,z,τ,r,w0⟩,?_⟩
 rintro m σ1 H1 ⟨z1,τ1,r1,w1⟩
 refine⟨B,_,τ1,_,r1,turn m τ1 w1,fun b H2 e h=>?_⟩
 cases b with
 |true =>
  rw[if_pos rfl] at h ⊢
  refine⟨fun σ' H'=>∃m',m'<m∧∃z τ,Rep X B τ σ' ⟨H',z⟩∧W m' τ,fun σ' H' ⟨m',h1,h2⟩=>⟨m',h1,h2⟩,B,_,τ1,_,r1.mono e,h,⟨?_,c.nx,?_,c.rt⟩⟩
  ·rintro τ' σ' p' r' ⟨m',h1,h2⟩
   exact⟨m',h1,p'.z,τ',r',h2⟩
  ·rintro τ' σ' p' r' ⟨m',h1,h2⟩
   exact⟨m',h1,p'.z,τ',r',h2⟩
 |false =>
  rw[if_neg qAf] at h ⊢
  exact c.nx _ _ _ (r1.mono e) h⟩
def Pu (i:Nat)(xs:List D)(tb:TS3)(D3:Jl)(τ0:Tau):Prop:=∃I:Nat→Tau→Prop,I 0 τ0 ∧
 (∀n τ x,xs[n]? = some x→I n τ→tb { D3 with nx:=I (n+1),ct:=I (n+1),bk:=D3.nx } (τ.set i (some (.d x))))∧∀τ,I xs.length τ→D3.nx τ
theorem Rep.setd {B p:HZ}{τ:Tau}{σ:St}{i:Nat}{v:V}{x:D}(r:Rep X B τ σ p) (h:Is X.K p.z v x) (hp:DH X i):Rep X B (τ.set i (some (.d x))) (σ.set i (some v)) p :=
 r.set (s:=.d x) (Ext.refl r.ext.sub) h Ce rfl hp
theorem OO.inB {B B':HZ}{D3:Jl}{D2:Lq}{I:Tau→Prop}{N:St→Hp→Prop}(e:LeB X B B') (c:OO X B D3 D2) (hN:∀τ σ p,Rep X B' τ σ p→I τ→N σ p.h) :
 OO X B' { D3 with nx:=I,ct:=I,bk:=D3.nx } { D2 with nx:=N,ct:=N,bk:=D2.nx } :=
 ⟨hN,fun τ σ H r h=>c.nx τ σ H (r.outB e) h,hN,fun s v q h1 h2 h3 h4=>c.rt s v q (e.ext h1) h2 (fun xs a x1 x2=>⟨e.hh.free (h3 xs a x1 x2).1,(h3 xs a x1 x2).2⟩) h4⟩
theorem GL {K:PySem.W.Frag}{H:Hp}{vs:List V}{xs:List D}{n:Nat}{v:V}(h:Iss K H vs xs) (e:vs[n]? = some v):∃x,xs[n]? = some x∧Is K H v x:=by
 have hn:=(qAi.mp e).1
 have hx:xs[n]? = some (xs[n]'(by rw[←h.1];exact hn)):=qAb (by rw[←h.1];exact hn)
 exact⟨_,hx,h.2 n v _ e hx⟩
def Qi (K:PySem.W.Frag)(tl:TE):TI:=fun σ H R=>tl σ H fun x H1=>∃a,x=.ref a∧(((∃xs,SqL K H1 a xs)∧R (Itl K a) H1)∨((∃xs,SqT K H1 a xs)∧R (Itt K a) H1))
theorem GW {tg l:Expr}{tl:TE}(hl:PE X l tl):PI X tg l (Qi X.K tl):=by
 intro pins s σ H R I h
 refine thn (hl pins s σ H _ I h) fun v s1 hh9=>?_
 obtain⟨x,H1,I1,r1,q1⟩:=hh9
 obtain⟨a,e,⟨⟨xs,hq⟩,q⟩|⟨⟨xs,hq⟩,q⟩⟩:=q1
 ·subst e
  cases r1
  obtain⟨its,rv,p,hz⟩:=I1.list hq
  refine wpAny_pyIter_list p.isList ?_
  refine⟨s1.heap.objs.size,[s1.heap.objs.size],_,_,H1,rfl,I1.kept (t':=s1.toks) fun b o e=>qAm _ e,Jo a _,⟨_,qAH _ rfl,rfl,rfl⟩,fun b hb=>?_,q⟩
  have e:b=s1.heap.objs.size:=by simpa using hb
  subst e
  exact I1.fpOk (qAj _) (I1.hok.fresh (qAj _))
 ·subst e
  cases r1
  obtain⟨its,rv,p,hz⟩:=I1.tuple hq
  refine wpAny_pyIter_tuple (show s1.heap.IsTuple a its.toArray from p) ?_
  refine⟨s1.heap.objs.size,[s1.heap.objs.size],_,_,H1,rfl,I1.kept (t':=s1.toks) fun b o e=>qAm _ e,Hu a _,⟨_,qAH _ rfl,rfl,rfl⟩,fun b hb=>?_,q⟩
  have e:b=s1.heap.objs.size:=by simpa using hb
  subst e
  exact I1.fpOk (qAj _) (I1.hok.fresh (qAj _))
def Ql (i:Nat)(t:TS3):TS3:=fun D3 τ=>match τ[i]? with
 |some (some (.l xs))=>t D3 (τ.set i (some (.d (.lst xs))))
 |_=>False
theorem JF {sts:List Stmt}(i:Nat) (h:DJ X sts t):DJ X sts (Ql i t):=⟨Dy h.out fun D2 σ H hh=>by
 obtain⟨B,z,τ,D3,r,ht,c⟩:=hh
 unfold Ql at ht
 split at ht
 ·rename_i xs hs
  obtain⟨z',r'⟩:=r.data hs
  exact⟨B,z',_,D3,r',ht,c⟩
 ·exact ht.elim⟩
def P9 (i:Nat)(lo st:Int)(cnt:Nat)(tb:TS3)(D3:Jl)(τ0:Tau):Prop:=∃I:Nat→Tau→Prop,I 0 τ0 ∧
 (∀(n:Nat) τ,n<cnt→I n τ→tb { D3 with nx:=I (n+1),ct:=I (n+1),bk:=D3.nx } (τ.set i (some (.d (.int (lo+n*st))))))∧∀τ,I cnt τ→D3.nx τ
def Pe (i:Nat)(ta:TA3)(tb:TS3):TS3:=fun D3 τ=>ta τ fun ss=>match ss with
 |[.d (.int j)]=>(-(2^62)≤j∧j<2^62)∧P9 i 0 1 j.toNat tb D3 τ
 |_=>False
theorem Oa {i:Nat}{x:Str}{px:Pos}{body:List Stmt}{tb:TS3}{ta:TA3}(h:PS X (.For (.Name x px) e body [] pos) (ON (Nx (FA X ta)) (Gd i) (FS X tb))) (hp:DH X i:=by first|exact CU rfl|exact pin_ne rfl ∅|assumption):PS3 X (.For (.Name x px) e body [] pos) (Pe i ta tb):=⟨BS h fun D2 σ H hh=>by
 obtain⟨B,z,τ,D3,r,ht,c⟩:=hh
 refine⟨B,_,τ,_,r,ht,fun ss vs H1 e1 i1 h1=>?_⟩
 split at h1
 ·rename_i j
  obtain⟨v,rfl,hv⟩:=GG i1
  cases Is.int_inv hv
  obtain⟨⟨q1,q2⟩,I,i0,turn,out⟩:=h1
  refine⟨j,rfl,q1,q2,F7 (lo:=0) (n:=j.toNat) (g:=Gd i) (tb:=FS X tb) (D:=D2) (fun n σ1 H1=>∃z1 τ1,Rep X B τ1 σ1 ⟨H1,z1⟩∧I n τ1) ⟨_,τ,r.mono e1,i0⟩ ?_ ?_⟩
  ·rintro n σ1 H1 hn ⟨z1,τ1,r1,i1⟩
   have tt:=turn n τ1 hn i1
   rw[qCg] at tt
   exact⟨B,_,_,_,r1.setd (.int _) hp,tt,c.inB r.leR fun τ' σ' p' r' h'=>⟨p'.z,τ',r',h'⟩⟩
  ·rintro σ1 H1 ⟨z1,τ1,r1,i1⟩
   exact c.nx _ _ _ r1 (out τ1 i1)
 ·exact h1.elim⟩
def O7 (i:Nat)(ta:TA3)(tb:TS3):TS3:=fun D3 τ=>ta τ fun ss=>match ss with
 |[.d (.int a),.d (.int j)]=>(-(2^62)≤a∧a<2^62∧-(2^62)≤j∧j<2^62)∧P9 i a 1 (j-a).toNat tb D3 τ
 |_=>False
theorem Lh {i:Nat}{x:Str}{px:Pos}{body:List Stmt}{tb:TS3}{ta:TA3}(h:PS X (.For (.Name x px) e body [] pos) (ON (LR (FA X ta)) (Gd i) (FS X tb))) (hp:DH X i:=by first|exact CU rfl|exact pin_ne rfl ∅|assumption):PS3 X (.For (.Name x px) e body [] pos) (O7 i ta tb):=⟨BS h fun D2 σ H hh=>by
 obtain⟨B,z,τ,D3,r,ht,c⟩:=hh
 refine⟨B,_,τ,_,r,ht,fun ss vs H1 e1 i1 h1=>?_⟩
 split at h1
 ·rename_i a j
  obtain⟨v,u,rfl,hv,hu⟩:=Oe i1
  cases Is.int_inv hv
  cases Is.int_inv hu
  obtain⟨q1,I,i0,turn,out⟩:=h1
  refine⟨a,j,rfl,q1,F7 (lo:=a) (n:=(j-a).toNat) (g:=Gd i) (tb:=FS X tb) (D:=D2) (fun n σ1 H1=>∃z1 τ1,Rep X B τ1 σ1 ⟨H1,z1⟩∧I n τ1) ⟨_,τ,r.mono e1,i0⟩ ?_ ?_⟩
  ·rintro n σ1 H1 hn ⟨z1,τ1,r1,i1⟩
   have tt:=turn n τ1 hn i1
   rw[qCg] at tt
   exact⟨B,_,_,_,r1.setd (.int _) hp,tt,c.inB r.leR fun τ' σ' p' r' h'=>⟨p'.z,τ',r',h'⟩⟩
  ·rintro σ1 H1 ⟨z1,τ1,r1,i1⟩
   exact c.nx _ _ _ r1 (out τ1 i1)
 ·exact h1.elim⟩
end
def Cq (N:List Str)(ss:List S):Tau:=ss.map some++List.replicate (N.length-ss.length) none
theorem FZ {α:Type}{ss:List α}{m i:Nat}{s:α}(h:(ss.map some++List.replicate m (none:Option α))[i]? = some (some s)):ss[i]? = some s:=by
 by_cases hi:i<ss.length
 ·rw[qAC (by simpa using hi),qAo] at h
  cases e:ss[i]? with
  |none=>rw[e] at h;cases h
  |some a=>rw[e] at h;cases h;rfl
 ·rw[qAy (by simpa using hi),qBC] at h
  split at h<;>cases h
theorem Dc {X:Cx}{p:HZ}{N:List Str}{vs:List V}{ss:List S}(h:Args X.K p vs ss) (hz:AH p.z p.h) (ht:AH X.H₀ p.h) (hl:X.lent=none:=by rfl):Rep X p (Cq N ss) (L2.start N vs) p:=by
 have no:∀(i:Nat)(xs:List D),¬(Cq N ss)[i]? = some (some (.l xs)):=fun i xs z=>by
  have z':=FZ z
  have hi:=(qAi.mp z').1
  have hv:vs[i]? = some (vs[i]'(by rw[h.1];exact hi)):=qAb (by rw[h.1];exact hi)
  have:=(h.2 i _ _ hv z').2
  cases this
 refine⟨by unfold L2.start Cq;simp[h.1],Ext.refl hz,fun i s hs=>?_,fun i xs a z _=>absurd z (no i xs),fun i j xs s a _ z _ _ _=>absurd z (no i xs),fun _=>ht,fun k a hk=>by rw[hl] at hk;cases hk⟩
 have z':=FZ hs
 have hi:=(qAi.mp z').1
 have hl:i<vs.length:=by rw[h.1];exact hi
 have hv:vs[i]? = some vs[i]:=qAb hl
 refine⟨vs[i],?_,(h.2 i _ _ hv z').1⟩
 unfold L2.start
 rw[qAC (by simpa using hl),qAo,hv]
 rfl
section
variable {P:Program}{w:World}{K:PySem.W.Frag}{mg:Str→Option Value}{base:Heap}
theorem fn3 {x qual:Str}{st:Stmt}{f:Addr}{fd:FuncData}{N ps:List Str}{k:Nat}{sp:Sp3}(F:Fun K x qual st f fd) (Sc:Ah N ps (Ab st)) (len:∀ss R U,sp ss R U→ss.length=ps.length)
 (hbody:∀(cdv:Value)(A:Around)(outer:List Env)(s:Shared)(H:Hp)(E:XK)(ss:List S)(R:S→Prop)(U:Str→Prop),Dr k (A.deeper (envOfC qual (Ab st) s.heap.objs.size f cdv))→sp ss R U →
  ∃t,DJ (EK CX0 P w K mg base N qual (Ab st) f cdv A outer s H E).nox (Bf st) t∧t { nx:=fun _=>R (.d .non),rt:=R } (Cq N ss)):AS P w K mg base CX0 (k+1) f fd ps (Ak K mg sp):=by
 refine F.ok Sc (fun vs H Q E hh=>by obtain⟨z,ss,R,U,hz,ha,h3,_⟩:=hh;exact ha.1.trans (len ss R U h3)) fun cdv A outer s H vs Q E hr hh9=>?_
 obtain⟨z,ss,R,U,hz,ha,h3,q,qe⟩:=hh9
 obtain⟨t,ht,hq⟩:=hbody cdv A outer s H E ss R U hr h3
 exact⟨_,ht.out,⟨H,z⟩,z,Cq N ss,_,Dc ha hz (AH.refl H),hq,⟨fun τ σ p r h=>q (.d .non) _ p r.ext Is.non Ce h,fun _ _ _ _ z=>z.elim,fun _ _ _ _ z=>z.elim,fun s v p e i f h=>q s v p e i f h⟩⟩
end
def G7:Sp3:=fun ss R _=>∃ns:List Int,ss=[.r (ns.map D.int)]∧ns.length≤63∧R (.d (.bl true))
theorem Ke {K:PySem.W.Frag}{H:Hp}(ns:List Int):Iss K H (ns.map V.int) (ns.map D.int):=by
 refine⟨by simp,fun i v x h1 h2=>?_⟩
 rw[qAo] at h1 h2
 cases e:ns[i]? with
 |none=>rw[e] at h1;cases h1
 |some n =>
  rw[e] at h1 h2
  cases h1
  cases h2
  exact .int n
end L3
namespace L3
open PySem PySem.Spec PyProof.Rows L2
section
variable {X:Cx}{tg:Expr}
variable {e:Expr}{pos:Pos}
end
end L3
namespace L3
open PySem PySem.Spec PyProof.Rows L2
def Gi:D→Bool
 |.non=>true
 |.bl _=>true
 |.int _=>true
 |.str _=>true
 |_=>false
def Bx:Nat→D→Bool
 |0,x=>Gi x
 |n+1,.tup xs=>xs.all (Bx n)
 |_+1,x=>Gi x
def eqF:D→D→Bool
 |.non,.non=>true
 |.bl a,.bl b=>a==b
 |.bl a,.int b=>(if a then 1 else 0)==b
 |.int a,.bl b=>a==(if b then 1 else 0)
 |.int a,.int b=>a==b
 |.str a,.str b=>a==b
 |_,_=>false
def eqN:Nat→D→D→Bool
 |0,x,y=>eqF x y
 |n+1,.tup xs,.tup ys=>(xs.zip ys).all (fun p=>eqN n p.1 p.2)&&xs.length==ys.length
 |_+1,.tup _,_=>false
 |_+1,_,.tup _=>false
 |_+1,x,y=>eqF x y
theorem DY:∀(n:Nat)(x:D),Bx n x=true→eqN n x x=true
 |0,x,h=>by cases x<;>first|rfl|(exact beq_self_eq_true _)|cases h
 |n+1,x,h=>by
  cases x with
  |tup xs =>
   have h':xs.all (Bx n)=true:=h
   show((xs.zip xs).all (fun p=>eqN n p.1 p.2)&&xs.length==xs.length)=true
   rw[beq_self_eq_true,qCp,qAs]
   rintro⟨a,b⟩ hp
   obtain⟨i,hi⟩:=qBQ hp
   rw[qAX] at hi
   obtain⟨h1,h2⟩:=hi
   have e:a=b:=qAn (h1.symm.trans h2)
   subst e
   exact DY n a (qAs.mp h' a (qAw h1))
  |_=>first|rfl|(exact beq_self_eq_true _)|cases h
theorem Is.flatV {K:PySem.W.Frag}{H:Hp}{v:V}{x:D}(h:Is K H v x) (f:Gi x=true):flatV v=true:=by
 cases h<;>first|rfl|cases f
theorem OF {K:PySem.W.Frag}{H:Hp}{v u:V}{x y:D}(h:Is K H v x) (h':Is K H u y) (f:Gi x=true) (f':Gi y=true):eqV v u=eqF x y:=by
 cases h<;>first|(cases f;done)|(cases h'<;>first|(cases f';done)|rfl)
theorem CN {its:List Value}{j:Nat}(h:j<its.toArray.size){u:Value}(e:its[j]? = some u):its.toArray[j]=u:=by
 have hj:j<its.length:=by simpa using h
 rw[qAb hj] at e
 have e':=qAn e
 rw[←e']
 simp
section
variable {X:Cx}{pins:List (Addr×Obj)}{σ:St}{H:Hp}{s:Shared}
theorem LC (I:Inv X pins σ H s):∀(n:Nat){v:V}{x y:D},Bx n x=true→Bx n y=true→Is X.K H v x→Is X.K H v y→x=y
 |0,v,x,y,fx,fy,hx,hy=>by
  cases hx<;>first|(cases fx;done)|(cases hy<;>first|rfl|(cases fy;done))
 |n+1,v,x,y,fx,fy,hx,hy=>by
  cases hx with
  |@tup a vs xs h hl r =>
   cases hy with
   |@tup _ ws ys h2 hl2 r2 =>
    have e:=I.tuple_inj h h2
    subst e
    congr 1
    apply List.ext_getElem?
    intro i
    cases hv:vs[i]? with
    |none =>
     have hi:=qAY.mp hv
     rw[qAY.mpr (),qAY.mpr ()]
    |some v =>
     have hi:=(qAi.mp hv).1
     have hx:xs[i]? = some (xs[i]' ()):=qAb ()
     have hy:ys[i]? = some (ys[i]' ()):=qAb ()
     rw[hx,hy]
     congr 1
     exact LC I n (qAs.mp (show xs.all (Bx n)=true from fx) _ (qAw hx)) (qAs.mp (show ys.all (Bx n)=true from fy) _ (qAw hy)) (r i v _ hv hx) (r2 i v _ hv hy)
   |lst=>cases fy
   |ref=>cases fy
  |lst=>cases fx
  |ref=>cases fx
  |ty=>cases fx
  |_=>cases hy<;>first|rfl|(cases fy;done)
theorem F5 (I:Inv X pins σ H s){n:Nat}{A:Around}{a b:Addr}{vs ws:List V}{xs ys:List D}(ha:SqT X.K H a vs) (hb:SqT X.K H b ws) (hx:Iss X.K H vs xs) (hy:Iss X.K H ws ys) (hu:A.units<cLine)
 (ih:∀(x y:D)(v u:V)(v' u':Value),x∈xs→y∈ys→Is X.K H v x→Is X.K H u y→Bi v v'→Bi u u'→SeqAt.EqAt A.in1 s v' u' (eqN n x y)):SeqAt.RcAt A s (.ref a) (.ref b) (eqN (n+1) (.tup xs) (.tup ys)):=by
 obtain⟨its,r1,p1,_⟩:=I.tuple ha
 obtain⟨its2,r2,p2,_⟩:=I.tuple hb
 have l1:=r1.length
 have l2:=r2.length
 have k1:=hx.1
 have k2:=hy.1
 have key:=SeqAt.RcAt.tuples (A:=A) (s:=s) (l:=a) (b:=b) (items:=its.toArray) (items2:=its2.toArray) (e:=fun j=>match xs[j]?,ys[j]? with|some x,some y=>eqN n x y|_,_=>true) p1 p2 hu (fun j h1 h2=>by
  have h1':j<its.length:=by simpa using h1
  have h2':j<its2.length:=by simpa using h2
  have gx:xs[j]? = some (xs[j]' ()):=qAb ()
  have gy:ys[j]? = some (ys[j]' ()):=qAb ()
  have gv:vs[j]? = some (vs[j]' ()):=qAb ()
  have gw:ws[j]? = some (ws[j]' ()):=qAb ()
  obtain⟨u1,e1,q1⟩:=r1.get gv
  obtain⟨u2,e2,q2⟩:=r2.get gw
  rw[CN h1 e1,CN h2 e2]
  rw[gx,gy]
  exact ih _ _ _ _ _ _ (qAw gx) (qAw gy) (hx.2 j _ _ gv gx) (hy.2 j _ _ gw gy) q1 q2)
 have e:eqN (n+1) (.tup xs) (.tup ys)=((List.range (min its.toArray.size its2.toArray.size)).all (fun j=>match xs[j]?,ys[j]? with|some x,some y=>eqN n x y|_,_=>true)&&its.toArray.size==its2.toArray.size):=by
  show((xs.zip ys).all (fun p=>eqN n p.1 p.2)&&xs.length==ys.length)=_
  have s1:its.toArray.size=xs.length:=by simp;omega
  have s2:its2.toArray.size=ys.length:=by simp;omega
  rw[s1,s2]
  congr 1
  rw[qBa,qAs,qAs]
  constructor
  ·intro h j hj
   rw[qBA] at hj
   have gx:xs[j]? = some (xs[j]' ()):=qAb ()
   have gy:ys[j]? = some (ys[j]' ()):=qAb ()
   rw[gx,gy]
   exact h (_,_) (qAw (qAX.mpr ⟨gx,gy⟩))
  ·rintro h ⟨x,y⟩ hp
   obtain⟨j,hj⟩:=qBQ hp
   obtain⟨gx,gy⟩:=qAX.mp hj
   have h1:=(qAi.mp gx).1
   have h2:=(qAi.mp gy).1
   have:=h j (by rw[qBA];omega)
   simp only[] at gx gy
   rw[gx,gy] at this
   exact this
 rw[e]
 exact key
theorem IX (I:Inv X pins σ H s):∀(n:Nat)(A:Around)(x y:D)(v u:V)(v' u':Value),A.units+n<cLine→Bx n x=true→Bx n y=true→Is X.K H v x→Is X.K H u y→Bi v v'→Bi u u'→SeqAt.EqAt A s v' u' (eqN n x y)
 |0,A,x,y,v,u,v',u',_,fx,fy,hx,hy,rv,ru=>by
  show SeqAt.EqAt A s v' u' (eqF x y)
  rw[←OF hx hy fx fy]
  exact Li rv ru (hx.flatV fx) (hy.flatV fy)
 |n+1,A,x,y,v,u,v',u',hu,fx,fy,hx,hy,rv,ru=>by
  have flat:Gi x=true→Gi y=true→eqN (n+1) x y=eqF x y→SeqAt.EqAt A s v' u' (eqN (n+1) x y):=fun f1 f2 e=>by
   rw[e,←OF hx hy f1 f2]
   exact Li rv ru (hx.flatV f1) (hy.flatV f2)
  have hu0:A.units<cLine:=()
  cases hx with
  |@tup a vs xs ha hl r =>
   cases rv
   obtain⟨its,r1,p1,_⟩:=I.tuple ha
   have t1:s.heap.IsTuple a its.toArray:=p1
   cases hy with
   |@tup b ws ys hb hl2 r2 =>
    cases ru
    by_cases hab:a=b
    ·subst hab
     have e:=LC I (n+1) fx fy (.tup ha hl r) (.tup hb hl2 r2)
     rw[e,DY (n+1) _ fy]
     exact SeqAt.EqAt.same _
    ·refine SeqAt.EqAt.of_refs hab (F5 I ha hb ⟨hl,r⟩ ⟨hl2,r2⟩ hu0 fun x y v u v' u' mx my ix iy rv ru=>?_)
     exact IX I n A.in1 x y v u v' u' (by show A.units+1+n<cLine;omega) (qAs.mp (show xs.all (Bx n)=true from fx) x mx) (qAs.mp (show ys.all (Bx n)=true from fy) y my) ix iy rv ru
   |non=>cases ru;exact SeqAt.EqAt.tuple_none t1 hu0
   |bl c=>cases ru;exact SeqAt.EqAt.tuple_bool c t1 hu0
   |int c=>obtain⟨t,rfl⟩:=ru;exact SeqAt.EqAt.tuple_int c t t1 hu0
   |str c=>obtain⟨t,rfl⟩:=ru;exact SeqAt.EqAt.tuple_str c t t1 hu0
   |ty c=>cases fy
   |lst=>cases fy
   |ref=>cases fy
  |non =>
   cases hy with
   |@tup b ws ys hb hl2 r2 =>
    cases ru;cases rv
    obtain⟨its,r1,p1,_⟩:=I.tuple hb
    exact SeqAt.EqAt.none_tuple (show s.heap.IsTuple b its.toArray from p1) hu0
   |ty c=>cases fy
   |lst=>cases fy
   |ref=>cases fy
   |_=>exact flat rfl rfl rfl
  |bl c =>
   cases hy with
   |@tup b ws ys hb hl2 r2 =>
    cases ru;cases rv
    obtain⟨its,r1,p1,_⟩:=I.tuple hb
    exact SeqAt.EqAt.bool_tuple c (show s.heap.IsTuple b its.toArray from p1) hu0
   |ty c=>cases fy
   |lst=>cases fy
   |ref=>cases fy
   |_=>exact flat rfl rfl rfl
  |int c =>
   cases hy with
   |@tup b ws ys hb hl2 r2 =>
    obtain⟨t,rfl⟩:=rv;cases ru
    obtain⟨its,r1,p1,_⟩:=I.tuple hb
    exact SeqAt.EqAt.int_tuple c t (show s.heap.IsTuple b its.toArray from p1) hu0
   |ty c=>cases fy
   |lst=>cases fy
   |ref=>cases fy
   |_=>exact flat rfl rfl rfl
  |str c =>
   cases hy with
   |@tup b ws ys hb hl2 r2 =>
    obtain⟨t,rfl⟩:=rv;cases ru
    obtain⟨its,r1,p1,_⟩:=I.tuple hb
    exact SeqAt.EqAt.str_tuple c t (show s.heap.IsTuple b its.toArray from p1) hu0
   |ty c=>cases fy
   |lst=>cases fy
   |ref=>cases fy
   |_=>exact flat rfl rfl rfl
  |ty c=>cases fx
  |lst=>cases fx
  |ref=>cases fx
def Qk (n:Nat):R3:=fun dx dy R=>match dx,dy with
 |.tup xs,.tup ys=>Bx n (.tup xs)=true∧Bx n (.tup ys)=true∧R (.bl (eqN n (.tup xs) (.tup ys)))
 |_,_=>False
theorem Pn (n:Nat)(hu:X.A.units+n<cLine):DW X (compareOp .Eq) (Qk n):=by
 intro pins s σ H x y v u Q I rx ry h
 obtain⟨z,dx,dy,R,hz,hx,hy,h3,q⟩:=h
 replace hx:=hx.mono hz
 replace hy:=hy.mono hz
 unfold Qk at h3
 split at h3
 ·rename_i xs ys
  obtain⟨fx,fy,h3⟩:=h3
  cases n with
  |zero=>cases fx
  |succ n =>
   obtain⟨a,vs,rfl,ha,ia⟩:=Is.tup_inv hx
   obtain⟨b,ws,rfl,hb,ib⟩:=Is.tup_inv hy
   cases rx
   cases ry
   refine F5 (A:=X.A) (n:=n) I ha hb ia ib () (fun x y v u v' u' mx my ix iy rv ru=>?_) X.prog X.w X.xe _ ⟨.bl _,H,I,rfl,q _ _ ⟨H,z⟩ (Ext.refl hz) (.bl _) h3⟩
   exact IX I n X.A.in1 x y v u v' u' (by show X.A.units+1+n<cLine;omega) (qAs.mp (show xs.all (Bx n)=true from fx) x mx) (qAs.mp (show ys.all (Bx n)=true from fy) y my) ix iy rv ru
 ·exact h3.elim
end
end L3
namespace L3
open PySem PySem.Spec PyProof.Rows L2
theorem Bg.there {P:Program}{w:World}{H:Hp}{h:Heap}{a:Addr}{o:HO}(x:Bg P w H h a o):∃u,h.get? a=some u:=by
 cases o with
 |lst xs=>obtain⟨_,_,_,_,e⟩:=x;exact⟨_,e⟩
 |tup xs=>obtain⟨_,_,_,_,e,_⟩:=x;exact⟨_,e⟩
 |dK kvs=>obtain⟨_,_,_,_,o,_,_,e,_⟩:=x;exact⟨_,e⟩
 |dT kvs=>obtain⟨_,_,_,_,o,_,_,e,_⟩:=x;exact⟨_,e⟩
 |set S n=>obtain⟨o,_,_,_,e,_⟩:=x;exact⟨_,e⟩
 |ins C dx fs=>obtain⟨_,_,_,e,_⟩:=x;exact⟨_,e⟩
 |own y=>obtain⟨_,e⟩:=x;exact⟨_,e⟩
 |xd fs=>obtain⟨_,⟨_,_,_,e,_⟩,_⟩:=x;exact⟨_,e⟩
 |rng lo hi=>obtain⟨_,_,_,e⟩:=x;exact⟨_,e⟩
 |frz ob u=>obtain⟨e,_⟩:=x;exact⟨_,e⟩
 |tbl ps=>obtain⟨_,e,_⟩:=x;exact⟨_,e⟩
 |met f y=>exact⟨_,show h.get? a=some _ from x⟩
 |ext φ=>obtain⟨_,⟨_,e⟩,_⟩:=x;exact⟨_,e⟩
structure Fly (P:Program)(w:World)(l:List Env)(H H':Hp)(h h':Heap)(ea C:Addr)(a0:Value)(B:Heap):Prop where
 fl:Heap.FlyingW B l ea (.ref C) a0 h'
 un:Un (frs l) [] H H' h h'
 hok:HOk P w H' h'
 kb:∀b o,h.get? b=some o→H b=none→b∉frs l→B.get? b=some o
 tr:∀b o,H' b=some o→∃ob,B.get? b=some ob
 old:∀b o,h.get? b=some o→b∉frs l→∃ob,B.get? b=some ob
section
variable {P:Program}{w:World}{l:List Env}{H H':Hp}{h h' h'':Heap}{ea C:Addr}{a0:Value}{B:Heap}
theorem BH {l:List Env}{b:Addr}{B h:Heap}(F:h.FunFrames B l) (hb:b∈frs l):∃o,h.get? b=some o∧∀vs,o.data≠.fields vs:=(F.mem hb).2
theorem Iv {H':Hp}{h' h'':Heap}{B:Heap}(ok:HOk P w H' h') (tr:∀b o,H' b=some o→∃ob,B.get? b=some ob) (s1:B.StaysIn h') (s2:B.StaysIn h''):HOk P w H' h'':=fun a o e=>by
 refine(ok a o e).stay (fun b u hb q=>?_) (fun _ q=>q) fun _ _ q=>q
 have hB:∃ob,B.get? b=some ob:=by
  rcases hb with rfl|hb
  ·exact tr _ _ e
  ·exact tr _ _ hb
 obtain⟨ob,eb⟩:=hB
 have:=s1 b ob eb
 rw[q] at this
 cases this
 exact s2 b _ eb
theorem Fly.to (f:Fly P w l H H' h h' ea C a0 B)(fl:Heap.FlyingW B l ea (.ref C) a0 h'')(u:h'.UpToSlots h''):Fly P w l H H' h h'' ea C a0 B where
 fl:=fl
 un:=by
  refine⟨fun b o e n hb _=>fl.1 b o (f.kb b o e n hb),fun b o e n hb hx=>?_,f.un.free,fun b o e hx=>?_,f.un.tups,f.un.frzs,f.un.tbls⟩
  ·obtain⟨sl,e1⟩:=f.un.slot b o e n hb hx
   obtain⟨o2,e2,d⟩:=BH f.fl.2.2.1 hb
   rw[e1] at e2
   cases e2
   obtain⟨sl2,e3⟩:=u b _ e1 d
   exact⟨sl2,e3⟩
  ·by_cases hb:b∈frs l
   ·obtain⟨o2,e2,d⟩:=BH f.fl.2.2.1 hb
    obtain⟨sl2,e3⟩:=u b _ e2 d
    exact⟨_,e3⟩
   ·obtain⟨ob,eb⟩:=f.old b o e hb
    exact⟨ob,fl.1 b ob eb⟩
 hok:=Iv f.hok f.tr f.fl.1 fl.1
 kb:=f.kb
 tr:=f.tr
 old:=f.old
end
def CXU (P:Program)(w:World):CXT:=fun outer H s E e s'=>∃(ea C:Addr)(a0:Value)(B:Heap)(H':Hp),e=.ref ea∧s'.os=s.os∧AllBare s'.gens∧Fly P w outer H H' s.heap s'.heap ea C a0 B∧E (.ref C) none H'
theorem AB {env:Env}{l:List Env}{L:Addr}(h:env.frame=some L):frs (env::l)=L::frs l:=by
 unfold frs
 rw[qBt,h]
section
variable {X:Cx}{pins:List (Addr×Obj)}{σ:St}{H H':Hp}{s s':Shared}{ea C:Addr}{a0:Value}{B:Heap}{h1:Heap}{vs:List Value}
theorem H0 (I:Inv X pins σ H s)(hst:X.stack=X.env::X.outer)(hf:X.env.frame=some X.env.locals)(hex:X.ex=[])(hx:Heap.MadeExcOf s.heap h1 ea (.ref C) vs){Q:Unit→Shared→Prop}{E:Value→Shared→Prop}
 (hQ:∀(h':Heap)(t:Addr)(B:Heap),Fly X.prog X.w X.outer X.H₀ H X.s₀.heap h' ea C (.ref t) B→Q Unit.unit { s with heap:=h' }) :
 wpAny (model X.prog X.w) X.A (leaving X.env (.ref ea)) Q E { s with heap:=h1 }:=by
 have hfr:X.A.frames=some (X.env::X.outer):=by rw[←hst];exact I.ok.frames
 have hstk:=I.stack
 rw[hst] at hstk
 have hin:∀env∈(X.env::X.outer),∀b,env.frame=some b→b∈frs (X.env::X.outer):=fun env he b hb=>qBe.mpr ⟨env,he,hb⟩
 have hB:∀b o,s.heap.get? b=some o→b∉frs (X.env::X.outer)→(PySem.W.hideAll s.heap (frs (X.env::X.outer))).get? b=some o:=fun b o e hb=>qBs _ e hb
 have ho:∀b o,(PySem.W.hideAll s.heap (frs (X.env::X.outer))).get? b=some o→s.heap.get? b=some o:=fun b o e=>qA5 _ e
 refine wpAny_leaves_madeW (base:=PySem.W.hideAll s.heap (frs (X.env::X.outer))) (h:=s.heap) (s:={ s with heap:=h1 }) hfr hf ho (qCk hstk hin) hx fun h' t fl _ _ up=>?_
 refine hQ h' t (PySem.W.hideAll s.heap (frs (X.env::X.outer))) ?_
 have up0:s.heap.UpToSlots h':=(Heap.UpToSlots.of_keeps hx.keeps).trans up
 have old:∀b o,X.s₀.heap.get? b=some o→b∉frs X.outer→b∉frs (X.env::X.outer):=fun b o e hb hm=>by
  rw[AB hf] at hm
  rcases qAg.mp hm with rfl|hm
  ·exact absurd (qAk (qAh e) I.ok.above) (qAF _)
  ·exact hb hm
 have nex:∀b:Addr,b∉X.ex:=fun b z=>by rw[hex] at z;cases z
 have tfr:∀b o,H b=some o→b∉frs (X.env::X.outer):=fun b o e hm=>by
  have:=I.stkFree b (by rw[hst];exact hm)
  rw[e] at this
  cases this
 have tr:∀b o,H b=some o→∃ob,(PySem.W.hideAll s.heap (frs (X.env::X.outer))).get? b=some ob:=fun b o e=>by
  obtain⟨u,eu⟩:=Bg.there (I.hok b o e)
  exact⟨u,hB b u eu (tfr b o e)⟩
 refine⟨fl,⟨fun b o e n hb _=>?_,fun b o e n hb _=>?_,fun b o e n _=>I.base.free b o e n (nex b),fun b o e _=>?_,I.base.tups,I.base.frzs,I.base.tbls⟩,Iv I.hok tr ho fl.1,fun b o e n hb=>?_,tr,fun b o e hb=>?_⟩
 ·exact fl.1 b o (hB b o (I.base.keep b o e n hb (nex b)) (old b o e hb))
 ·obtain⟨sl,e1⟩:=I.base.slot b o e n hb (nex b)
  obtain⟨o2,e2,d⟩:=BH hstk (by rw[AB hf];exact qAc _ hb)
  rw[e1] at e2
  cases e2
  obtain⟨sl2,e3⟩:=up0 b _ e1 d
  exact⟨sl2,e3⟩
 ·obtain⟨o1,e1⟩:=I.base.there b o e (nex b)
  by_cases hb:b∈frs X.outer
  ·obtain⟨o2,e2,d⟩:=BH hstk (by rw[AB hf];exact qAc _ hb)
   obtain⟨sl2,e3⟩:=up0 b _ e2 d
   exact⟨_,e3⟩
  ·exact⟨o1,fl.1 b o1 (hB b o1 e1 (old b o e hb))⟩
 ·exact hB b o (I.base.keep b o e n hb (nex b)) (old b o e hb)
 ·obtain⟨o1,e1⟩:=I.base.there b o e (nex b)
  exact⟨o1,hB b o1 e1 (old b o e hb)⟩
theorem Lb (I:Inv X pins σ H s)(hst:X.stack=X.env::X.outer)(hf:X.env.frame=some X.env.locals)(hex:X.ex=[])(f:Fly X.prog X.w X.stack H H' s.heap s'.heap ea C a0 B){Q:Unit→Shared→Prop}{E:Value→Shared→Prop}
 (hQ:∀h':Heap,Fly X.prog X.w X.outer X.H₀ H' X.s₀.heap h' ea C a0 B→Q Unit.unit { s' with heap:=h' }):wpAny (model X.prog X.w) X.A (leaving X.env (.ref ea)) Q E s':=by
 have hfr:X.A.frames=some (X.env::X.outer):=by rw[←hst];exact I.ok.frames
 rw[hst] at f
 refine wpAny_leaves_onW hfr hf f.fl fun h' fl up=>hQ h' ?_
 have old:∀b o,X.s₀.heap.get? b=some o→b∉frs X.outer→b∉frs (X.env::X.outer):=fun b o e hb hm=>by
  rw[AB hf] at hm
  rcases qAg.mp hm with rfl|hm
  ·exact absurd (qAk (qAh e) I.ok.above) (qAF _)
  ·exact hb hm
 have nex:∀b:Addr,b∉X.ex:=fun b z=>by rw[hex] at z;cases z
 have up_:∀b,b∈frs X.outer→b∈frs (X.env::X.outer):=fun b hb=>by rw[AB hf];exact qAc _ hb
 have kb:∀b o,X.s₀.heap.get? b=some o→X.H₀ b=none→b∉frs X.outer→B.get? b=some o:=fun b o e n hb =>
  f.kb b o (I.base.keep b o e n hb (nex b)) (I.base.free b o e n (nex b)) (old b o e hb)
 have ol:∀b o,X.s₀.heap.get? b=some o→b∉frs X.outer→∃ob,B.get? b=some ob:=fun b o e hb=>by
  obtain⟨o1,e1⟩:=I.base.there b o e (nex b)
  exact f.old b o1 e1 (old b o e hb)
 refine⟨fl,⟨fun b o e n hb _=>fl.1 b o (kb b o e n hb),fun b o e n hb _=>?_,fun b o e n _=>?_,fun b o e _=>?_,fun b xs e=>f.un.tups b xs (I.base.tups b xs e),fun b o u e=>f.un.frzs b o u (I.base.frzs b o u e),fun b ps e=>?_⟩,Iv f.hok f.tr f.fl.1 fl.1,kb,f.tr,ol⟩
 ·obtain⟨sl,e1⟩:=I.base.slot b o e n hb (nex b)
  obtain⟨sl1,e2⟩:=f.un.slot b _ e1 (I.base.free b o e n (nex b)) (up_ b hb) (by simp)
  obtain⟨o3,e3,d⟩:=BH f.fl.2.2.1 (up_ b hb)
  rw[e2] at e3
  cases e3
  obtain⟨sl2,e4⟩:=up b _ e2 d
  exact⟨sl2,e4⟩
 ·obtain⟨o1,e1⟩:=I.base.there b o e (nex b)
  exact f.un.free b o1 e1 (I.base.free b o e n (nex b)) (by simp)
 ·by_cases hb:b∈frs X.outer
  ·obtain⟨o3,e3,d⟩:=BH f.fl.2.2.1 (up_ b hb)
   obtain⟨sl2,e4⟩:=up b _ e3 d
   exact⟨_,e4⟩
  ·obtain⟨ob,eb⟩:=ol b o e hb
   exact⟨ob,fl.1 b ob eb⟩
 ·obtain⟨m1,e1⟩:=I.base.tbls b ps e
  obtain⟨m2,e2⟩:=f.un.tbls b _ e1
  exact⟨m1++m2,by rw[e2,Array.append_assoc]⟩
theorem Fly.inv (I:Inv X pins σ H s)(f:Fly X.prog X.w X.stack H H' s.heap s'.heap ea C a0 B)(ho:s'.os=s.os)(hg:AllBare s'.gens):Inv X pins σ H' s' :=
 I.call' (ch:=[]) ho f.un f.hok hg (fun b z=>absurd z (by simp))
end
structure ExC (K:PySem.W.Frag)(x:Str)(C:Addr):Prop where
 ns:PySem.W.nsIn K mainGlobals x=some (some (.ref C))
 ex:PySem.W.excIn K C [.type "ValueError",.type "Exception",.type "BaseException",.type "object"] "ValueError.__new__"=true
theorem E6 {K:PySem.W.Frag}{mg:Str→Option Value}{base:Heap}(M:Mod K mg base) (p:Program):∃loose mb,PySem.W.TopRead p loose mg mb base:=by
 obtain⟨o,es,ep,ho,hd,hk,hm⟩:=M.glob
 obtain⟨mb,h1,h2⟩:=M.blt
 refine⟨es.toList.filterMap fun e=>match e.key with|.str x _=>some x|_=>none,mb,M.glob,h1,M.nolimit,h2,fun x _ hx _ _ _=>?_⟩
 rw[←hm x]
 unfold nsFind findBy
 cases q:es.find? (fun e=>e.key.isStr x) with
 |none=>rfl
 |some e =>
  exfalso
  have h3:=Array.find?_some q
  have h4:=Array.mem_of_find?_eq_some q
  apply hx
  rw[qBe]
  refine⟨e,by simpa using h4,?_⟩
  obtain⟨kh,key,val⟩:=e
  cases key with
  |str y t =>
   have h5:(Value.str y t).isStr x=true:=h3
   have h6:y=x:=by simpa [Value.isStr] using h5
   show some y=some x
   rw[h6]
  |_=>cases h3
structure Mz (X:Cx)(U:Str→Prop):Prop where
 raise:∀(pins:List (Addr×Obj))(σ:St)(H:Hp)(s:Shared)(h1:Heap)(ea C:Addr)(x:Str)(vs:List Value),Inv X pins σ H s→AH X.H₀ H→X.mg x=some (.ref C)→U x→Heap.MadeExcOf s.heap h1 ea (.ref C) vs→X.xe (.ref ea) { s with heap:=h1 }
 pass:∀(pins:List (Addr×Obj))(σ:St)(H:Hp)(s:Shared)(e:Value)(s':Shared),Inv X pins σ H s→CXU X.prog X.w X.stack H s (fun cls _ H'=>∃x,X.mg x=some cls∧U x∧AH X.H₀ H') e s'→X.xe e s'
theorem Jd {P:Program}{w:World}{K:PySem.W.Frag}{mg:Str→Option Value}{base:Heap}{N:List Str}{qual:Str}{scope:Scope}{f:Addr}{cd:Value}{A:Around}{outer:List Env}{s:Shared}{H:Hp}{E:XK}{U:Str→Prop}
 (hE:∀x C H',AH H H'→mg x=some (.ref C)→U x→E (.ref C) none H'):Mz (EK (CXU P w) P w K mg base N qual scope f cd A outer s H E) U where
 raise:=fun pins σ H1 s1 h1 ea C x vs I hs hm hu hx=>H0 I rfl rfl rfl hx fun h' t B fl=>⟨ea,C,.ref t,B,H1,rfl,I.os,I.bare,fl,hE x C H1 hs hm hu⟩
 pass:=fun pins σ H1 s1 e s' I h=>by
  obtain⟨ea,C,a0,B,H',rfl,ho,hg,fl,x,hm,hu,hs⟩:=h
  exact Lb I rfl rfl rfl fl fun h' fl'=>⟨ea,C,a0,B,H',rfl,ho.trans I.os,hg,fl',hE x C H' hs hm hu⟩
section
variable {X:Cx}{U:Str→Prop}{e:Expr}{es:List Expr}{te:TE3}{tr:TA3}{pos:Pos}
def Iz (U:Str→Prop)(x:Str)(te:TE3):TS3:=fun _ τ=>te τ fun _=>U x
theorem CC {x:Str}{C:Addr}{np cpos:Pos}(xo:Mz X U) (hc:X.calm=true) (he:PE3 X e te) (hg:Gl X x) (ec:ExC X.K x C) (hm:X.mg x=some (.ref C))
 (hs:starEach [e] X.env=(false,eval e X.env)::starEach [] X.env:=by exact AV rfl) (hplain:(backTo cpos (starEach [e] X.env)).any (·.1)=false:=by exact AR rfl) (hd:(x==("__debug__":Str))=false:=by decide) (hl:X.lent=none:=by rfl) :
 PS3 X (.Raise (some (.Call (.Name x np) [e] [] cpos)) none pos) (Iz U x te):=by
 refine⟨?_⟩
 intro pins s σ H D2 I h
 obtain⟨B,z,τ,D3,r,ht,c⟩:=h
 obtain⟨loose,mb,T⟩:=E6 I.mod X.prog
 obtain⟨tl,N,nm,q,bs,hdct,sn,sub,ab,col,dd,k0,k1,k2,k3,k5,mN,hC,hN,hni,TL⟩:=(qB2 I.mod.kin T ec.ns ec.ex).obj
 refine wpAny_Raise_call_subT (C:=C) (nm:=nm) (q:=q) (N:=N) (bs:=bs) (bm:=tl) (hdct:=hdct) (sn:=sn) (sub:=sub) (ab:=ab) (col:=col) (dd:=dd) (k0:=k0) (k1:=k1) (k2:=k2) (k3:=k3) (k5:=k5)
  qBr (mN:=mN) (TL.hasType PySem.F.excBase_ValueError.hasBase) (I.ok.hd hc) hplain hni (Cv I hg hm ⟨rfl,?_⟩ hd)
 have pa:=(AM he.out BI hs) cpos pins s σ H (fun vs H1=>vs.length=1∧AH X.H₀ H1∧U x) I ⟨B,_,τ,_,r,ht,fun s' v H' e' i' f' h'=>⟨rfl,(r.all hl).trans e'.hh,h'⟩⟩
 rw[hs] at pa ⊢
 refine Calls.evalArgs_plain (thn pa fun us s2 ⟨vs,H2,I2,rv,hl,hsame,hu⟩=>⟨rfl,?_,I2.bk _ _ hC,hN.keeps I2.bk,TL.keeps I2.bk,fun h' ea hx=>?_⟩)
 ·have:=rv.length
  show us.length≤sizeLine
  have z:us.length=1:=()
  rw[z]
  decide
 ·exact xo.raise pins σ H2 s2 h' ea C x us I2 hsame hm hu hx
def F6 (U:Str→Prop)(sp:Sp3)(t:TA3):TE3:=fun τ R=>t τ fun ss=>sp ss R U
theorem IV {k:Nat}{x:Str}{ps:List Str}{sp:Sp3}{p:Pos}(xo:Mz X U) (c:Cal X.prog X.w X.K X.mg X.base (CXU X.prog X.w) k x ps sp) (hr:Dr k X.A) (hg:Gl X x) (ha:PA3 X (e::es) tr)
 (hdb:(x==("__debug__":Str))=false:=by decide) (he:starEach (e::es) X.env=(false,eval e X.env)::starEach es X.env:=by exact AV rfl) (hpl:(backTo pos (starEach es X.env)).any (·.1)=false:=by exact AR rfl) (hl:X.lent=none∨∀y,¬U y:=by first|exact .inl rfl|exact .inr (fun _ z=>z)) :
 PE3 X (.Call (.Name x p) (e::es) [] pos) (F6 U sp tr):=by
 refine⟨?_⟩
 obtain⟨f,fd,F,hm,hk,hb⟩:=c.ex
 refine Ax (GB (E:=fun cls _ H'=>∃y,X.mg y=some cls∧U y∧AH X.H₀ H') F hr hg hm hk hb .nil (fun pins σ H s e s' I h=>xo.pass pins σ H s e s' I h) ha.out hdb he hpl) fun σ H Q ⟨B,z,τ,R,r,ht,q⟩=>⟨B,_,τ,_,r,ht,fun ss vs H1 e1 i1 h1=>?_⟩
 show Ak X.K X.mg sp (vs++[]) H1.h Q _
 rw[qAZ]
 exact⟨H1.z,ss,R,U,e1.sub,i1,h1,fun s v H2 e2 i2 f2 h2=>q s v H2 (e1.trans e2) i2 (EB e1 f2) h2,fun y C H2 e2 hy hu=>⟨y,hy,hu,hl.elim (fun hl=>(r.all hl).trans (e1.hh.trans e2)) (fun hn=>(hn y hu).elim)⟩⟩
end
section
variable {P:Program}{w:World}{K:PySem.W.Frag}{mg:Str→Option Value}{base:Heap}
theorem fnU {x qual:Str}{st:Stmt}{f:Addr}{fd:FuncData}{N ps:List Str}{k:Nat}{sp:Sp3}(F:Fun K x qual st f fd) (Sc:Ah N ps (Ab st)) (len:∀ss R U,sp ss R U→ss.length=ps.length)
 (hbody:∀(cdv:Value)(A:Around)(outer:List Env)(s:Shared)(H:Hp)(E:XK)(ss:List S)(R:S→Prop)(U:Str→Prop),Dr k (A.deeper (envOfC qual (Ab st) s.heap.objs.size f cdv))→sp ss R U →
  Mz (EK (CXU P w) P w K mg base N qual (Ab st) f cdv A outer s H E) U →
  ∃t,DJ (EK (CXU P w) P w K mg base N qual (Ab st) f cdv A outer s H E) (Bf st) t∧t { nx:=fun _=>R (.d .non),rt:=R } (Cq N ss)):AS P w K mg base (CXU P w) (k+1) f fd ps (Ak K mg sp):=by
 obtain⟨oc,od,kV,doc,pm,an,cdv,ct,osl,rfl,lk,hcd⟩:=F.ex
 refine Kq lk hcd Sc (fun vs H Q E hh=>by obtain⟨z,ss,R,U,hz,ha,h3,_⟩:=hh;exact ha.1.trans (len ss R U h3)) fun A outer s H vs Q E hr hh9=>?_
 obtain⟨z,ss,R,U,hz,ha,h3,q,qe⟩:=hh9
 obtain⟨t,ht,hq⟩:=hbody cdv A outer s H E ss R U hr h3 (Jd qe)
 exact⟨_,ht.out,⟨H,z⟩,z,Cq N ss,_,Dc ha hz (AH.refl H),hq,⟨fun τ σ p r h=>q (.d .non) _ p r.ext Is.non Ce h,fun _ _ _ _ z=>z.elim,fun _ _ _ _ z=>z.elim,fun s v p e i f h=>q s v p e i f h⟩⟩
theorem AS.anyCX {CX:CXT}{k:Nat}{f:Addr}{fd:FuncData}{ps:List Str}{sp:Sp}(F:AS P w K mg base CX0 k f fd ps sp):AS P w K mg base CX k f fd ps sp :=
 ⟨F.len,fun A outer s H args us vs Q E hr h0 hb hv hs=>codeAny_mono (F.run A outer s H args us vs Q E hr h0 hb hv hs) fun r s' h=>by
  cases r with
  |error e=>exact(show False from h).elim
  |ok fl=>cases fl<;>exact h⟩
end
section
variable {K:PySem.W.Frag}{M:Model}{A:Around}{E:Value→Shared→Prop}{s:Shared}
structure HnC (K:PySem.W.Frag)(C:Addr):Prop where
 nt:PySem.W.instIn K (.ref C) (.type "tuple")=some false
 ty:(PySem.W.clsIn K C).isSome=true
 sb:PySem.W.mroIn K C (.type "BaseException")=some true
theorem DL {h:Heap}{C:Addr}(X:K.In h) (hc:(PySem.W.clsIn K C).isSome=true):PySem.W.Looks M h (isType (.ref C)) true:=by
 obtain⟨cd,e⟩:=qBw.mp hc
 unfold PySem.W.clsIn at e
 split at e
 ·rename_i c' d' cd' sl' ho
  intro A' Q' E' s' k q
  unfold isType loadHead
  exact wpAny_bind (wpAny_loadPart (k _ _ (X _ _ ho)) (wpAny_pure q))
 ·cases e
theorem FQ {ea C Cx:Addr}{oe:Obj}{b:Bool}{Q:Bool→Shared→Prop}(X:K.In s.heap) (hn:HnC K Cx) (he:s.heap.get? ea=some oe) (hcls:oe.cls=.ref C) (hb:PySem.W.mroIn K C (.ref Cx)=some b) (q:Q b s) :
 wpAny M A (excMatches (.ref ea) (.ref Cx)) Q E s:=by
 have L1:=PySem.W.looks_instIn (M:=M) X hn.nt
 have L2:=DL (M:=M) X hn.ty
 have L3:=qA2 (M:=M) X hn.sb
 have L4:=qA2 (M:=M) X hb
 have L5:PySem.W.Looks M s.heap (typeOf (.ref ea)) (.ref C):=hcls ▸ (PySem.W.Looks.ld he).andThen .now
 unfold excMatches isExcClass
 refine wpAny_bind (L1.at ?_)
 simp only[qBf,if_false,pure_bind,qBv,List.forIn_nil,bind_assoc]
 refine wpAny_bind (L2.at ?_)
 simp only[if_true]
 refine wpAny_bind (L3.at ?_)
 simp only[Bool.not_true,qBf,if_false,pure_bind]
 refine wpAny_bind (L5.at ?_)
 refine wpAny_bind (L4.at ?_)
 cases b with
 |true=>simp only[if_true,pure_bind];exact wpAny_pure q
 |false=>simp only[qBf,if_false,pure_bind];exact wpAny_pure q
end
def hnd (X:Cx)(ea:Addr):Cx:={ X with A:=X.A.mark (some (.ref ea)),calm:=false }
section
variable {X:Cx}{pins:List (Addr×Obj)}{σ:St}{H H':Hp}{s s':Shared}{ea C:Addr}{a0:Value}{B:Heap}
theorem IL (I:Inv X pins σ H s)(ea:Addr):Inv (hnd X ea) pins σ H s :=
 ⟨⟨I.ok.mod,I.ok.kind,I.ok.glob,I.ok.blt,I.ok.above,I.ok.inj,I.ok.has,I.ok.cab,(fun z=>by cases z),I.ok.frames,I.ok.stk,I.ok.exf,I.ok.bs,I.ok.bsz,I.ok.noex,I.ok.exfs,I.ok.funs,I.ok.frf,I.ok.tb⟩,I.os,I.bare,I.base,I.loc,I.cell,I.free,I.freeC,I.pin,I.hok,I.len⟩
theorem IG {CX:CXT}{k:Nat}{f:Addr}{fd:FuncData}{ps:List Str}{sp:Sp}{Ex:XK}{EE:Value→Shared→Prop}{x:Str}{p pos:Pos}{e:Expr}{es:List Expr}{t:TA}{Q:VK}(F:AS X.prog X.w X.K X.mg X.base CX k f fd ps sp) (hr:Dr k X.A) (hg:Gl X x) (hm:X.mg x=some (.ref f))
 (hk:PySem.W.keepIn X.K (.ref f)=true) (hb:L2.Binds X.K fd ps []) (ha:PA X (e::es) t) (hno:∀e s,X.xe e s→EE e s) (I:Inv X pins σ H s)
 (hx:∀(H1:Hp)(s1:Shared)(e:Value)(s':Shared),Inv X pins σ H1 s1→CX X.stack H1 s1 Ex e s'→EE e s') (h:t σ H fun vs H1=>sp vs H1 Q Ex)
 (hdb:(x==("__debug__":Str))=false) (he:starEach (e::es) X.env=(false,eval e X.env)::starEach es X.env) (hpl:(backTo pos (starEach es X.env)).any (·.1)=false) :
 wpAny (model X.prog X.w) X.A (eval (.Call (.Name x p) (e::es) [] pos) X.env) (EP X pins σ Q) EE s:=by
 refine wpAny_Call_Name_kw (Cv I hg hm ?_ hdb)
 refine qBX (h₀:=X.base) I.ok.mod.kin hk (wpAny_mono (ha pos pins s σ H _ I h) (fun us s1 ⟨vs,H1,I1,r,q⟩=>⟨I1.kIn,?_⟩) hno) he hpl
 have hl:(us++([]:List Value)).length=ps.length:=by rw[qAZ,←r.length];exact F.len _ _ _ _ q
 have bb:=hb s1 us I1.kIn hl
 rw[qAZ] at bb
 refine wpAny_call (codeAny_mono (F.run X.A X.stack s1 H1 ⟨us,[]⟩ us vs Q Ex hr I1.env0 bb r q) fun r s' hq=>?_)
 cases r with
 |error e=>exact hx H1 s1 e s' I1 hq
 |ok fl =>
  cases fl with
  |ret u=>exact I1.after hq
  |next=>exact False.elim hq
  |brk=>exact False.elim hq
  |cont=>exact False.elim hq
end
section
variable {X:Cx}{e:Expr}{es:List Expr}{tr:TA3}{th:TS3}
end
end L3
namespace L3
open PySem PySem.Spec PyProof.Rows L2
theorem MH {X:Cx}:Mz X NoU where
 raise:=fun _ _ _ _ _ _ _ _ _ _ _ _ hu=>hu.elim
 pass:=fun _ _ _ _ _ _ _ h=>by
  obtain⟨_,_,_,_,_,_,_,_,_,_,_,hu,_⟩:=h
  exact hu.elim
section
variable {prog:Program}{w:World}{A:Around}{E:Value→Shared→Prop}{s:Shared}{K:PySem.W.Frag}{x D:Addr}
structure ExI (K:PySem.W.Frag)(D:Addr):Prop where
 ga:PySem.W.findIn K (.ref D) "__getattribute__"=some (some (.builtin "BaseException.__getattribute__"))
 gt:PySem.W.findIn K (.ref D) "__getattr__"=some none
 cl:(PySem.W.clsIn K D).isSome=true
 fc:PySem.W.findIn K (.ref D) "__class__"=some (some (.builtin "object.__class__"))
 sp:PySem.W.specialIn K (.builtin "object.__class__") "__get__"=some (some (.builtin "getset_descriptor.__get__"))
 tk:PySem.W.takesIn K (.builtin "object.__class__")=some true
 mo:PySem.W.mroIn K D (.type "object")=some true
 mb:PySem.W.mroIn K D (.type "BaseException")=some true
def At (h:Heap)(x C:Addr):Prop:=∃ox,h.get? x=some ox∧ox.cls=.ref C
theorem At.type {M:Model}{h:Heap}(I:At h x D):PySem.W.Looks M h (typeOf (.ref x)) (.ref D):=by
 obtain⟨ox,h1,h2⟩:=I
 exact h2 ▸ (PySem.W.Looks.ld h1).andThen .now
open PySem.W Builtin Builtin.ObjectAttr Builtin.Getset_descriptor in
theorem Hz {tp:Value}{R:Result→Shared→Prop}(X:K.In s.heap) (I:At s.heap x D) (hm:PySem.W.mroIn K D (.type "object")=some true)
 (h:R (.ok (.ret (.ref D))) s):codeAny (model prog w) A (.call (.builtin "getset_descriptor.__get__") ⟨[.builtin "object.__class__",.ref x,tp],[]⟩) R s:=by
 obtain⟨hh,g,dr,t,os⟩:=s
 have L0:=I.type (M:=model prog w)
 have L1:=qA2 (M:=model prog w) X hm
 refine codeAny_call_builtin KF.slot_gs.plain KF.entry_gs (KF.slot_gs.check _ _ _ _ _ _ _ _ KF.type_class (KF.args_gs _ _ _) ?_)
 unfold Builtin.«getset_descriptor.__get__» descrGet
 rw[dga_obj]
 refine wpAny_bind (wpAny_pure ?_)
 unfold descrGetter descrCheckInstance descrNameAndClass isInstance
 simp only[KF.owner_class]
 repeat lk
 refine⟨Code.quiet_builtin _ (by decide +kernel),codeAny_builtin KF.entry_class ?_⟩
 unfold Builtin.«object.__class__» shownTypeOf
 repeat lk
 exact h
open PySem.W in
theorem JK {tk:Tok}{Q:Fin→Shared→Prop}(i:ExI K D) (X:K.In s.heap) (I:At s.heap x D) (hq:Q (.done (.ret (.ref D))) s) :
 wpAny (model prog w) A (Builtin.«object.__getattribute__» ⟨[.ref x,.str "__class__" tk],[]⟩) Q E s:=by
 obtain⟨hh,g,d,t,os⟩:=s
 have L0:=I.type (M:=model prog w)
 have M1:=qBR (M:=model prog w) X i.fc
 have M2:PySem.W.Looks (model prog w) hh (Builtin.ObjectAttr.getOf (some (.builtin "object.__class__"))) (some (.builtin "getset_descriptor.__get__")):=PySem.W.looks_specialIn X i.sp
 have M3:=PySem.W.looks_takesIn (M:=model prog w) X i.tk
 have L1:PySem.W.Looks (model prog w) hh (Builtin.ObjectAttr.find (.ref x) (.ref D) "__class__") (.bind (.builtin "getset_descriptor.__get__") (.builtin "object.__class__")) :=
  M1.andThen (M2.andThen ((show PySem.W.Looks (model prog w) hh (Builtin.ObjectAttr.dataDescriptor? (some (.builtin "object.__class__")) (some (.builtin "getset_descriptor.__get__"))) (some (_,_)) from M3.andThen .now).andThen (PySem.W.Looks.tag .now)))
 refine wpAny_bind (wpAny_pure (wpAny_bind (wpAny_pure (wpAny_bind (L0.at (wpAny_bind (L1.at ?_)))))))
 show wpAny _ _ (holding [.builtin "object.__class__"] (call (.builtin "getset_descriptor.__get__") [.builtin "object.__class__",.ref x,.ref D]) >>= ret) _ _ _
 refine wpAny_bind (wpAny_holding (wpAny_call (Hz X I i.mo ?_)))
 exact wpAny_pure hq
theorem Mq (v:Value):bindSpecial (.builtin "BaseException.__getattribute__") v=pure (.builtin "BaseException.__getattribute__",[v]):=PySem.F.excAttr_ValueError.ga.bind v
theorem JA {Q:Option Value→Shared→Prop}(i:ExI K D) (X:K.In s.heap) (I:At s.heap x D) (h:Q (some (.ref D)) { s with toks:=s.toks+1 }):wpAny (model prog w) A (getAttr? (.ref x) "__class__") Q E s:=by
 obtain⟨hh,g,d,t,os⟩:=s
 have L0:=I.type (M:=model prog w)
 have L1:=qBR (M:=model prog w) X i.ga
 have L2:=qBR (M:=model prog w) X i.gt
 have L3:=qA2 (M:=model prog w) X i.mb
 have hx2:(Value.builtin "BaseException.__getattribute__" == Value.builtin "object.__getattribute__")=false:=by decide +kernel
 unfold getAttr? getAttrBy? getAttrBy
 refine wpAny_bind (wpAny_mkText (wpAny_bind (wpAny_attempt (wpAny_holding (wpAny_bind (L0.at (wpAny_bind (L1.at ?_))))))))
 dsimp only
 rw[hx2,Bool.and_false,if_neg qAf]
 unfold getAttrByItsOwn hookBefore
 refine wpAny_bind ?_
 rw[if_pos (by rfl)]
 refine L2.at ?_
 refine wpAny_bind (wpAny_attempt (wpAny_holding ?_))
 unfold callGetattribute
 rw[Bool.false_and,if_neg qAf]
 unfold boundAndCalled
 rw[Mq]
 refine wpAny_bind (wpAny_pure ?_)
 dsimp only
 refine wpAny_call (codeAny_call_builtin PySem.F.excAttr_ValueError.ga.plain PySem.F.entry_bexc_ga ?_)
 have hk:builtinKind "BaseException.__getattribute__"=some .slot:=by decide +kernel
 have hsplit:splitId "BaseException.__getattribute__"=some ("BaseException","__getattribute__"):=by decide +kernel
 have ha:=F.args_bexc_ga (.ref x) (.str "__class__" t)
 simp only[checkBuiltinCall,hk,hsplit]
 refine wpAny_bind ((L0.andThen L3).at ?_)
 unfold argsOk at ha
 simp only[Bool.not_true,qBf,if_false,qBG,qCa]
 first|rw[ha]|skip
 refine wpAny_pure ?_
 refine JK i X I ?_
 exact wpAny_pure (wpAny_pure h)
theorem Kh (i:ExI K D):PySem.W.KitX K (.ref x) (.ref D) (fun h=>At h x D) where
 ty:=fun _ _ _ I=>I.type
 it:=fun _ _ X _=>DL X i.cl
 ne:=fun h tp dd its n sl X htp=>by
  obtain⟨cd,hc⟩:=qBw.mp i.cl
  refine Bool.eq_false_iff.mpr fun q=>?_
  have e:D=tp:=Value.ref.inj (beq_iff_eq.mp q)
  subst e
  unfold PySem.W.clsIn at hc
  split at hc
  ·rename_i c' d' cd' sl' ho
   have z:=(X _ _ ho).symm.trans htp
   cases z
  ·cases hc
 ca:=fun X I k=>JA i X I k
end
def DI (X:Cx)(ea:Addr)(oe:Obj):Cx:={ X with A:=X.A.mark (some (.ref ea)),calm:=false,pn:=(ea,oe)::X.pn }
section
variable {X:Cx}{pins:List (Addr×Obj)}{σ:St}{H H':Hp}{s s':Shared}{ea C:Addr}{oe:Obj}{a0:Value}{B:Heap}
theorem G2 (I:Inv X pins σ H s)(hp:s.heap.get? ea=some oe∧H ea=none∧ea≠X.env.locals∧ea∉X.fs∧∀v,oe.data≠.cell v):Inv (DI X ea oe) pins σ H s :=
 ⟨⟨I.ok.mod,I.ok.kind,I.ok.glob,I.ok.blt,I.ok.above,I.ok.inj,I.ok.has,I.ok.cab,(fun z=>by cases z),I.ok.frames,I.ok.stk,I.ok.exf,I.ok.bs,I.ok.bsz,I.ok.noex,I.ok.exfs,I.ok.funs,I.ok.frf,I.ok.tb⟩,I.os,I.bare,I.base,I.loc,I.cell,I.free,I.freeC,fun p hq=>by
  rcases qAg.mp (show p∈(ea,oe)::(X.pn++pins) from hq) with rfl|hq
  ·exact hp
  ·exact I.pin p hq,I.hok,I.len⟩
theorem DD (hd:X.calm=true→X.A.handled=none)(hfm:X.A.frames=some X.stack)(I:Inv (DI X ea oe) pins σ H s):Inv X pins σ H s :=
 ⟨⟨I.ok.mod,I.ok.kind,I.ok.glob,I.ok.blt,I.ok.above,I.ok.inj,I.ok.has,I.ok.cab,hd,hfm,I.ok.stk,I.ok.exf,I.ok.bs,I.ok.bsz,I.ok.noex,I.ok.exfs,I.ok.funs,I.ok.frf,I.ok.tb⟩,I.os,I.bare,I.base,I.loc,I.cell,I.free,I.freeC,fun p hq=>I.pin p (qAc _ hq),I.hok,I.len⟩
theorem Hk {B p:HZ}{τ:Tau}(r:Rep X B τ σ p):Rep (DI X ea oe) B τ σ p:=⟨r.len,r.ext,r.val,r.own,r.sep,r.top,r.pin⟩
theorem JM {A:Around}{E:Value→Shared→Prop}{n:Str}{pos:Pos}{Q:Unit→Shared→Prop}(I:Inv X pins σ H s) (hl:X.env.kindOf n=some .local) (h:∀s',Inv X pins (List.replicate σ.length none) H s'→Q Unit.unit s') :
 wpAny (model X.prog X.w) A (do bindName X.env n .none;unbindBehindTheSuite X.env n pos) Q E s:=by
 obtain⟨m,hn,hv⟩:=id I.loc
 have hcls:(X.env.scope.kind == .class||(X.env.scope.kind == .module&&X.env.locals != X.env.globals))=false:=by rw[I.ok.kind];rfl
 have cne:=I.cne
 obtain⟨oL,_,_,hoL,_⟩:=id hn
 refine wpAny_nameGoes hl hn hcls fun h' m' hn' hs=>h _ ?_
 have tracked:HOk X.prog X.w H h':=fun b ob e=>by
  refine(I.hok b ob e).stay (fun c w' hc q=>(hs.2 c ?_).trans q) (fun _ q=>q) fun _ _ q=>q
  rintro rfl
  rcases hc with rfl|hc
  ·rw[I.free] at e;cases e
  ·rw[I.free] at hc;cases hc
 refine⟨I.ok,I.os,I.bare,⟨fun b o e n hb hx=>?_,fun b o e n hb hx=>?_,I.base.free,fun b o e hx=>?_,I.base.tups,I.base.frzs,I.base.tbls⟩,⟨_,hn',fun j y v' e1 e2 e3=>?_⟩,fun y c e=>?_,I.free,I.freeC,fun p hp=>?_,tracked,by rw[qCl];exact I.len⟩
 ·exact(hs.2 b (qAu (qAk (qAh e) I.ok.above))).trans (I.base.keep b o e n hb hx)
 ·obtain⟨sl,e1⟩:=I.base.slot b o e n hb hx
  exact⟨sl,(hs.2 b (qAu (qAk (qAh e) I.ok.above))).trans e1⟩
 ·obtain⟨o',e1⟩:=I.base.there b o e hx
  exact⟨o',(hs.2 b (qAu (qAk (qAh e) I.ok.above))).trans e1⟩
 ·rw[qBC] at e2
  split at e2<;>cases e2
 ·obtain⟨w',z⟩:=I.cell y c e
  exact⟨w',z.sameBut hs (cne y c e)⟩
 ·obtain⟨e,n,ne,nf,d⟩:=I.pin p hp
  exact⟨(hs.2 p.1 ne).trans e,n,ne,nf,d⟩
structure ExO (oe:Obj)(C:Addr):Prop where
 cls:oe.cls=.ref C
theorem Kg {E:Value→Shared→Prop}{Q:Flow→Shared→Prop}{x n:Str}{i:Nat}{Cx:Addr}{np hp:Pos}{b0:Stmt}{suite:List Stmt}{rest:List ExceptHandler}(I:Inv X pins σ H s) (hst:X.stack=X.env::X.outer) (hf:X.env.frame=some X.env.locals)
 (fl:Fly X.prog X.w X.stack H H' s.heap s'.heap ea C a0 B) (ho:s'.os=s.os) (hg:AllBare s'.gens) (hgx:Gl X x) (hm:X.mg x=some (.ref Cx)) (hn:HnC X.K Cx) (hb:PySem.W.mroIn X.K C (.ref Cx)=some true) (hd:(x==("__debug__":Str))=false)
 (hN:X.N.Nodup) (hi:X.N[i]? = some n) (hx:Loc X.env.scope n) (hfn:X.fn n=true∨X.env.scope.names.lookup n=some .local)
 (go:∀(s2:Shared)(oe:Obj),ExO oe C→Inv (DI X ea oe) pins (σ.set i (some (.ref ea))) H' s2→wpAny (model X.prog X.w) (X.A.mark (some (.ref ea))) (execs (b0::suite) X.env) (fun f s4=>wpAny (model X.prog X.w) X.A (do bindName X.env n .none;unbindBehindTheSuite X.env n hp) (fun _ s5=>Q f s5) E s4) (fun _ _=>False) s2) :
 wpAny (model X.prog X.w) X.A (noteFrame (.ref ea) X.env) (fun _ s₂=>wpAny (model X.prog X.w) X.A (setFlight (.ref ea) none) (fun _ s₃ =>
  wpAny (model X.prog X.w) X.A (handleBy (.ref ea) X.env (.ExceptHandler (some (.Name x np)) (some n) (b0::suite) hp::rest)) Q E s₃) E s₂) E s':=by
 have hfr:X.A.frames=some (X.env::X.outer):=by rw[←hst];exact I.ok.frames
 have fl0:=fl.fl
 rw[hst] at fl0
 refine wpAny_looks_onW hfr hf fl0 fun h4 held up4=>?_
 refine wpAny_landsW held fun h5 fl5 up5=>?_
 rw[←hst] at fl5
 have f5:=fl.to fl5 (up4.trans up5)
 have I5:Inv X pins σ H' { s' with heap:=h5 }:=Fly.inv (s':={ s' with heap:=h5 }) I f5 ho hg
 refine wpAny_handleBy_cons (codeAny_handlers_test (Cv (X:=hnd X ea) (IL I5 ea) hgx hm ?_ hd)) (by intro q;cases q)
 obtain⟨oe,he,hc⟩:=f5.fl.there
 refine FQ (s:={ s' with heap:=h5 }) I5.kIn hn he hc hb ?_
 refine codeAny_handlers_suite_as ?_
 refine lands_againW (s:={ s' with heap:=h5 }) f5.fl fun h6 fl6 up6=>?_
 have f6:=f5.to fl6 up6
 have I6:Inv X pins σ H' { s' with heap:=h6 }:=Fly.inv (s':={ s' with heap:=h6 }) I f6 ho hg
 obtain⟨oe6,vs6,he6,hc6,hd6,_⟩:=f6.fl.first
 have noF:∀b,b∈frs X.stack→ea≠b:=fun b hbm z=>by
  obtain⟨o,h1,h2⟩:=BH f6.fl.2.2.1 hbm
  rw[←z,he6] at h1
  cases h1
  exact h2 _ hd6
 have hnone:H' ea=none:=by
  cases e:H' ea with
  |none=>rfl
  |some o =>
   obtain⟨ob,eb⟩:=f6.tr _ _ e
   have:=f6.fl.2.1
   rw[eb] at this
   cases this
 have IE:Inv (DI X ea oe6) pins σ H' { s' with heap:=h6 }:=G2 I6 ⟨he6,hnone,noF _ (by rw[hst,AB hf];exact qAe),fun z=>noF _ (by rw[hst,AB hf];exact qAc _ z) rfl,fun v z=>by rw[hd6] at z;cases z⟩
 refine CM (X:=DI X ea oe6) (v:=.ref ea) IE hN hi hx rfl (fun s7 I7=>?_) hfn
 exact wpAny_mono (go s7 oe6 ⟨hc6⟩ I7) (fun f s4 h=>h) fun _ _ z=>z.elim
theorem KU {c:Value}{cv:V}{b:Bool}(hO:ExO oe C) (i:ExI X.K C) (rc:Bi cv c) (hc:∀u,Bi cv u→u=c) (hk:PySem.W.kitOne X.K (.ref C) c=some b):Cd (DI X ea oe) (.builtin "isinstance") (fun xs H Q=>xs=[.ref ea,cv]∧Q (.bl b) H):=by
 intro pins s σ H xs us Q I rs h
 obtain⟨rfl,q⟩:=h
 obtain⟨v',u',rfl,r1,r2⟩:=Nt rs
 cases r1
 cases hc _ r2
 have hp:=I.pin (ea,oe) (qAP _ qAe)
 exact qAD (Kh i) I.kIn ⟨oe,hp.1,hO.cls⟩ hk (fun z=>nomatch z) fun tk=>⟨.bl b,H,I.tok tk,rfl,q⟩
end
section
variable {X:Cx}{ea C:Addr}{oe:Obj}
def O4 (i:Nat)(ea:Addr)(b:Bool):TE3:=fun τ R=>τ[i]? = some (some (.d (.ref ea)))∧R (.d (.bl b))
theorem Lv {i:Nat}{n y:Str}{p p1 p2 pos:Pos}{c:Value}{cv:V}{b:Bool}(hO:ExO oe C) (hi:ExI X.K C) (rc:Bi cv c) (hc:∀u,Bi cv u→u=c) (hk:PySem.W.kitOne X.K (.ref C) c=some b)
 (hv:PE (DI X ea oe) (.Name n p1) (KG i)) (hcl:PE (DI X ea oe) (.Name y p2) (tC cv)) (hg:Gl X "isinstance") (hm:X.mg "isinstance"=none)
 (he:starEach [.Name n p1,.Name y p2] X.env=(false,eval (.Name n p1) X.env)::starEach [.Name y p2] X.env:=by exact AV rfl) (he2:starEach [.Name y p2] X.env=(false,eval (.Name y p2) X.env)::starEach [] X.env:=by exact AV rfl) (hpl:(backTo pos (starEach [.Name y p2] X.env)).any (·.1)=false:=by exact AR rfl) :
 PE3 (DI X ea oe) (.Call (.Name "isinstance" p) [.Name n p1,.Name y p2] [] pos) (O4 i ea b):=⟨Ax (E8 (KU hO hi rc hc hk) hg hm qBW (AM hv (AM hcl BI he2) he) (he:=he) (hpl:=hpl)) fun σ H Q ⟨B,z,τ,R,r,⟨ht,hR⟩,q⟩=>by
 obtain⟨v,h1,h2⟩:=r.val i _ ht
 cases h2
 exact⟨.ref ea,h1,rfl,q (.d _) _ ⟨H,z⟩ (Ext.refl r.ext.sub) (Is.bl _) Ce hR⟩⟩
theorem Fq {i:Nat}{n y:Str}{p p1 p2 pos:Pos}{Cy:Addr}{b:Bool}(hO:ExO oe C) (hi:ExI X.K C) (hk:PySem.W.kitOne X.K (.ref C) (.ref Cy)=some b)
 (hv:PE (DI X ea oe) (.Name n p1) (KG i)) (hgy:Gl X y) (hmy:X.mg y=some (.ref Cy)) (hg:Gl X "isinstance") (hm:X.mg "isinstance"=none) (hd:(y==("__debug__":Str))=false:=by decide)
 (he:starEach [.Name n p1,.Name y p2] X.env=(false,eval (.Name n p1) X.env)::starEach [.Name y p2] X.env:=by exact AV rfl) (he2:starEach [.Name y p2] X.env=(false,eval (.Name y p2) X.env)::starEach [] X.env:=by exact AV rfl) (hpl:(backTo pos (starEach [.Name y p2] X.env)).any (·.1)=false:=by exact AR rfl) :
 PE3 (DI X ea oe) (.Call (.Name "isinstance" p) [.Name n p1,.Name y p2] [] pos) (O4 i ea b) :=
 Lv (cv:=.ref Cy) hO hi rfl (fun u z=>z) hk hv (IZ (X:=DI X ea oe) hgy hmy rfl hd) hg hm he he2 hpl
theorem NM {i:Nat}{n y:Str}{p p1 p2 pos:Pos}{T:String}{b:Bool}(hO:ExO oe C) (hi:ExI X.K C) (hk:PySem.W.kitOne X.K (.ref C) (.type T)=some b)
 (hv:PE (DI X ea oe) (.Name n p1) (KG i)) (hgy:Gl X y) (hmy:X.mg y=none) (hby:bootBuiltins y=some (.type T)) (hg:Gl X "isinstance") (hm:X.mg "isinstance"=none) (hn:y≠"__name__":=by decide) (hd:(y==("__debug__":Str))=false:=by decide)
 (he:starEach [.Name n p1,.Name y p2] X.env=(false,eval (.Name n p1) X.env)::starEach [.Name y p2] X.env:=by exact AV rfl) (he2:starEach [.Name y p2] X.env=(false,eval (.Name y p2) X.env)::starEach [] X.env:=by exact AV rfl) (hpl:(backTo pos (starEach [.Name y p2] X.env)).any (·.1)=false:=by exact AR rfl) :
 PE3 (DI X ea oe) (.Call (.Name "isinstance" p) [.Name n p1,.Name y p2] [] pos) (O4 i ea b) :=
 Lv (cv:=.ty T) hO hi rfl (fun u z=>z) hk hv (Ih (X:=DI X ea oe) (v:=.ty T) hgy hmy hby rfl hn hd) hg hm he he2 hpl
variable {e:Expr}{es:List Expr}{tr:TA3}
def OC (i:Nat)(sp:Sp3)(ok:Str→Prop)(tr:TA3)(th:Addr→Str→TS3):TS3:=fun D3 τ=>tr τ fun ss=>sp ss (fun _=>D3.nx τ) (fun y=>ok y∧∀ea,th ea y { nx:=fun _=>False,rt:=D3.rt } (τ.set i (some (.d (.ref ea)))))
theorem OE {k i:Nat}{n f cx:Str}{ps:List Str}{sp:Sp3}{Cx:Addr}{ok:Str→Prop}{th:Addr→Str→TS3}{pf pc pa np hp pt:Pos}{b0:Stmt}{suite:List Stmt}(hst:X.stack=X.env::X.outer) (hf:X.env.frame=some X.env.locals) (hno:∀e s,¬X.xe e s)
 (c:Cal X.prog X.w X.K X.mg X.base (CXU X.prog X.w) k f ps sp) (hr:Dr k X.A) (hg:Gl X f) (ha:PA3 X (e::es) tr) (hN:X.N.Nodup) (hi:X.N[i]? = some n) (hx:Loc X.env.scope n) (hkl:X.env.kindOf n=some .local)
 (hgx:Gl X cx) (hm:X.mg cx=some (.ref Cx)) (hn:HnC X.K Cx) (hok:∀y C,ok y→X.mg y=some (.ref C)→PySem.W.mroIn X.K C (.ref Cx)=some true) (hh:∀ea oe y C,ok y→X.mg y=some (.ref C)→ExO oe C→DJ (DI X ea oe) (b0::suite) (th ea y))
 (hdb:(f==("__debug__":Str))=false:=by decide) (hd:(cx==("__debug__":Str))=false:=by decide) (he:starEach (e::es) X.env=(false,eval e X.env)::starEach es X.env:=by exact AV rfl) (hpl:(backTo pc (starEach es X.env)).any (·.1)=false:=by exact AR rfl)
 (hs:swapsWith (.Call (.Name f pf) (e::es) [] pc) none pa.line X.env=pure false:=by rfl) (hfn:X.fn n=true∨X.env.scope.names.lookup n=some .local:=by first|exact .inl rfl|exact .inr rfl|assumption) (hpn:DH X i:=by first|exact CU rfl|exact pin_ne rfl ∅|assumption) :
 PS3 X (.Try [.Expr (.Call (.Name f pf) (e::es) [] pc) pa] [.ExceptHandler (some (.Name cx np)) (some n) (b0::suite) hp] [] [] pt) (OC i sp ok tr th):=by
 refine⟨?_⟩
 obtain⟨fa,fd,F,hmf,hk,hb⟩:=c.ex
 intro pins s σ H D2 I h
 obtain⟨B,z,τ,D3,r,ht,ct⟩:=h
 refine wpAny_Try_except (wpAny_execs_cons (wpAny_Expr_any (thn (IG (Ex:=fun cls _ H'=>∃y,X.mg y=some cls∧(ok y∧∀ea,th ea y { nx:=fun _=>False,rt:=D3.rt } (τ.set i (some (.d (.ref ea)))))∧AH H H') (Q:=fun v H'=>D2.nx σ H') F hr hg hmf hk hb ha.out (fun e s z=>(hno e s z).elim) I ?hx ?h hdb he hpl) fun v s1 ⟨y,H1,I1,r1,q1⟩=>?nx) I.quiet hs))
 case hx =>
  intro H1 s1 e' s' I1 hcx
  obtain⟨ea,C,a0,B',H',rfl,ho,hbr,fl,y,hy,⟨hoky,hth⟩,hsame⟩:=hcx
  refine Kg I1 hst hf fl ho hbr hgx hm hn (hok y C hoky hy) hd hN hi hx hfn fun s2 oe hO I2=>?_
  refine wpAny_mono ((hh ea oe y C hoky hy hO).out pins s2 _ H' { nx:=fun _ _=>False,rt:=D2.rt,bk:=fun _ _=>False,ct:=fun _ _=>False } I2 ⟨B,_,_,_,Hk ((r.mono (Ext.grow r.ext.sub hsame)).setd (.ref ea) hpn),hth ea,⟨fun _ _ _ _ z=>z.elim,fun _ _ _ _ z=>z.elim,fun _ _ _ _ z=>z.elim,ct.rt⟩⟩) (fun f s3 h3=>?_) fun e3 s3 z=>hno e3 s3 z
  cases f with
  |next=>obtain⟨_,_,_,z⟩:=h3;exact z.elim
  |brk=>obtain⟨_,_,_,z⟩:=h3;exact z.elim
  |cont=>obtain⟨_,_,_,z⟩:=h3;exact z.elim
  |ret u =>
   obtain⟨v,σ',H3,I3,rv,q3⟩:=h3
   exact JM (DD I.ok.hd I.ok.frames I3) hkl fun s5 I5=>⟨v,_,H3,I5,rv,q3⟩
 case h =>
  refine⟨B,_,τ,_,r,ht,fun ss vs H1 e1 i1 h1=>⟨H1.z,ss,_,_,e1.sub,i1,h1,fun s v H2 e2 i2 f2 h2=>?_,fun y C H2 e2 hy hu=>⟨y,hy,hu,e1.hh.trans e2⟩⟩⟩
  exact ct.nx _ _ _ (r.mono (e1.trans e2)) h2
 case nx =>
  exact wpAny_execs_nil (wpAny_execs_nil ⟨_,H1,I1,q1⟩)
end
end L3
namespace L3
open PySem PySem.Spec PyProof.Rows L2
theorem Em:PySem.bootBuiltins "ValueError"=some (.type "ValueError"):=by decide +kernel
section
variable {X:Cx}
theorem Qp {K:PySem.W.Frag}{mg:Str→Option Value}{y0:Str}{C0 Cx:Addr}(hm:mg y0=some (.ref C0)) (h:PySem.W.mroIn K C0 (.ref Cx)=some true):∀y C,y=y0→mg y=some (.ref C)→PySem.W.mroIn K C (.ref Cx)=some true:=fun y C e h1=>by
 subst e;rw[hm] at h1;cases h1;exact h
variable {e:Expr}{es:List Expr}{tr:TA3}
theorem LK {k i:Nat}{n f cx y0:Str}{ps:List Str}{sp:Sp3}{Cx C0:Addr}{th:Addr→TS3}{pf pc pa np hp pt:Pos}{b0:Stmt}{suite:List Stmt}(hst:X.stack=X.env::X.outer) (hf:X.env.frame=some X.env.locals) (hno:∀e s,¬X.xe e s)
 (c:Cal X.prog X.w X.K X.mg X.base (CXU X.prog X.w) k f ps sp) (hr:Dr k X.A) (hg:Gl X f) (ha:PA3 X (e::es) tr) (hN:X.N.Nodup) (hi:X.N[i]? = some n) (hx:Loc X.env.scope n) (hkl:X.env.kindOf n=some .local)
 (hgx:Gl X cx) (hm:X.mg cx=some (.ref Cx)) (hn:HnC X.K Cx) (hok:∀y C,y=y0→X.mg y=some (.ref C)→PySem.W.mroIn X.K C (.ref Cx)=some true) (hm0:X.mg y0=some (.ref C0)) (hh:∀ea oe,ExO oe C0→DJ (DI X ea oe) (b0::suite) (th ea))
 (hdb:(f==("__debug__":Str))=false:=by decide) (hd:(cx==("__debug__":Str))=false:=by decide) (he:starEach (e::es) X.env=(false,eval e X.env)::starEach es X.env:=by exact AV rfl) (hpl:(backTo pc (starEach es X.env)).any (·.1)=false:=by exact AR rfl)
 (hs:swapsWith (.Call (.Name f pf) (e::es) [] pc) none pa.line X.env=pure false:=by rfl) (hfn:X.fn n=true∨X.env.scope.names.lookup n=some .local:=by first|exact .inl rfl|exact .inr rfl|assumption) (hpn:DH X i:=by first|exact CU rfl|exact pin_ne rfl ∅|assumption) :
 PS3 X (.Try [.Expr (.Call (.Name f pf) (e::es) [] pc) pa] [.ExceptHandler (some (.Name cx np)) (some n) (b0::suite) hp] [] [] pt) (OC i sp (fun y=>y=y0) tr (fun ea _=>th ea)) :=
 OE (th:=fun ea _=>th ea) hst hf hno c hr hg ha hN hi hx hkl hgx hm hn hok (fun ea oe y C e h1 hO=>by subst e;rw[hm0] at h1;cases h1;exact hh ea oe hO) hdb hd he hpl hs hfn
end
end L3
namespace L3
open PySem PySem.Spec PyProof.Rows L2
section
variable {X:Cx}{st:Stmt}{rest':List Stmt}{t u:TS3}
def sGp (t u:TS3):TS3:=fun D3 τ=>∃P:Prop,t { D3 with nx:=fun τ'=>τ'=τ∧P } τ∧(P→u D3 τ)
theorem Mf (h1:PS3 X st t)(h2:DJ X rest' u):DJ X (st::rest') (sGp t u):=⟨Dy (Di h1 h2).out fun D2 σ H ⟨B,z,τ,D3,r,⟨P,ht,hu⟩,c⟩=>⟨B,_,τ,D3,r,⟨fun τ'=>τ'=τ∧P,ht,fun τ' ⟨e,hP⟩=>by subst e;exact hu hP⟩,c⟩⟩
end
end L3
namespace L3
open PySem PySem.Spec PyProof.Rows L2
theorem hu_ {A:Around}{k n:Nat}(hr:Dr k A) (hn:n≤200):A.units+n<cLine:=by have:=hr.un;omega
section
variable {X:Cx}{pins:List (Addr×Obj)}{σ:St}{H:Hp}{s:Shared}
theorem HN (I:Inv X pins σ H s){n:Nat}{A:Around}{a b:Addr}{vs ws:List V}{xs ys:List D}(ha:SqT X.K H a vs) (hb:SqT X.K H b ws) (hx:Iss X.K H vs xs) (hy:Iss X.K H ws ys) (hu:A.units<cLine)
 (ih:∀(x y:D)(v u:V)(v' u':Value),x∈xs→y∈ys→Is X.K H v x→Is X.K H u y→Bi v v'→Bi u u'→SeqAt.EqAt A.in1 s v' u' (eqN n x y)):SeqAt.RcNeAt A s (.ref a) (.ref b) (!eqN (n+1) (.tup xs) (.tup ys)):=by
 obtain⟨its,r1,p1,_⟩:=I.tuple ha
 obtain⟨its2,r2,p2,_⟩:=I.tuple hb
 have l1:=r1.length
 have l2:=r2.length
 have k1:=hx.1
 have k2:=hy.1
 have key:=SeqAt.RcNeAt.tuples (A:=A) (s:=s) (l:=a) (b:=b) (items:=its.toArray) (items2:=its2.toArray) (e:=fun j=>match xs[j]?,ys[j]? with|some x,some y=>eqN n x y|_,_=>true) p1 p2 hu (fun j h1 h2=>by
  have h1':j<its.length:=by simpa using h1
  have h2':j<its2.length:=by simpa using h2
  have gx:xs[j]? = some (xs[j]' ()):=qAb ()
  have gy:ys[j]? = some (ys[j]' ()):=qAb ()
  have gv:vs[j]? = some (vs[j]' ()):=qAb ()
  have gw:ws[j]? = some (ws[j]' ()):=qAb ()
  obtain⟨u1,e1,q1⟩:=r1.get gv
  obtain⟨u2,e2,q2⟩:=r2.get gw
  rw[CN h1 e1,CN h2 e2]
  rw[gx,gy]
  exact ih _ _ _ _ _ _ (qAw gx) (qAw gy) (hx.2 j _ _ gv gx) (hy.2 j _ _ gw gy) q1 q2)
 have e:eqN (n+1) (.tup xs) (.tup ys)=((List.range (min its.toArray.size its2.toArray.size)).all (fun j=>match xs[j]?,ys[j]? with|some x,some y=>eqN n x y|_,_=>true)&&its.toArray.size==its2.toArray.size):=by
  show((xs.zip ys).all (fun p=>eqN n p.1 p.2)&&xs.length==ys.length)=_
  have s1:its.toArray.size=xs.length:=by simp;omega
  have s2:its2.toArray.size=ys.length:=by simp;omega
  rw[s1,s2]
  congr 1
  rw[qBa,qAs,qAs]
  constructor
  ·intro h j hj
   rw[qBA] at hj
   have gx:xs[j]? = some (xs[j]' ()):=qAb ()
   have gy:ys[j]? = some (ys[j]' ()):=qAb ()
   rw[gx,gy]
   exact h (_,_) (qAw (qAX.mpr ⟨gx,gy⟩))
  ·rintro h ⟨x,y⟩ hp
   obtain⟨j,hj⟩:=qBQ hp
   obtain⟨gx,gy⟩:=qAX.mp hj
   have h1:=(qAi.mp gx).1
   have h2:=(qAi.mp gy).1
   have:=h j (by rw[qBA];omega)
   simp only[] at gx gy
   rw[gx,gy] at this
   exact this
 rw[e]
 exact key
def Qd (n:Nat):R3:=fun dx dy R=>match dx,dy with
 |.tup xs,.tup ys=>Bx n (.tup xs)=true∧Bx n (.tup ys)=true∧R (.bl (!eqN n (.tup xs) (.tup ys)))
 |_,_=>False
theorem NA (n:Nat)(hu:X.A.units+n<cLine):DW X (compareOp .NotEq) (Qd n):=by
 intro pins s σ H x y v u Q I rx ry h
 obtain⟨z,dx,dy,R,hz,hx,hy,h3,q⟩:=h
 replace hx:=hx.mono hz
 replace hy:=hy.mono hz
 unfold Qd at h3
 split at h3
 ·rename_i xs ys
  obtain⟨fx,fy,h3⟩:=h3
  cases n with
  |zero=>cases fx
  |succ n =>
   obtain⟨a,vs,rfl,ha,ia⟩:=Is.tup_inv hx
   obtain⟨b,ws,rfl,hb,ib⟩:=Is.tup_inv hy
   cases rx
   cases ry
   refine HN (A:=X.A) (n:=n) I ha hb ia ib () (fun x y v u v' u' mx my ix iy rv ru=>?_) X.prog X.w X.xe _ ⟨.bl _,H,I,rfl,q _ _ ⟨H,z⟩ (Ext.refl hz) (.bl _) h3⟩
   exact IX I n X.A.in1 x y v u v' u' (by show X.A.units+1+n<cLine;omega) (qAs.mp (show xs.all (Bx n)=true from fx) x mx) (qAs.mp (show ys.all (Bx n)=true from fy) y my) ix iy rv ru
 ·exact h3.elim
end
end L3
namespace L3
open PySem PySem.Spec PyProof.Rows L2
theorem Dv {env:Env}:∀(names:List (Str×NameKind))(acc:List (Str×Addr)),(∀y∈names,y.2=.free→∃c,env.cells.lookup y.1=some c) →
 ∃cl,(forIn names acc fun(x:Str×NameKind)(r:List (Str×Addr))=>if (x.2 == .free)=true then (do let c ←cellOf env x.1;pure (ForInStep.yield ((x.1,c)::r)):Sem _) else pure (ForInStep.yield r))=pure cl ∧
  (∀y c,(y,c)∈cl→(y,c)∈acc∨env.cells.lookup y=some c)∧(∀y,(y,NameKind.free)∈names→∃c,(y,c)∈cl)∧∀p∈acc,p∈cl
 |[],acc,_=>⟨acc,rfl,fun y c h=>.inl h,(fun y h=>by cases h),fun p h=>h⟩
 |(n,k)::r,acc,h=>by
  rw[qBv]
  by_cases hk:(k==NameKind.free)=true
  ·have hk':k=.free:=by simpa using hk
   obtain⟨c,hc⟩:=h (n,k) qAe hk'
   obtain⟨cl,e,h1,h2,h3⟩:=Dv r ((n,c)::acc) fun y hy=>h y (qAc _ hy)
   refine⟨cl,?_,fun y d hd=>?_,fun y hy=>?_,fun p hp=>h3 p (qAc _ hp)⟩
   ·have hco:cellOf env n=pure c:=by unfold cellOf;rw[hc]
    simp only[hk,if_true,hco,pure_bind]
    exact e
   ·rcases h1 y d hd with z|z
    ·rcases qAg.mp z with z|z
     ·cases z;exact .inr hc
     ·exact .inl z
    ·exact .inr z
   ·rcases qAg.mp hy with z|z
    ·cases z;exact⟨c,h3 _ qAe⟩
    ·exact h2 y z
  ·obtain⟨cl,e,h1,h2,h3⟩:=Dv r acc fun y hy=>h y (qAc _ hy)
   refine⟨cl,?_,h1,fun y hy=>?_,h3⟩
   ·simp only[hk,qBf,if_false,pure_bind]
    exact e
   ·rcases qAg.mp hy with z|z
    ·cases z;exact absurd rfl hk
    ·exact h2 y z
theorem CO {α:Type}{y:Str}{c:α}:∀{l:List (Str×α)},l.lookup y=some c→(y,c)∈l
 |[],h=>by cases h
 |(n,d)::r,h=>by
  rw[qAV] at h
  cases q:y==n with
  |true => rw[q] at h;cases h;have:y=n:=by simpa using q
           subst this;exact qAe
  |false=>rw[q] at h;exact qAc _ (CO h)
theorem ED {α:Type}{y:Str}{c:α}:∀{l:List (Str×α)},(y,c)∈l→∃d,l.lookup y=some d
 |(n,d)::r,h=>by
  rw[qAV]
  cases q:y==n with
  |true=>exact⟨d,rfl⟩
  |false =>
   rcases qAg.mp h with z|z
   ·cases z;simp at q
   ·exact ED z
theorem ER {scope:Scope}{env:Env}(h:∀y∈scope.names,y.2=.free→∃c,env.cells.lookup y.1=some c) :
 ∃cl,closureFor scope env=pure cl∧(∀y c,cl.lookup y=some c→env.cells.lookup y=some c)∧∀y,(y,NameKind.free)∈scope.names→∃c,cl.lookup y=some c:=by
 obtain⟨cl,e,h1,h2,_⟩:=Dv scope.names [] h
 refine⟨cl,?_,fun y c hc=>?_,fun y hy=>?_⟩
 ·unfold closureFor
  first|(simp only[bind_pure];exact e)|exact e
 ·rcases h1 y c (CO hc) with z|z
  ·cases z
  ·exact z
 ·obtain⟨c,hc⟩:=h2 y hy
  exact ED hc
def Ai (X:Cx)(N:List Str)(scope:Scope)(cl:List (Str×Addr))(C:Addr)(s₀:Shared)(H₀:Hp)(fp:List Addr):Cx :=
 { X with N:=N,s₀:=s₀,H₀:=H₀,env:=compEnvC scope cl C X.env,outer:=X.stack,ex:=fp,fn:=fun _=>false,pn:=[],xe:=fun _ _=>False,lent:=none }
theorem BM {env:Env}:∀{names:List (Str×NameKind)}{x:Str}{k:NameKind},(names.map fun(n,k)=>if (k==NameKind.free&&env.scope.kind == .function&&env.kindOf n==some .cell) then (n,NameKind.cell) else (n,k)).lookup x=some k →
 ∃k0,(x,k0)∈names∧(k=k0∨k0=.free)
 |[],_,_,h=>by cases h
 |(n,k1)::r,x,k,h=>by
  have h':List.lookup x ((if (k1==NameKind.free&&env.scope.kind == .function&&env.kindOf n==some .cell)=true then (n,NameKind.cell) else (n,k1))::(r.map fun(n,k)=>if (k==NameKind.free&&env.scope.kind == .function&&env.kindOf n==some .cell) then (n,NameKind.cell) else (n,k)))=some k:=h
  by_cases hc:(k1==NameKind.free&&env.scope.kind == .function&&env.kindOf n==some .cell)=true
  ·rw[if_pos hc,qAV] at h'
   have hk1:k1=.free:=by
    rw[qAN,qAN] at hc
    simpa using hc.1.1
   cases q:x==n with
   |true =>
    have:x=n:=by simpa using q
    subst this
    exact⟨k1,qAe,.inr hk1⟩
   |false =>
    rw[q] at h'
    obtain⟨k0,h1,h2⟩:=BM h'
    exact⟨k0,qAc _ h1,h2⟩
  ·rw[if_neg hc,qAV] at h'
   cases q:x==n with
   |true =>
    rw[q] at h'
    have:x=n:=by simpa using q
    subst this
    exact⟨k1,qAe,.inl (qAn h').symm⟩
   |false =>
    rw[q] at h'
    obtain⟨k0,h1,h2⟩:=BM h'
    exact⟨k0,qAc _ h1,h2⟩
theorem Bv {env:Env}{y:Str}(hk:env.scope.kind=.function) (hy:env.kindOf y=some .cell):∀{names:List (Str×NameKind)},names.lookup y=some .free →
 (names.map fun(n,k)=>if (k==NameKind.free&&env.scope.kind == .function&&env.kindOf n==some .cell) then (n,NameKind.cell) else (n,k)).lookup y=some .cell
 |[],h=>by cases h
 |(n,k1)::r,h=>by
  show List.lookup y ((if (k1==NameKind.free&&env.scope.kind == .function&&env.kindOf n==some .cell)=true then (n,NameKind.cell) else (n,k1))::(r.map fun(n,k)=>if (k==NameKind.free&&env.scope.kind == .function&&env.kindOf n==some .cell) then (n,NameKind.cell) else (n,k)))=some .cell
  rw[qAV] at h
  cases q:y==n with
  |true =>
   rw[q] at h
   have:y=n:=by simpa using q
   subst this
   have hk1:k1=.free:=qAn h
   subst hk1
   rw[if_pos (by rw[hk,hy];rfl),qAV,q]
  |false =>
   rw[q] at h
   have ih:=Bv hk hy h
   by_cases hc:(k1==NameKind.free&&env.scope.kind == .function&&env.kindOf n==some .cell)=true
   ·rw[if_pos hc,qAV,q];exact ih
   ·rw[if_neg hc,qAV,q];exact ih
structure Bk (X:Cx)(x:Str)(scope:Scope)(N:List Str)(idx:List Nat):Prop where
 kind:scope.kind=.function
 cell:∀y∈scope.names,y.2≠.cell
 names:∀y∈scope.names,y.2=.local→scope.names.lookup y.1=some .local
 own:scope.names.lookup x=some .local
 free:∀y∈scope.names,y.2=.free→X.env.kindOf y.1=some .cell
 nd:N.Nodup
 fst:N[0]? = some x
 len:N.length=idx.length+1
 cap:∀(k j:Nat),idx[k]? = some j→∃y,N[k+1]? = some y∧X.N[j]? = some y∧scope.names.lookup y=some .free
def C8 {α:Type}(σ:List (Option α)) (idx:List Nat):List (Option α):=idx.map fun j=>(σ[j]?).getD none
theorem GX {α:Type}{σ:List (Option α)}{idx:List Nat}{k:Nat}{v:α}(h:(C8 σ idx)[k]? = some (some v)):∃j,idx[k]? = some j∧σ[j]? = some (some v):=by
 unfold C8 at h
 rw[qAo] at h
 cases e:idx[k]? with
 |none=>rw[e] at h;cases h
 |some j =>
  rw[e] at h
  refine⟨j,rfl,?_⟩
  have h':(σ[j]?).getD none=some v:=qAn h
  cases q:σ[j]? with
  |none=>rw[q] at h';cases h'
  |some o=>rw[q] at h';rw[show o=some v from h']
section
variable {X:Cx}{pins:List (Addr×Obj)}{σ:St}{H2:Hp}{s2:Shared}{x:Str}{px:Pos}{scope:Scope}{N:List Str}{idx:List Nat}{J:It}{fp:List Addr}{it:Addr}{tn:Nat→Heap→Prop}{cl:List (Str×Addr)}
theorem EJ (O:Bk X x scope N idx)(I2:Inv X pins σ H2 s2)(T:M5 X.prog X.w X.K (.Name x px) J fp it tn)(st2:tn 0 s2.heap)(f2:∀b∈fp,HD X pins H2 b)
 (hcl:∀y c,cl.lookup y=some c→X.env.cells.lookup y=some c)(hcl2:∀y,(y,NameKind.free)∈scope.names→∃c,cl.lookup y=some c)
 {h1:Heap}{C:Addr}{m:Str→Option Value}{tk:Nat}(hC:s2.heap.objs.size<C) (hns:h1.Ns C m) (old:∀b o,s2.heap.get? b=some o→h1.get? b=some o)
 (hD:h1.get? s2.heap.objs.size=some { cls:=.type "list",data:=.seq ([]:List Value).toArray }) :
 Inv (Ai X N scope cl C s2 H2 fp) [] (none::C8 σ idx) (upd H2 s2.heap.objs.size (.lst [])) { s2 with heap:=h1,toks:=tk }:=by
 have inHeap:∀b∈fp,b<s2.heap.objs.size:=fun b hb=>by
  obtain⟨o,e,_⟩:=T.obj 0 _ st2 b hb
  exact qAh e
 have hDn:H2 s2.heap.objs.size=none:=I2.hok.fresh (qAj _)
 refine⟨⟨I2.ok.mod,O.kind,I2.ok.glob,I2.ok.blt,?_,?_,?_,(fun _ _ z=>by cases z),I2.ok.hd,I2.ok.frames,.inl rfl,?_,fun b o e=>I2.bs b o e,qAr I2.ok.bsz I2.sz,?_,?_,I2.stack,I2.stkFree,I2.tb⟩,rfl,I2.bare,?_,⟨m,hns,?_⟩,?_,?_,?_,?_,?_,?_⟩
 ·exact qA6 hC
 ·intro y z c h1 h2
  exact I2.ok.inj y z c (hcl y c h1) (hcl z c h2)
 ·intro y hy
  have key:∀k,(relabel scope X.env).names.lookup y=some k→(k=.cell∨k=.free)→∃c,cl.lookup y=some c:=fun k e hk=>by
   obtain⟨k0,h1,h2⟩:=BM e
   have hf:k0=.free:=by
    rcases h2 with rfl|h2
    ·rcases hk with rfl|rfl
     ·exact absurd rfl (O.cell _ h1)
     ·rfl
    ·exact h2
   subst hf
   exact hcl2 y h1
  rcases hy with e|e
  ·exact key _ e (.inl rfl)
  ·exact key _ e (.inr rfl)
 ·intro b hb
  have:=inHeap b hb
  exact⟨qAu (qAJ this hC),fun y c e=>(f2 b hb).2.2.2.2.1 y c (hcl y c e)⟩
 ·intro b o e hb
  rcases(f2 b hb).2.2.2.1 with z|z
  ·exact I2.ok.noex b o e z
  ·exact absurd (qAk (qAh e) (qAr I2.ok.bsz z)) (qAF _)
 ·intro b hb hf
  rcases qAg.mp (I2.stkSub b hf) with e|e
  ·exact(f2 b hb).2.1 e
  ·exact(f2 b hb).2.2.1 e
 ·exact Un.laid old (qAj _) hDn
 ·intro i y v e1 e2 e3
  cases i with
  |zero=>cases e2
  |succ k =>
   obtain⟨j,ej,es⟩:=GX (k:=k) e2
   obtain⟨y',n1,n2,n3⟩:=O.cap k j ej
   have ey:y'=y:=qAn (n1.symm.trans e1)
   subst ey
   have kc:=O.free _ (CO n3) rfl
   obtain⟨m0,hn0,hl0⟩:=I2.loc
   obtain⟨u,ru,lk⟩:=hl0 j y' v n2 es (.inr (.inl kc))
   refine⟨u,ru,?_⟩
   rcases lk with⟨k1,_⟩|⟨_,c,hc,ic⟩
   ·rw[kc] at k1;cases k1
   ·obtain⟨c',hc'⟩:=hcl2 y' (CO n3)
    have:c'=c:=qAn ((hcl y' c' hc').symm.trans hc)
    subst this
    exact .inr ⟨.inl (Bv I2.ok.kind kc n3),c',hc',ic.keeps old⟩
 ·intro y c e
  obtain⟨v,ic⟩:=I2.cell y c (hcl y c e)
  exact⟨v,ic.keeps old⟩
 ·show upd H2 _ _ C=none
  rw[Ar (qBM hC)]
  exact I2.hok.fresh (qA6 hC)
 ·intro y c e
  obtain⟨v,ic⟩:=I2.cell y c (hcl y c e)
  rw[Ar (qAu ic.lt)]
  exact I2.freeC y c (hcl y c e)
 ·intro p hp;cases hp
 ·exact I2.hok.laid old (qAj _) ⟨qBd _,[],_,.nil,hD⟩
 ·show(none::C8 σ idx).length=N.length
  rw[O.len,qAl]
  unfold C8
  rw[qAa]
theorem Dl {σ':St}{H':Hp}{s':Shared}{pl:List (Addr×Obj)}{C:Addr}{h':Heap}(I2:Inv X pins σ H2 s2) (f2:∀b∈fp,HD X pins H2 b) (hC:s2.heap.objs.size<C) (I':Inv (Ai X N scope cl C s2 H2 fp) pl σ' H' s') (hs:Heap.SameBut C s'.heap h') :
 Inv X pins σ H' { s' with heap:=h' }:=by
 have ne:∀b o,s2.heap.get? b=some o→b≠C:=fun b o e=>qAu (qAJ (qAh e) hC)
 have u:=I'.base
 refine Inv.call' (s':={ s' with heap:=h' }) (ch:=fp) I2 I'.os ⟨fun b o e n hb hx=>(hs.2 b (ne b o e)).trans (u.keep b o e n hb hx),fun b o e n hb hx=>?_,u.free,fun b o e hx=>?_,u.tups,u.frzs,u.tbls⟩ (fun b ob e=>?_) I'.bare (fun b hb=>⟨(f2 b hb).2.2.2.1,(f2 b hb).2.1,(f2 b hb).2.2.2.2.1,(f2 b hb).2.2.2.2.2⟩)
 ·obtain⟨sl,e1⟩:=u.slot b o e n hb hx
  exact⟨sl,(hs.2 b (ne b o e)).trans e1⟩
 ·obtain⟨o',e1⟩:=u.there b o e hx
  exact⟨o',(hs.2 b (ne b o e)).trans e1⟩
 ·refine(I'.hok b ob e).stay (fun c w' hc q=>(hs.2 c ?_).trans q) (fun _ q=>q) fun _ _ q=>q
  have hf:H' C=none:=I'.free
  rintro rfl
  rcases hc with rfl|hc
  ·rw[hf] at e;cases e
  ·rw[hf] at hc;cases hc
def Lg (X:Cx)(ifs:List Expr)(t:TT):Prop:=∀(pins:List (Addr×Obj))(s:Shared)(σ:St)(H:Hp)(Q:Bool→Hp→Prop),Inv X pins σ H s→t σ H Q →
 wpAny (model X.prog X.w) X.A (forIn ifs true fun c r=>if r=true then do let ok ←isTrue c X.env (eval c X.env);pure (ForInStep.yield ok) else pure (ForInStep.yield r)) (TP X pins σ Q) X.xe s
theorem KA:Lg X [] (fun _ H Q=>Q true H):=fun pins s σ H Q I h=>wpAny_pure ⟨H,I,h⟩
def Kf (K:PySem.W.Frag)(idx:List Nat)(wi:TI)(tt:Hp→TT)(te:Hp→TE):TE:=fun σ H Q=>wi σ H fun J H1=>∀D,H1 D=none→K.lookup D=none→∃W:Nat→Nat→List V→Hp→Prop,(∃m,W 0 m [] (upd H1 D (.lst []))) ∧
 ∀i m ys H,H D=some (.lst ys)→W i m ys H→(J.stop i H∧Q (.ref D) H)∨(J.go i H∧∀x H',J.yld i H x H'→tt H1 (some x::C8 σ idx) H' fun b H2 =>
  if b=true then te H1 (some x::C8 σ idx) H2 (fun v H3=>H3 D=some (.lst ys)∧ys.length<sizeLine∧∃m',m'<m∧W (i+1) m' (ys++[v]) (upd H3 D (.lst (ys++[v])))) else H2 D=some (.lst ys)∧∃m',m'<m∧W (i+1) m' ys H2)
theorem GN {elt iter:Expr}{ifs:List Expr}{wi:TI}{tt:Hp→TT}{te:Hp→TE}{pos:Pos}{s:Shared}{H:Hp}{Q:VK}{use:Option (Value→Sem Unit)}{QQ:Value→Shared→Prop}(O:Bk X x scope N idx) (hc:X.calm=true) (hi:PI X (.Name x px) iter wi)
 (hifs:∀cl C s₀ H₀ fp,Lg (Ai X N scope cl C s₀ H₀ fp) ifs (tt H₀)) (helt:∀cl C s₀ H₀ fp,PE (Ai X N scope cl C s₀ H₀ fp) elt (te H₀))
 (hs:∀x,foldedSetIterable iter X.env x=pure x) (I:Inv X pins σ H s) (h:Kf X.K idx wi tt te σ H Q)
 (fin:∀(s2:Shared)(H2:Hp)(fp:List Addr)(cl:List (Str×Addr))(C D:Addr)(σ':St)(H':Hp)(s':Shared),Inv X pins σ H2 s2→(∀b∈fp,HD X pins H2 b)→s2.heap.objs.size<C→Inv (Ai X N scope cl C s2 H2 fp) [] σ' H' s'→Q (.ref D) H' →
  compPost (model X.prog X.w) X.A X.xe use QQ (.ref D) C (.ok .next) s') :
 wpAny (model X.prog X.w) X.A (comprehension (.ListComp elt [⟨.Name x px,iter,ifs,0⟩] scope pos) scope X.env (firstIterPos [⟨.Name x px,iter,ifs,0⟩] pos) (newList []) false (eval iter X.env) use) QQ X.xe s:=by
 obtain⟨cl,ecl,hcl,hcl2⟩:=ER (scope:=scope) (env:=X.env) fun y hy hf=>I.ok.has y.1 (.inl (O.free y hy hf))
 refine wpAny_comprehension_free (use:=use) (cl:=cl) rfl hs ecl O.kind O.names ?_
 refine thn (hi pins s σ H _ I h) fun v s1 h1=>thn h1 fun itv s2 h2=>?_
 obtain⟨it,fp,tn,J,H2,rfl,I2,T,st2,f2,hD⟩:=h2
 refine wpAny_newObj_type (wpAny_newFunctionEnv O.cell (by intro y hy;simp at hy) (fun h1 hns hsb=>?_) O.kind)
 dsimp only at hns hsb ⊢
 generalize hG:s2.heap.push { cls:=.type "list",dict:=none,data:=.seq ([]:List Value).toArray }=G at hns hsb ⊢
 have hCs:s2.heap.objs.size<G.objs.size:=by rw[←hG,Heap.size_push];exact qB4 _
 have old:∀b o,s2.heap.get? b=some o→h1.get? b=some o:=fun b o e=>hsb.extBut b o (qAu (qAJ (qAh e) hCs)) (qAm _ (hG ▸ qAm _ e))
 have hDl:h1.get? s2.heap.objs.size=some { cls:=.type "list",data:=.seq ([]:List Value).toArray }:=hsb.extBut _ _ (qAu hCs) (qAm _ (hG ▸ qAH _ rfl))
 have hDn:H2 s2.heap.objs.size=none:=I2.hok.fresh (qAj _)
 have hDk:X.K.lookup s2.heap.objs.size=none:=by
  cases e:X.K.lookup s2.heap.objs.size with
  |none=>rfl
  |some o=>exact absurd (qAh (I2.kIn _ _ e)) (qAF _)
 obtain⟨W,⟨m0,w0⟩,step⟩:=hD _ hDn hDk
 have I4:Inv (Ai X N scope cl G.objs.size s2 H2 fp) [] (none::C8 σ idx) (upd H2 s2.heap.objs.size (.lst [])) { s2 with heap:=h1,toks:=s2.toks+([]:List (Str×Value)).length } :=
  EJ O I2 T st2 f2 hcl hcl2 hCs hns old hDl
 generalize hCC:G.objs.size=C at I4 hCs ⊢
 clear hsb hns hG hCC
 generalize hDD:s2.heap.objs.size=D at hDn hDk step w0 I4 hDl ⊢
 have st4:tn 0 h1:=T.keep 0 _ _ st2 fun b _ o e=>old b o e
 have frD:∀b∈fp,(upd H2 D (.lst [])) b=none:=fun b hb=>by
  obtain⟨o,e,_⟩:=T.obj 0 _ st2 b hb
  rw[Ar (by rw[←hDD];exact qAu (qAh e))]
  exact(f2 b hb).1
 have stat:∀{H':Hp},(∀b∈fp,H' b=none)→∀b∈fp,HD (Ai X N scope cl C s2 H2 fp) [] H' b:=fun hn b hb =>
  ⟨hn b hb,(I4.ok.exf b hb).1,I4.ok.exfs b hb,.inl hb,(I4.ok.exf b hb).2,fun p hp=>by cases hp⟩
 have hloc:(Ai X N scope cl C s2 H2 fp).env.scope.names.lookup x=some .local:=lookup_relabel_local O.own
 have loop:∀s3:Shared,s3={ s2 with heap:=h1,toks:=s2.toks+([]:List (Str×Value)).length } →
  codeAny (model X.prog X.w) X.A (.compLoop (.ListComp elt [⟨.Name x px,iter,ifs,0⟩] scope pos) 0 (.ref it) (.ref D) (compEnvC scope cl C X.env)) (compPost (model X.prog X.w) X.A X.xe use QQ (.ref D) C) s3:=by
  rintro s3 rfl
  refine codeAny_compLoop_tests (fun n s'=>∃i z H' ys,Inv (Ai X N scope cl C s2 H2 fp) [] (z::C8 σ idx) H' s'∧tn i s'.heap∧(∀b∈fp,H' b=none)∧H' D=some (.lst ys)∧W i n ys H') ?_ m0 ⟨0,none,_,[],I4,st4,frD,Al,w0⟩
  rintro n s5 ⟨i,z,H5,ys,I5,st5,fr5,hD5,w5⟩
  rcases step i n ys H5 hD5 w5 with⟨stop,q⟩|⟨go,next⟩
  ·refine wpAny_mono (T.done (Ai X N scope cl C s2 H2 fp) rfl rfl rfl hc i [] s5 _ H5 (fun _ _=>False) I5 (stat fr5) st5 stop) (fun r s6 hh=>?_) fun _ _ z=>z.elim
   obtain⟨hr,I6⟩:=hh
   subst hr
   exact fin s2 H2 fp cl C D _ H5 s6 I2 f2 hCs I6 q
  ·refine wpAny_mono (T.item (Ai X N scope cl C s2 H2 fp) rfl rfl rfl hc i [] s5 _ H5 (fun _ _=>False) I5 (stat fr5) st5 go) (fun r s6 hh=>?_) fun _ _ z=>z.elim
   obtain⟨u,hr,h6⟩:=hh
   subst hr
   dsimp only
   refine(show wpAny _ _ ((pure Unit.unit:Sem Unit) >>= fun _=>assign (.Name x px) (compEnvC scope cl C X.env) u) _ _ _ from wpAny_bind (wpAny_mono (show wpAny _ _ (pure Unit.unit:Sem Unit) _ _ _ from h6) (fun _ s7 h7=>?_) fun _ _ z=>z.elim))
   obtain⟨xv,H7,I7,r7,y7,st7,fr7⟩:=h7
   have I7':=I7.pinned (stat fr7) (T.obj _ _ st7)
   refine wpAny_assign_Name (CM (X:=Ai X N scope cl C s2 H2 fp) I7' O.nd O.fst (.inl hloc) r7 (fun s8 I8=>?_) (.inr hloc))
   have again:∀{H9:Hp}{s9:Shared}{ys':List V}{m':Nat},Inv (Ai X N scope cl C s2 H2 fp) ([]++EI fp s7.heap) (some xv::C8 σ idx) H9 s9→H9 D=some (.lst ys')→m'<n→W (i+1) m' ys' H9 →
    ∃m,m<n∧∃i z H' ys,Inv (Ai X N scope cl C s2 H2 fp) [] (z::C8 σ idx) H' s9∧tn i s9.heap∧(∀b∈fp,H' b=none)∧H' D=some (.lst ys)∧W i m ys H':=fun {H9 s9 ys' m'} I9 hD9 hm w9=>by
    refine⟨m',hm,i+1,some xv,H9,ys',I9.unpinned,T.keep _ _ _ st7 fun b hb o e=>(I9.pin (b,o) (qAp _ (qAp _ (Bu hb e)))).1,fun b hb=>?_,hD9,w9⟩
    obtain⟨o,e,d⟩:=T.obj _ _ st7 b hb
    exact(I9.pin (b,o) (qAp _ (qAp _ (Bu hb e)))).2.1
   refine wpAny_mono (hifs cl C s2 H2 fp _ s8 _ H7 _ I8 (next xv H7 y7)) (fun b s9 hh=>?_) fun _ _ z=>z.elim
   obtain⟨H9,I9,q9⟩:=hh
   cases b with
   |true =>
    rw[if_pos rfl] at q9 ⊢
    refine wpAny_mono (helt cl C s2 H2 fp _ s9 _ H9 _ I9 q9) (fun y s10 hh=>?_) fun _ _ z=>z.elim
    obtain⟨v,H10,I10,r10,hD10,hl,m',hm,w'⟩:=hh
    refine wpAny_mono (Cw (X:=Ai X N scope cl C s2 H2 fp) _ s10 _ H10 (.ref D) [v] (.ref D) [y] (fun _ H'=>H'=upd H10 D (.lst (ys++[v]))) I10 rfl (.cons r10 .nil) ⟨D,ys,v,rfl,rfl,hD10,hl,rfl⟩) (fun _ s11 hh=>?_) fun _ _ z=>z.elim
    obtain⟨_,H11,I11,_,e11⟩:=hh
    subst e11
    exact again I11 Al hm w'
   |false =>
    rw[if_neg qAf] at q9 ⊢
    obtain⟨hD9,m',hm,w'⟩:=q9
    exact again I9 hD9 hm w'
 exact codeAny_compStart_list (loop _ rfl) (T.self X.A 0 _ _ _ st4 (loop _ rfl))
theorem LW {elt iter:Expr}{ifs:List Expr}{wi:TI}{tt:Hp→TT}{te:Hp→TE}{pos:Pos}(O:Bk X x scope N idx) (hc:X.calm=true) (hi:PI X (.Name x px) iter wi)
 (hifs:∀cl C s₀ H₀ fp,Lg (Ai X N scope cl C s₀ H₀ fp) ifs (tt H₀)) (helt:∀cl C s₀ H₀ fp,PE (Ai X N scope cl C s₀ H₀ fp) elt (te H₀))
 (hs:∀x,foldedSetIterable iter X.env x=pure x:=by intro _;rfl):PE X (.ListComp elt [⟨.Name x px,iter,ifs,0⟩] scope pos) (Kf X.K idx wi tt te):=by
 intro pins s σ H Q I h
 rw[eval_ListComp]
 refine GN (use:=none) O hc hi hifs helt hs I h fun s2 H2 fp cl C D σ' H' s' I2 f2 hC I' q=>?_
 obtain⟨m,hn,_⟩:=I'.loc
 exact⟨m,hn,fun h' hs'=>⟨.ref D,H',Dl I2 f2 hC I' hs',rfl,q⟩⟩
theorem Ie {C:Addr}{h':Heap}{H:Hp}{s:Shared}(I:Inv X pins σ H s) (hs:Heap.SameBut C s.heap h') (h0:X.s₀.heap.objs.size≤C) (hH:H C=none) (hL:C≠X.env.locals) (hc:∀y c,X.env.cells.lookup y=some c→c≠C) (hp:∀p∈X.pn++pins,p.1≠C) :
 Inv X pins σ H { s with heap:=h' }:=by
 obtain⟨m,hn,hl⟩:=I.loc
 have ne:∀b o,X.s₀.heap.get? b=some o→b≠C:=fun b o e=>qAu (qAk (qAh e) h0)
 refine⟨I.ok,I.os,I.bare,⟨fun b o e n hb hx=>(hs.2 b (ne b o e)).trans (I.base.keep b o e n hb hx),fun b o e n hb hx=>?_,I.base.free,fun b o e hx=>?_,I.base.tups,I.base.frzs,I.base.tbls⟩,⟨m,hn.sameBut hs (Ne.symm hL),fun i y v e1 e2 e3=>?_⟩,fun y c e=>?_,I.free,I.freeC,fun p hq=>?_,fun b ob e=>?_,I.len⟩
 ·obtain⟨sl,e1⟩:=I.base.slot b o e n hb hx
  exact⟨sl,(hs.2 b (ne b o e)).trans e1⟩
 ·obtain⟨o',e1⟩:=I.base.there b o e hx
  exact⟨o',(hs.2 b (ne b o e)).trans e1⟩
 ·obtain⟨u,ru,lk⟩:=hl i y v e1 e2 e3
  refine⟨u,ru,?_⟩
  rcases lk with lk|⟨k,c,e,ic⟩
  ·exact .inl lk
  ·exact .inr ⟨k,c,e,ic.sameBut hs (hc y c e)⟩
 ·obtain⟨v,ic⟩:=I.cell y c e
  exact⟨v,ic.sameBut hs (hc y c e)⟩
 ·obtain⟨e,n,ne',nf,d⟩:=I.pin p hq
  exact⟨(hs.2 p.1 (hp p hq)).trans e,n,ne',nf,d⟩
 ·refine(I.hok b ob e).stay (fun c w' hc' q=>(hs.2 c ?_).trans q) (fun _ q=>q) fun _ _ q=>q
  rintro rfl
  rcases hc' with rfl|hc'
  ·rw[hH] at e;cases e
  ·rw[hH] at hc';cases hc'
def Nl (i:Nat)(te:TE):TS:=fun D σ H=>te σ H fun v H1=>D.nx (σ.set i (some v)) H1
theorem HP {i:Nat}{y:Str}{py spos:Pos}{elt iter:Expr}{ifs:List Expr}{wi:TI}{tt:Hp→TT}{te:Hp→TE}{pos:Pos}(O:Bk X x scope N idx) (hc:X.calm=true) (hi:PI X (.Name x px) iter wi)
 (hifs:∀cl C s₀ H₀ fp,Lg (Ai X N scope cl C s₀ H₀ fp) ifs (tt H₀)) (helt:∀cl C s₀ H₀ fp,PE (Ai X N scope cl C s₀ H₀ fp) elt (te H₀)) (hN:X.N.Nodup) (hy:X.N[i]? = some y) (hly:Loc X.env.scope y)
 (hsw:swapsWith (.ListComp elt [⟨.Name x px,iter,ifs,0⟩] scope pos) (some (.Name y py)) spos.line X.env=pure true:=by rfl) (hs:∀x,foldedSetIterable iter X.env x=pure x:=by intro _;rfl)
 (hfn:X.fn y=true∨X.env.scope.names.lookup y=some .local:=by first|exact .inl rfl|exact .inr rfl|assumption) :
 PS X (.Assign [.Name y py] (.ListComp elt [⟨.Name x px,iter,ifs,0⟩] scope pos) spos) (Nl i (Kf X.K idx wi tt te)):=by
 intro pins s σ H D I h
 rw[exec_Assign_Name_used _ _ _ _ hsw]
 refine wpAny_bind (wpAny_standAt (wpAny_bind ?_))
 show wpAny _ X.A (do let _ ←comprehension (.ListComp elt [⟨.Name x px,iter,ifs,0⟩] scope pos) scope X.env _ (newList []) false (eval iter X.env) (some (assign (.Name y py) X.env))) _ _ s
 refine wpAny_bind (wpAny_mono (GN (use:=some (assign (.Name y py) X.env)) (QQ:=fun _ s'=>SP X pins D .next s') O hc hi hifs helt hs I h fun s2 H2 fp cl C E σ' H' s' I2 f2 hC I' q=>?_) (fun _ s' hq=>wpAny_pure (wpAny_pure hq)) fun _ _ e=>e)
 have I3:Inv X pins σ H' s':=Dl (h':=s'.heap) I2 f2 hC I' ⟨rfl,fun _ _=>rfl⟩
 obtain⟨mC,hnC,_⟩:=I'.loc
 have h0:X.s₀.heap.objs.size≤C:=qAr I2.sz (qA6 hC)
 have hCL:C≠X.env.locals:=qBM (qAJ I2.lt hC)
 have hCc:∀y c,X.env.cells.lookup y=some c→c≠C:=fun y c e=>by
  obtain⟨v,ic⟩:=I2.cell y c e
  exact qAu (qAJ ic.lt hC)
 have hCp:∀p∈X.pn++pins,p.1≠C:=fun p hp=>qAu (qAJ (qAh (I2.pin p hp).1) hC)
 show wpAny _ X.A (assign (.Name y py) X.env (.ref E)) _ _ _
 refine wpAny_assign_Name (El (v:=.ref E) I3 hN hy hly rfl (fun s4 I4 hb=>?_) hfn)
 obtain⟨a,hsa,ha⟩:=hb
 have hCa:C≠a:=by
  rcases ha with rfl|ha
  ·exact hCL
  ·exact fun z=>hCc y a ha z.symm
 exact⟨mC,hnC.sameBut hsa hCa,fun h' hs'=>⟨_,H',Ie I4 hs' h0 I'.free hCL hCc hCp,q⟩⟩
end
abbrev TX3:=Tau→(List D→Prop)→Prop
def Src (X:Cx)(wi:TI)(ws:TX3):Prop:=∀(B:HZ)(τ:Tau)(σ:St)(H z:Hp)(P:List D→Prop)(R:It→Hp→Prop),Rep X B τ σ ⟨H,z⟩→ws τ P →
 (∀(J:It)(q:HZ)(xs:List D),Ext ⟨H,z⟩ q→P xs→(∀H',AH q.h H'→(∀i,i<xs.length→J.go i H'∧∀x H'',J.yld i H' x H''→H''=H'∧∃d,xs[i]? = some d∧Is X.K q.z x d)∧∀i,xs.length≤i→J.stop i H')→R J q.h)→wi σ H R
def Qz (te:TE3):TX3:=fun τ P=>te τ fun s=>match items s with
 |some xs=>P xs
 |none=>False
theorem Fm {X:Cx}{q:HZ}{a:Addr}{vs:List V}{xs:List D}(h:SqL X.K q.h a vs) (hi:Iss X.K q.z vs xs):∀H',AH q.h H'→(∀i,i<xs.length→(Itl X.K a).go i H'∧∀x H'',(Itl X.K a).yld i H' x H''→H''=H'∧∃d,xs[i]? = some d∧Is X.K q.z x d)∧∀i,xs.length≤i→(Itl X.K a).stop i H':=by
 intro H' e
 have h':SqL X.K H' a vs:=e.seq h
 refine⟨fun i hlt=>⟨⟨vs,vs[i]'(by rw[hi.1];exact hlt),h',qAb (by rw[hi.1];exact hlt)⟩,fun x H'' hy=>⟨hy.1,?_⟩⟩,fun i hle=>⟨vs,h',by rw[hi.1];exact hle⟩⟩
 obtain⟨d,h1,h2⟩:=GL hi (hy.2 vs h')
 exact⟨d,h1,h2⟩
theorem MY {X:Cx}{q:HZ}{a:Addr}{vs:List V}{xs:List D}(h:SqT X.K q.h a vs) (hi:Iss X.K q.z vs xs):∀H',AH q.h H'→(∀i,i<xs.length→(Itt X.K a).go i H'∧∀x H'',(Itt X.K a).yld i H' x H''→H''=H'∧∃d,xs[i]? = some d∧Is X.K q.z x d)∧∀i,xs.length≤i→(Itt X.K a).stop i H':=by
 intro H' e
 have h':SqT X.K H' a vs:=SqT.same e h
 refine⟨fun i hlt=>⟨⟨vs,vs[i]'(by rw[hi.1];exact hlt),h',qAb (by rw[hi.1];exact hlt)⟩,fun x H'' hy=>⟨hy.1,?_⟩⟩,fun i hle=>⟨vs,h',by rw[hi.1];exact hle⟩⟩
 obtain⟨d,h1,h2⟩:=GL hi (hy.2 vs h')
 exact⟨d,h1,h2⟩
section
variable {X:Cx}{e:Expr}{te:TE3}{ta:TA3}
theorem E5:Src X (Qi X.K (FE X te)) (Qz te):=by
 intro B τ σ H z P R r ht k
 refine⟨B,z,τ,_,r,ht,fun s v H1 e1 i1 f1 h1=>?_⟩
 try dsimp only at h1
 split at h1
 ·rename_i xs hx
  cases s with
  |d z =>
   cases z with
   |tup zs =>
    cases hx
    obtain⟨p,vs,rfl,h3,h4⟩:=Is.tup_inv i1
    exact⟨p,rfl,.inr ⟨⟨vs,SqT.same e1.sub h3⟩,k _ H1 _ e1 h1 (MY (SqT.same e1.sub h3) h4)⟩⟩
   |lst zs =>
    cases hx
    obtain⟨p,vs,rfl,h3,h4⟩:=Is.lst_inv i1
    exact⟨p,rfl,.inl ⟨⟨vs,e1.sub.seq h3⟩,k _ H1 _ e1 h1 (Fm (e1.sub.seq h3) h4)⟩⟩
   |_=>cases hx
  |l zs =>
   cases hx
   obtain⟨p,vs,rfl,h3,h4⟩:=i1
   exact⟨p,rfl,.inl ⟨⟨vs,SqL.of h3⟩,k _ H1 _ e1 h1 (Fm (SqL.of h3) h4)⟩⟩
  |r zs =>
   cases hx
   obtain⟨p,vs,rfl,h3,h4⟩:=i1
   exact⟨p,rfl,.inl ⟨⟨vs,h3⟩,k _ H1 _ e1 h1 (Fm h3 h4)⟩⟩
 ·exact h1.elim
def M0 (lo st:Int)(n:Nat):List D:=(List.range n).map fun(i:Nat)=>D.int (lo+i*st)
theorem Ds (lo st:Int)(n:Nat):(M0 lo st n).length=n:=by unfold M0;rw[qAa,qBE]
theorem He {lo st:Int}{n i:Nat}(h:i<n):(M0 lo st n)[i]? = some (.int (lo+i*st)):=by
 unfold M0
 rw[qAo,qBV h]
 rfl
def O6 (ta:TA3):TX3:=fun τ P=>ta τ fun ss=>match ss with
 |[.d (.int i),.d (.int j)]=>(-(2^62)≤i∧i<2^62∧-(2^62)≤j∧j<2^62)∧P (M0 i 1 (j-i).toNat)
 |_=>False
theorem KL:Src X (LR (FA X ta)) (O6 ta):=by
 intro B τ σ H z P R r ht k
 refine⟨B,z,τ,_,r,ht,fun ss vs H1 e1 i1 h1=>?_⟩
 try dsimp only at h1
 split at h1
 ·rename_i i0 j
  obtain⟨v,u,rfl,hv,hu⟩:=Oe i1
  cases Is.int_inv hv
  cases Is.int_inv hu
  obtain⟨q,hP⟩:=h1
  refine⟨i0,j,rfl,q,k _ H1 _ e1 hP fun H' e=>⟨fun i hlt=>?_,fun i hle=>?_⟩⟩
  ·rw[Ds] at hlt
   refine⟨hlt,fun x H'' hy=>⟨hy.1,_,He hlt,?_⟩⟩
   rw[hy.2,qCg]
   exact .int _
  ·rw[Ds] at hle;exact hle
 ·exact h1.elim
end
def KN (τ:Tau)(idx:List Nat)(x:D):Tau:=some (.d x)::(C8 τ idx).map (Option.map S.share)
structure Jv (X:Cx)(ifs:List Expr)(t:TT3):Prop where
 out:Lg X ifs (FT X t)
def QM:TT3:=fun _ R=>R true
theorem D0 {X:Cx}:Jv X [] QM:=⟨fun pins s σ H Q I ⟨B,z,τ,R,r,ht,q⟩=>KA pins s σ H Q I (q true ⟨H,z⟩ (Ext.refl r.ext.sub) ht)⟩
abbrev cxC (X:Cx)(N:List Str)(scope:Scope)(H₀:Hp):Cx:=Ai X N scope [] 0 X.s₀ H₀ []
section
variable {X:Cx}{x:Str}{px pos:Pos}{scope:Scope}{N:List Str}{idx:List Nat}{cl:List (Str×Addr)}{C:Addr}{s₀:Shared}{H₀ H H':Hp}{fp:List Addr}{σ:St}{τ:Tau}
theorem Ly {B p:HZ}(r:Rep (cxC X N scope H₀) B τ σ p):Rep (Ai X N scope cl C s₀ H₀ fp) B τ σ p:=⟨r.len,r.ext,r.val,r.own,r.sep,r.top,r.pin⟩
theorem KI {α β:Type}(a:List (Option α)) (b:List (Option β)) (idx:List Nat):(C8 a idx).length=(C8 b idx).length:=by unfold C8;rw[qAa,qAa]
theorem Hc {B p p0 q:HZ}{d:D}{v:V}(r:Rep X B τ σ p) (e:Ext p p0) (e':Ext p0 q) (iv:Is X.K q.z v d):Rep (cxC X N scope p0.h) p0 (KN τ idx d) (some v::C8 σ idx) q:=by
 have no:∀(i:Nat)(xs:List D),¬(KN τ idx d)[i]? = some (some (.l xs)):=fun i xs z=>by
  cases i with
  |zero=>cases z
  |succ k =>
   have z':((C8 τ idx).map (Option.map S.share))[k]? = some (some (.l xs)):=z
   rw[qAo] at z'
   cases q:(C8 τ idx)[k]? with
   |none=>rw[q] at z';cases z'
   |some o =>
    rw[q] at z'
    cases o with
    |none=>cases z'
    |some s0 =>
     have z2:s0.share=.l xs:=qAn (qAn z')
     cases s0<;>cases z2
 refine⟨?_,e',fun i s hs=>?_,fun i xs a z _=>absurd z (no i xs),fun i j xs s a _ z _ _ _=>absurd z (no i xs),fun _=>AH.refl _,fun k a h=>by cases h⟩
 ·unfold KN
  rw[qAl,qAl,qAa,KI]
 ·cases i with
  |zero =>
   cases hs
   exact⟨v,rfl,iv⟩
  |succ k =>
   have z':((C8 τ idx).map (Option.map S.share))[k]? = some (some s):=hs
   rw[qAo] at z'
   cases q:(C8 τ idx)[k]? with
   |none=>rw[q] at z';cases z'
   |some o =>
    rw[q] at z'
    cases o with
    |none=>cases z'
    |some s0 =>
     have z2:s0.share=s:=qAn (qAn z')
     obtain⟨j,hj,hτ⟩:=GX q
     obtain⟨w,hw,iw⟩:=r.val j s0 hτ
     refine⟨w,?_,?_⟩
     ·show(C8 σ idx)[k]? = some (some w)
      unfold C8
      rw[qAo,hj]
      show some ((σ[j]?).getD none)=_
      rw[hw]
      rfl
     ·rw[←z2]
      exact(iw.mono (e.trans e')).share
end
def ME (idx:List Nat)(ws:TX3)(tt:TT3)(te:TE3):TE3:=fun τ R=>ws τ fun xs=>∃os:List (Option D),os.length=xs.length ∧
 (∀(n:Nat)(x:D),xs[n]? = some x→tt (KN τ idx x) fun b=>if b=true then te (KN τ idx x) (fun s=>dd s.arg fun y=>os[n]? = some (some y)) else os[n]? = some none)∧xs.length≤100000∧R (.l (os.filterMap id))
section
variable {X:Cx}{x:Str}{px pos:Pos}{scope:Scope}{N:List Str}{idx:List Nat}{elt iter:Expr}{ifs:List Expr}{wi:TI}{ws:TX3}{tt:TT3}{te:TE3}
theorem Hb (hsrc:Src X wi ws){σ:St}{H:Hp}{Q:VK}(h:FE X (ME idx ws tt te) σ H Q):Kf X.K idx wi (fun H₀=>FT (cxC X N scope H₀) tt) (fun H₀=>FE (cxC X N scope H₀) te) σ H Q:=by
 obtain⟨B,z,τ,R,r,ht,q⟩:=h
 refine hsrc B τ σ H z _ _ r ht fun J p1 xs e1 hP hJ=>fun D' hD hK=>?_
 obtain⟨os,hlen,hel,hsz,hR⟩:=hP
 have sz:(100000:Nat)<sizeLine:=∅
 refine⟨fun i m ys H'=>m=xs.length-i∧i≤xs.length∧∃z',Ext p1 ⟨H',z'⟩∧z' D'=none∧Iss X.K z' ys ((os.take i).filterMap id),⟨xs.length,rfl,qBd _,p1.z,Ext.own e1.sub hD _,e1.sub.free hD,Iss.nil⟩,?_⟩
 rintro i m ys H' hD' ⟨rfl,hi,z',hs,hzD,hiss⟩
 by_cases hlt:i<xs.length
 ·obtain⟨go,yl⟩:=(hJ H' hs.hh).1 i hlt
  refine .inr ⟨go,fun v H'' hy=>?_⟩
  obtain⟨rfl,d,hx,iv⟩:=yl v H'' hy
  have rr:Rep (cxC X N scope p1.h) p1 (KN τ idx d) (some v::C8 σ idx) ⟨H'',z'⟩:=Hc r e1 hs (iv.mono hs.zz)
  have hys:ys.length≤i:=by
   rw[hiss.1]
   refine qAr (qB5 _ _) ?_
   rw[qAz];omega
  have keep:∀q:HZ,Ext ⟨H'',z'⟩ q→q.z D'=none:=fun q e=>by
   cases y:q.z D' with
   |none=>rfl
   |some o =>
    rcases e.new D' o y with y|y
    ·exact nomatch (hzD.symm.trans y)
    ·exact nomatch (hD'.symm.trans y)
  refine⟨_,_,_,_,rr,hel i d hx,fun b q3 e3 hb=>?_⟩
  cases b with
  |true =>
   rw[if_pos rfl] at hb ⊢
   refine⟨_,_,_,_,rr.mono e3,hb,fun s v2 q4 e4 i4 f4 h4=>?_⟩
   obtain⟨y,hy',h4⟩:=Ea h4
   obtain⟨z5,e5,i5⟩:=DG e4 i4 f4
   rw[hy'] at i5
   have e35:=e3.trans e5
   have hD4:q4.h D'=some (.lst ys):=e35.hh _ _ hD'
   have hz5:z5 D'=none:=keep _ e35
   refine⟨hD4,(),xs.length-(i+1),(),rfl,hlt,z5,?_,hz5,?_⟩
   ·have e15:=hs.trans e35
    refine⟨fun b o hb'=>?_,e15.zz,fun b o hb'=>?_,e15.new⟩
    ·have hne:b≠D':=by rintro rfl;rw[hD] at hb';cases hb'
     show upd q4.h D' _ b=some o
     rw[Ar hne]
     exact e15.hh b o hb'
    ·have hne:b≠D':=by
      rintro rfl
      have hb2:z5 b=some o:=hb'
      rw[hz5] at hb2;cases hb2
     show upd q4.h D' _ b=some o
     rw[Ar hne]
     exact e15.sub b o hb'
   ·rw[qA0,h4,qBI]
    exact(hiss.mono e35.zz).snoc i5
  |false =>
   rw[if_neg qAf] at hb ⊢
   refine⟨e3.hh _ _ hD',xs.length-(i+1),(),rfl,hlt,q3.z,hs.trans e3,keep _ e3,?_⟩
   rw[qA0,hb,qBI]
   have:([none]:List (Option D)).filterMap id=[]:=rfl
   show Iss X.K q3.z ys ((os.take i).filterMap id++([none]:List (Option D)).filterMap id)
   rw[this,qAZ]
   exact hiss.mono e3.zz
 ·have ei:i=xs.length:=()
  subst ei
  refine .inl ⟨(hJ H' hs.hh).2 _ (qAj _),q (.l (os.filterMap id)) _ ⟨H',z'⟩ (e1.trans hs) ⟨D',ys,rfl,hD',?_⟩ (fun xs a _ h2=>?_) hR⟩
  ·rw[←hlen,qBH] at hiss
   exact hiss
  ·cases h2
   exact⟨e1.hh.free hD,hK,hzD⟩
theorem Gq (hifs:∀cl C s₀ H₀ fp,Jv (Ai X N scope cl C s₀ H₀ fp) ifs tt):∀cl C s₀ H₀ fp,Lg (Ai X N scope cl C s₀ H₀ fp) ifs (FT (cxC X N scope H₀) tt):=fun cl C s₀ H₀ fp pins s σ H Q I ⟨B,z,τ,R,r,ht,q⟩ =>
 (hifs cl C s₀ H₀ fp).out pins s σ H Q I ⟨B,z,τ,R,Ly r,ht,q⟩
theorem Ij (helt:∀cl C s₀ H₀ fp,PE3 (Ai X N scope cl C s₀ H₀ fp) elt te):∀cl C s₀ H₀ fp,PE (Ai X N scope cl C s₀ H₀ fp) elt (FE (cxC X N scope H₀) te):=fun cl C s₀ H₀ fp pins s σ H Q I ⟨B,z,τ,R,r,ht,q⟩ =>
 (helt cl C s₀ H₀ fp).out pins s σ H Q I ⟨B,z,τ,R,Ly r,ht,q⟩
theorem Ny (O:Bk X x scope N idx)(hc:X.calm=true)(hi:PI X (.Name x px) iter wi)(hsrc:Src X wi ws)(hifs:∀cl C s₀ H₀ fp,Jv (Ai X N scope cl C s₀ H₀ fp) ifs tt)(helt:∀cl C s₀ H₀ fp,PE3 (Ai X N scope cl C s₀ H₀ fp) elt te)
 (hs:∀x,foldedSetIterable iter X.env x=pure x:=by intro _;rfl):PE3 X (.ListComp elt [⟨.Name x px,iter,ifs,0⟩] scope pos) (ME idx ws tt te) :=
 ⟨Ax (LW O hc hi (Gq hifs) (Ij helt) hs) fun σ H Q h=>Hb hsrc h⟩
theorem Jz {i:Nat}{y:Str}{py spos:Pos}(O:Bk X x scope N idx) (hc:X.calm=true) (hi:PI X (.Name x px) iter wi) (hsrc:Src X wi ws) (hifs:∀cl C s₀ H₀ fp,Jv (Ai X N scope cl C s₀ H₀ fp) ifs tt) (helt:∀cl C s₀ H₀ fp,PE3 (Ai X N scope cl C s₀ H₀ fp) elt te)
 (hN:X.N.Nodup) (hy:X.N[i]? = some y) (hly:Loc X.env.scope y)
 (hsw:swapsWith (.ListComp elt [⟨.Name x px,iter,ifs,0⟩] scope pos) (some (.Name y py)) spos.line X.env=pure true:=by rfl) (hs:∀x,foldedSetIterable iter X.env x=pure x:=by intro _;rfl)
 (hfn:X.fn y=true∨X.env.scope.names.lookup y=some .local:=by first|exact .inl rfl|exact .inr rfl|assumption) (hp:DH X i:=by first|exact CU rfl|exact pin_ne rfl ∅|assumption) :
 PS3 X (.Assign [.Name y py] (.ListComp elt [⟨.Name x px,iter,ifs,0⟩] scope pos) spos) (OM i (ME idx ws tt te)) :=
 ⟨BS (HP O hc hi (Gq hifs) (Ij helt) hN hy hly hsw hs hfn) fun D2 σ H hh=>by obtain⟨B,z,τ,D3,r,ht,c⟩:=hh;exact Hb hsrc ⟨B,z,τ,_,r,ht,fun s v H' e i f h=>by
  cases s with
  |r _=>exact h.elim
  |d y=>exact c.nx _ _ _ (r.set e i f rfl hp) h
  |l ys=>exact c.nx _ _ _ (r.set e i f rfl hp) h⟩⟩
end
end L3
namespace L3
open PySem PySem.Spec PyProof.Rows L2
def Hj (fN:List Str)(scope:Scope)(N:List Str):Nat→List Nat→Bool
 |_,[]=>true
 |k,j::r=>(match N[k+1]?,fN[j]? with
  |some y,some y'=>y==y'&&(scope.names.lookup y==some NameKind.free)
  |_,_=>false)&&Hj fN scope N (k+1) r
def Io (fsc:Scope)(fN:List Str)(x:Str)(scope:Scope)(N:List Str)(idx:List Nat):Bool :=
 (scope.kind == .function)&&scope.names.all (fun y=>!(y.2 == .cell))&&scope.names.all (fun y=>!(y.2 == .local)||scope.names.lookup y.1==some .local)&&(scope.names.lookup x==some NameKind.local) &&
 scope.names.all (fun y=>!(y.2 == .free)||fsc.names.lookup y.1==some .cell)&&decide N.Nodup&&(N[0]? == some x)&&(N.length==idx.length+1)&&Hj fN scope N 0 idx
theorem K7 {fN:List Str}{scope:Scope}{N:List Str}:∀{idx:List Nat}{k0:Nat},Hj fN scope N k0 idx=true→∀(k j:Nat),idx[k]? = some j→∃y,N[k0+k+1]? = some y∧fN[j]? = some y∧scope.names.lookup y=some .free
 |[],_,_,_,_,h=>by simp at h
 |i::r,k0,h,k,j,hk=>by
  unfold Hj at h
  rw[qAN] at h
  cases k with
  |zero =>
   have e:i=j:=by simpa using hk
   subst e
   obtain⟨h1,_⟩:=h
   split at h1
   ·rename_i y y' e1 e2
    rw[qAN] at h1
    have ey:y=y':=by simpa using h1.1
    subst ey
    exact⟨y,e1,e2,by simpa using h1.2⟩
   ·cases h1
  |succ k =>
   obtain⟨y,a,b,c⟩:=K7 h.2 k j (by simpa using hk)
   exact⟨y,by rw[←a];congr 1;omega,b,c⟩
theorem Bk.mk' {X:Cx}{x:Str}{scope:Scope}{N:List Str}{idx:List Nat}(fsc:Scope) (fN:List Str) (h1:X.env.scope=fsc) (h2:X.N=fN) (h:Io fsc fN x scope N idx=true):Bk X x scope N idx:=by
 subst h1 h2
 unfold Io at h
 simp only[qAN] at h
 obtain⟨⟨⟨⟨⟨⟨⟨⟨a1,a2⟩,a3⟩,a4⟩,a5⟩,a6⟩,a7⟩,a8⟩,a9⟩:=h
 refine⟨by simpa using a1,fun y hy=>?_,fun y hy hl=>?_,by simpa using a4,fun y hy hf=>?_,by simpa using a6,by simpa using a7,by simpa using a8,fun k j hk=>?_⟩
 ·have:=qAs.mp a2 y hy
  simpa using this
 ·have:=qAs.mp a3 y hy
  rw[hl] at this
  simpa using this
 ·have:=qAs.mp a5 y hy
  rw[hf] at this
  show X.env.scope.names.lookup y.1=some .cell
  simpa using this
 ·have:=K7 a9 k j hk
  simpa using this
end L3
namespace L3
open PySem PySem.Spec PyProof.Rows L2
section
variable {X:Cx}{e a b c:Expr}{te ta tb tc:TE3}{pos:Pos}
theorem P0 {t:TE}(h:PE X e t):PE X e (fun σ H Q=>t σ H fun v H'=>(∀a o,H' a=some o→X.K.lookup a=none)→Q v H'):=fun pins s σ H Q I q =>
 thn (h pins s σ H _ I q) fun u s1 ⟨v,H1,I1,r1,q1⟩=>⟨v,H1,I1,r1,q1 fun a o e=>by
  cases y:X.K.lookup a with
  |none=>rfl
  |some o' =>
   have:=(I1.bs a o' (I1.ok.mod.kin a o' y)).2
   rw[e] at this
   cases this⟩
def Qg:R3:=fun dx dy R=>match dx,dy with
 |.tup xs,.tup ys=>xs≠[]∧xs.length+ys.length≤100000∧R (.tup (xs++ys))
 |.lst xs,.lst ys=>xs.length+ys.length≤100000∧R (.lst (xs++ys))
 |.int i,.int j=>R (.int (i+j))
 |_,_=>False
theorem Iss.append {K:PySem.W.Frag}{H:Hp}{vs ws:List V}{xs ys:List D}(h:Iss K H vs xs) (h':Iss K H ws ys):Iss K H (vs++ws) (xs++ys):=by
 refine⟨by simp[h.1,h'.1],fun i v x h1 h2=>?_⟩
 by_cases hi:i<vs.length
 ·rw[qAC hi] at h1
  rw[qAC (by have:=h.1;omega)] at h2
  exact h.2 i v x h1 h2
 ·rw[qAy ()] at h1
  rw[qAy (by have:=h.1;omega)] at h2
  have:=h.1
  exact h'.2 (i-vs.length) v x h1 (by rw[this];exact h2)
theorem Ej {K:PySem.W.Frag}{H:Hp}{vs:List V}{xs:List D}(h:Iss K H vs xs):vs=[] ↔ xs=[]:=by
 have:=h.1
 constructor
 ·rintro rfl;exact qAG (by simpa using this.symm)
 ·rintro rfl;exact qAG (by simpa using this)
theorem PQ:DW X (binaryOp .Add) Qg:=CB ((Mp.or N2).or Lj) fun x y H Q hh=>by
 obtain⟨z,dx,dy,R,hz,hx,hy,h3,q⟩:=hh
 have sz:(100000:Nat)<sizeLine:=∅
 unfold Qg at h3
 split at h3
 ·rename_i xs ys
  obtain⟨h1,h2,h3⟩:=h3
  obtain⟨p,vs,rfl,g1,g2⟩:=Is.tup_inv hx
  obtain⟨p',ws,rfl,g1',g2'⟩:=Is.tup_inv hy
  refine .inl (.inl ⟨p,p',vs,ws,rfl,rfl,SqT.same hz g1,SqT.same hz g1',fun w=>h1 ((Ej g2).mp w),by rw[g2.1,g2'.1];omega,fun w=>?_,fun w l hl=>?_⟩)
  ·have:ys=[]:=(Ej g2').mp w
   subst this
   rw[qAZ] at h3
   exact q _ _ ⟨H,z⟩ (Ext.refl hz) hx h3
  ·have j:=(g2.append g2').mono (Bb (hz.free hl) (.tup (vs++ws)))
   exact q _ _ _ (Ext.lay hz hl (.tup (vs++ws))) (Is.tup (SqT.of Al) j.1 j.2) h3
 ·rename_i xs ys
  obtain⟨h2,h3⟩:=h3
  obtain⟨p,vs,rfl,g1,g2⟩:=Is.lst_own hx
  obtain⟨p',ws,rfl,g1',g2'⟩:=Is.lst_own hy
  refine .inl (.inr ⟨p,p',vs,ws,rfl,rfl,hz _ _ g1,hz _ _ g1',by rw[g2.1,g2'.1];omega,fun l hl=>?_⟩)
  have j:=(g2.append g2').mono (Bb (hz.free hl) (.lst (vs++ws)))
  exact q _ _ _ (Ext.lay hz hl (.lst (vs++ws))) (Is.lst Al j.1 j.2) h3
 ·rename_i i j
  exact .inr ⟨i,j,hx.int_inv,hy.int_inv,q _ _ ⟨H,z⟩ (Ext.refl hz) (.int _) h3⟩
 ·exact h3.elim
def A3 (xs:List D)(lo hi:Option Int):List D:=(xs.drop (HT.sIx xs.length 0 lo)).take (HT.sIx xs.length xs.length hi-HT.sIx xs.length 0 lo)
theorem Ik {K:PySem.W.Frag}{H:Hp}{vs:List V}{xs:List D}(h:Iss K H vs xs) (lo hi:Option Int):Iss K H (HQ vs lo hi) (A3 xs lo hi):=by
 unfold HQ A3
 rw[h.1]
 refine⟨by simp[h.1],fun i v x h1 h2=>?_⟩
 rw[List.getElem?_take] at h1 h2
 split at h1
 ·rename_i hlt
  rw[if_pos hlt] at h2
  rw[qB0] at h1 h2
  exact h.2 _ v x h1 h2
 ·cases h1
abbrev TO3:=Tau→(Option Int→Prop)→Prop
structure PO3 (X:Cx)(e:Option Expr)(t:TO3):Prop where
 out:PO X e (fun σ H Q=>∃B z τ R,Rep X B τ σ ⟨H,z⟩∧t τ R∧∀o q,Ext ⟨H,z⟩ q→R o→Q o q.h)
def oNo:TO3:=fun _ R=>R none
def QG (te:TE3):TO3:=fun τ R=>te τ fun s=>match s with
 |.d (.int i)=>R (some i)
 |_=>False
theorem DV:PO3 X none oNo:=⟨fun pins s σ H Q I ⟨B,z,τ,R,r,ht,q⟩=>Mr pins s σ H Q I (q none ⟨H,z⟩ (Ext.refl r.ext.sub) ht)⟩
theorem Bm (h:PE3 X e te):PO3 X (some e) (QG te):=⟨fun pins s σ H Q I ⟨B,z,τ,R,r,ht,q⟩=>My h.out pins s σ H Q I ⟨B,z,τ,_,r,ht,fun s v q1 e1 i1 f1 h1=>by
 split at h1
 ·rename_i i
  exact⟨i,Is.int_inv i1,q _ _ e1 h1⟩
 ·exact h1.elim⟩⟩
def vSl (te:TE3)(lo hi:TO3):TE3:=fun τ R=>te τ fun x=>lo τ fun l=>hi τ fun u=>match x with
 |.d (.tup xs)=>¬(HT.sIx xs.length 0 l=0∧HT.sIx xs.length xs.length u=xs.length)∧R (.d (.tup (A3 xs l u)))
 |.d (.lst xs)=>R (.l (A3 xs l u))
 |.l xs=>R (.l (A3 xs l u))
 |.r xs=>R (.l (A3 xs l u))
 |_=>False
theorem EO {lo hi:Option Expr}{tl th:TO3}{p2:Pos}(he:PE3 X e te) (hl:PO3 X lo tl) (hh:PO3 X hi th):PE3 X (.Subscript e (.Slice lo hi none p2) pos) (vSl te tl th) :=
 ⟨Ax (P0 (GU (NS.or MP) he.out hl.out hh.out)) fun σ H Q hh=>by
  obtain⟨B,z,τ,R,r,ht,q⟩:=hh
  refine⟨B,z,τ,_,r,ht,fun x v q1 e1 i1 f1 h1=>?_⟩
  refine⟨B,_,τ,_,r.mono e1,h1,fun l q2 e2 h2=>?_⟩
  refine⟨B,_,τ,_,(r.mono e1).mono e2,h2,fun u q3 e3 h3=>?_⟩
  have e23:=e2.trans e3
  have i1':=IsS.mono e23 i1
  have lists:∀(p:Addr)(vs:List V)(xs:List D),v=.ref p→SqL X.K q3.h p vs→Iss X.K q3.z vs xs→R (.l (A3 xs l u))→∃a xs,v=.ref a∧SqL X.K q3.h a xs∧∀p,q3.h p=none→((∀a o,upd q3.h p (.lst (HQ xs l u)) a=some o→X.K.lookup a=none)→Q (.ref p) (upd q3.h p (.lst (HQ xs l u)))):=fun p vs xs hv hs hi hR =>
   ⟨p,vs,hv,hs,fun d hd hk=>q (.l (A3 xs l u)) _ ⟨_,q3.z⟩ ((e1.trans e23).trans (Ext.own e23.sub hd _)) ⟨d,_,rfl,Al,Ik hi l u⟩ (fun ys a _ h2=>by
    cases h2
    exact⟨(e1.trans e23).hh.free hd,hk d _ Al,e23.sub.free hd⟩) hR⟩
  split at h3
  ·rename_i xs
   obtain⟨p,vs,rfl,g1,g2⟩:=Is.tup_inv i1'
   refine .inl ⟨p,vs,rfl,SqT.same e23.sub g1,by rw[g2.1];exact h3.1,fun d hd _=>?_⟩
   have j:=(Ik g2 l u).mono (Bb (e23.sub.free hd) (.tup (HQ vs l u)))
   exact q (.d _) _ _ ((e1.trans e23).trans (Ext.lay e23.sub hd (.tup (HQ vs l u)))) (Is.tup (SqT.of Al) j.1 j.2) Ce h3.2
  ·rename_i xs
   obtain⟨p,vs,rfl,g1,g2⟩:=Is.lst_inv i1'
   exact .inr (lists p vs xs rfl (e23.sub.seq g1) g2 h3)
  ·rename_i xs
   obtain⟨p,vs,rfl,g1,g2⟩:=i1'
   exact .inr (lists p vs xs rfl (SqL.of g1) g2 h3)
  ·rename_i xs
   obtain⟨p,vs,rfl,g1,g2⟩:=i1'
   exact .inr (lists p vs xs rfl g1 g2 h3)
  ·exact h3.elim⟩
def M9 (te:TE3):TE3:=fun τ R=>te τ fun s=>match items s with
 |some xs=>R (.d (.tup xs))
 |none=>False
theorem LA {K:PySem.W.Frag}{p:HZ}{v:V}{s:S}{xs:List D}(i:IsS K p v s) (hz:AH p.z p.h) (h:items s=some xs):∃a vs,v=.ref a∧Iss K p.z vs xs∧((SqL K p.h a vs)∨(SqT K p.z a vs∧s=.d (.tup xs))):=by
 cases s with
 |d z =>
  cases z with
  |tup zs=>cases h;obtain⟨a,vs,rfl,g1,g2⟩:=Is.tup_inv i;exact⟨a,vs,rfl,g2,.inr ⟨g1,rfl⟩⟩
  |lst zs=>cases h;obtain⟨a,vs,rfl,g1,g2⟩:=Is.lst_inv i;exact⟨a,vs,rfl,g2,.inl (hz.seq g1)⟩
  |_=>cases h
 |l zs=>cases h;obtain⟨a,vs,rfl,g1,g2⟩:=i;exact⟨a,vs,rfl,g2,.inl (SqL.of g1)⟩
 |r zs=>cases h;obtain⟨a,vs,rfl,g1,g2⟩:=i;exact⟨a,vs,rfl,g2,.inl g1⟩
theorem Gu {p:Pos}(he:PE3 X e te) (hg:Gl X "tuple") (hm:X.mg "tuple"=none) (hs:starEach [e] X.env=(false,eval e X.env)::starEach [] X.env:=by exact AV rfl):PE3 X (.Call (.Name "tuple" p) [e] [] pos) (M9 te) :=
 ⟨Ax (Fy E7 hg hm PyProof.Rows.boot_tuple (AM he.out BI hs) (he:=hs)) fun σ H Q hh=>by obtain⟨B,z,τ,R,r,ht,q⟩:=hh;exact⟨B,z,τ,_,r,ht,fun s v q1 e1 i1 f1 h1=>by
  split at h1
  ·rename_i xs hx
   obtain⟨a,vs,rfl,g2,g1⟩:=LA i1 e1.sub hx
   refine⟨a,vs,rfl,?_⟩
   rcases g1 with g1|⟨g1,rfl⟩
   ·refine .inl ⟨g1,fun d hd=>?_⟩
    have j:=g2.mono (Bb (e1.sub.free hd) (.tup vs))
    exact q (.d _) _ _ (e1.trans (Ext.lay e1.sub hd (.tup vs))) (Is.tup (SqT.of Al) j.1 j.2) Ce h1
   ·exact .inr ⟨SqT.same e1.sub g1,q (.d _) _ q1 e1 i1 Ce h1⟩
  ·exact h1.elim⟩⟩
end
end L3
namespace L3
open PySem PySem.Spec PyProof.Rows L2
section
variable {X:Cx}{e a b c:Expr}{te ta tb tc ti:TE3}{pos:Pos}
def PN:S→Option (List D)
 |.d (.lst xs)=>some xs
 |.l xs=>some xs
 |.r xs=>some xs
 |_=>none
theorem Lr {K:PySem.W.Frag}{p:HZ}{v:V}{s:S}{xs:List D}(i:IsS K p v s) (hz:AH p.z p.h) (h:PN s=some xs):∃a vs,v=.ref a∧Iss K p.z vs xs∧SqL K p.h a vs:=by
 cases s with
 |d z =>
  cases z with
  |lst zs=>cases h;obtain⟨a,vs,rfl,g1,g2⟩:=Is.lst_inv i;exact⟨a,vs,rfl,g2,hz.seq g1⟩
  |_=>cases h
 |l zs=>cases h;obtain⟨a,vs,rfl,g1,g2⟩:=i;exact⟨a,vs,rfl,g2,SqL.of g1⟩
 |r zs=>cases h;obtain⟨a,vs,rfl,g1,g2⟩:=i;exact⟨a,vs,rfl,g2,g1⟩
end
end L3
namespace L3
open PySem PySem.Spec PyProof.Rows L2
section
variable {X:Cx}{e:Expr}{es:List Expr}{tr:TA3}{th:TS3}
end
structure GC (K:PySem.W.Frag)(mg:Str→Option Value)(x:Str)(d:D):Prop where
 ex:∃u v,mg x=some u∧Bi v u∧∀H,Is K H v d
theorem Ol {X:Cx}{x:Str}{d:D}{pos:Pos}(hg:Gl X x) (c:GC X.K X.mg x d) (hd:(x==("__debug__":Str))=false:=by decide):PE3 X (.Name x pos) (vC d):=by
 obtain⟨u,v,hm,hr,hi⟩:=c.ex
 exact⟨Ax (IZ hg hm hr hd) fun σ H Q hh=>by obtain⟨B,z,τ,R,r,ht,q⟩:=hh;exact q (.d d) v ⟨H,z⟩ (Ext.refl r.ext.sub) (hi _) Ce ht⟩
def KD (K:PySem.W.Frag)(u:Value)(d:D):Prop:=∃v,Bi v u∧∀H,Is K H v d
theorem KD.of {K:PySem.W.Frag}{mg:Str→Option Value}{x:Str}{u:Value}{d:D}(hm:mg x=some u) (h:KD K u d):GC K mg x d:=by
 obtain⟨v,r,i⟩:=h
 exact⟨u,v,hm,r,i⟩
section
variable {K:PySem.W.Frag}
theorem KD.int {i:Int}{t}:KD K (Value.int i t) (.int i):=⟨.int i,⟨t,rfl⟩,fun _=>.int i⟩
theorem KD.str {x:Str}{t}:KD K (Value.str x t) (.str x):=⟨.str x,⟨t,rfl⟩,fun _=>.str x⟩
inductive KDs (K:PySem.W.Frag):List Value→List D→Prop where
 |nil:KDs K [] []
 |cons {u:Value}{us:List Value}{d:D}{ds:List D}:KD K u d→KDs K us ds→KDs K (u::us) (d::ds)
theorem KDs.out:∀{us:List Value}{ds:List D},KDs K us ds→∃vs,Be vs us∧∀H,Iss K H vs ds
 |_,_,.nil=>⟨[],.nil,fun _=>⟨rfl,fun i v x h=>by simp at h⟩⟩
 |_,_,.cons ⟨v,r,i⟩ t=>by
  obtain⟨vs,rs,is⟩:=t.out
  refine⟨v::vs,.cons r rs,fun H=>⟨by simp[(is H).1],fun j w x h1 h2=>?_⟩⟩
  cases j with
  |zero=>simp at h1 h2;subst h1;subst h2;exact i H
  |succ j=>exact(is H).2 j w x (by simpa using h1) (by simpa using h2)
theorem KD.tup {a:Addr}{od:Option Addr}{its:Array Value}{n:Nat}{sl:Array (Option Value)}{ds:List D}(h:K.lookup a=some ⟨.type "tuple",od,.seq its n,sl⟩) (hz:its.size≤sizeLine) (hs:KDs K its.toList ds):KD K (.ref a) (.tup ds):=by
 obtain⟨vs,rs,is⟩:=hs.out
 exact⟨.ref a,rfl,fun H=>.tup (.inr ⟨_,its,n,h,rfl,rfl,hz,rs⟩) (is H).1 (is H).2⟩
end
end L3
namespace L3
open PySem PySem.Spec PyProof.Rows L2
section
variable {X:Cx}{e:Expr}{es:List Expr}{tr:TA3}
end
end L3
namespace CH
open PySem L2 L3
theorem Ew {i j:Int}{m n:Nat}(hi:i.natAbs<2^m) (hj:j.natAbs<2^n) (h:m+n≤134217728):IntMulOk i j :=
 PyProof.Rows.mulOk_of_bits (qB8 hi) (qB8 hj) h
def dg (n:Int):Nat:=if n==0 then 0 else n.natAbs.log2/30+1
theorem Jn {i:Int}{m:Nat}(h:i.natAbs<2^m):dg i≤m/30+1:=by
 unfold dg
 by_cases h0:(i==0)=true
 ·rw[if_pos h0];omega
 ·rw[if_neg h0]
  have hn:i.natAbs≠0:=by
   intro z
   apply h0
   have:i=0:=()
   rw[this];rfl
  have:i.natAbs.log2<m:=(Nat.log2_lt hn).mpr h
  omega
theorem OS {i j:Int}(h:i.natAbs<2^13000):Builtin.divisionGoesByPylong i j=false:=by
 have k:=Jn h
 clear h
 show(decide (dg j>300)&&decide (dg i>dg j+150))=false
 rw[Bool.and_eq_false_iff]
 by_cases hq:dg j>300
 ·exact .inr (decide_eq_false ())
 ·exact .inl (decide_eq_false hq)
theorem Ja {i j:Int}(h:j.natAbs<1073741824):Builtin.divisionGoesByPylong i j=false:=PyProof.noPylong_small h
theorem Ib (i:Int):0≤(if i<0 then -i else i):=by split<;>omega
def cell (ns:List Int)(k:Int):Int:=ns.getD k.toNat 0
theorem Ky {ns:List Int}{k:Int}(h0:0≤k) (h1:k<(ns.length:Int)):atI (ns.map D.int) k=some (.int (cell ns k)):=by
 have hk:k.toNat<ns.length:=()
 have ek:k=((k.toNat:Nat):Int):=()
 have q:atI (ns.map D.int) ((k.toNat:Nat):Int)=some (.int ns[k.toNat]):=Cz (by rw[qAo,qAb hk]<;>rfl)
 rw[←ek] at q
 rw[q]
 unfold cell
 rw[qAB,qAb hk]
 rfl
abbrev I (i:Int):Option S:=some (.d (.int i))
theorem Cc {c A B:Prop} [Decidable c] (h1:c→A) (h2:¬c→B):if decide c=true then A else B:=by
 by_cases h:c
 ·rw[decide_eq_true h,if_pos rfl];exact h1 h
 ·rw[decide_eq_false h,if_neg qAf];exact h2 h
theorem NB {c A B:Prop} [Decidable c] (h1:¬c→A) (h2:c→B):if (!decide c)=true then A else B:=by
 by_cases h:c
 ·rw[decide_eq_true h];exact h2 h
 ·rw[decide_eq_false h];exact h1 h
end CH
namespace L3
end L3
namespace L3
open PySem PySem.Spec PyProof.Rows L2
section
variable {prog:Program}{w:World}{A:Around}{R:Result→Shared→Prop}{s:Shared}
end
section
variable {X:Cx}{pins:List (Addr×Obj)}{σ:St}{H1 H:Hp}{s1 s:Shared}{x:Str}{scope:Scope}{N:List Str}{idx:List Nat}{cl:List (Str×Addr)}
end
section
variable {X:Cx}{pins:List (Addr×Obj)}{σ:St}{H:Hp}{s:Shared}
end
section
variable {P:Program}{w:World}{K:PySem.W.Frag}{mg:Str→Option Value}{base:Heap}
end
section
variable {X:Cx}{pos:Pos}{e:Expr}{te tb:TE3}
end
section
variable {P:Program}{w:World}{K:PySem.W.Frag}{mg:Str→Option Value}{base:Heap}
end
theorem EA {us:List Value}{n:Nat}(h:us.length=n+1):∃x r,us=x::r∧r.length=n:=by
 cases us with
 |nil=>cases h
 |cons x r=>exact⟨x,r,rfl,Nat.succ.inj h⟩
theorem J4 {us:List Value}(h:us.length=1):∃x0,us=[x0]:=by
 obtain⟨x0,r0,e0,h0⟩:=EA h
 have e:=qAG h0
 exact⟨x0,by rw[e0,e]⟩
theorem JY {us:List Value}(h:us.length=2):∃x0 x1,us=[x0,x1]:=by
 obtain⟨x0,r0,e0,h0⟩:=EA h
 obtain⟨x1,r1,e1,h1⟩:=EA h0
 have e:=qAG h1
 exact⟨x0,x1,by rw[e0,e1,e]⟩
theorem Pp {us:List Value}(h:us.length=3):∃x0 x1 x2,us=[x0,x1,x2]:=by
 obtain⟨x0,r0,e0,h0⟩:=EA h
 obtain⟨x1,r1,e1,h1⟩:=EA h0
 obtain⟨x2,r2,e2,h2⟩:=EA h1
 have e:=qAG h2
 exact⟨x0,x1,x2,by rw[e0,e1,e2,e]⟩
theorem Pf {us:List Value}(h:us.length=4):∃x0 x1 x2 x3,us=[x0,x1,x2,x3]:=by
 obtain⟨x0,r0,e0,h0⟩:=EA h
 obtain⟨x1,r1,e1,h1⟩:=EA h0
 obtain⟨x2,r2,e2,h2⟩:=EA h1
 obtain⟨x3,r3,e3,h3⟩:=EA h2
 have e:=qAG h3
 exact⟨x0,x1,x2,x3,by rw[e0,e1,e2,e3,e]⟩
open Classical in
theorem HV {P q:Program}{loose:List Str}{mean:ExcName→Option Value}{w:World}{K:PySem.W.Frag}{mg mb:Str→Option Value}{k:Nat}{fa a:Addr}{fd:FuncData}{x:Str}{s₁:Shared}{vs:List Value}{ns:List Int}
 (T:Top q loose mean mg mb s₁.heap) (hq:∀y:Str,(recsOf P).any (fun d=>d.name==y)=true→(recsOf q).any (fun d=>d.name==y)=true) (hnt:PySem.W.noTabs K=true) (KX:K.In s₁.heap) (hg:s₁.gens=#[])
 (ha:s₁.heap.get? a=some { cls:=.type "list",data:=.seq vs.toArray }) (hi:IntsAre vs ns) (hl:ns.length≤63) (hr:Dr k callerA)
 (F:∀base:Heap,K.In base→base.Ns mainGlobals mg→∃mg',AS P w K mg base CX0 k fa fd [x] (Ak K mg' G7)) (hbind:∀(s:Shared)(u:Value),BindsTo s fd ⟨[u],[]⟩ [(x,u)]) :
 codeAny (model P w) callerA (.call (.ref fa) ⟨[.ref a],[]⟩) (fun r s'=>r=.ok (.ret (.bool true))∧OldK s₁.heap s'.heap∧s'.os=s₁.os∧AllBare s'.gens) s₁:=by
 have rv:=FL hi
 have lenV:=hi.length
 have sz:(63:Nat)≤sizeLine:=∅
 let IsT:Addr→Prop:=fun b=>∃y c,PySem.W.tabIn K y=some (c,b)∧(recsOf P).any (fun d=>d.name==y)=true
 have tabs:∀{y:Str}{c b:Addr},PySem.W.tabIn K y=some (c,b)→(recsOf P).any (fun d=>d.name==y)=true→PySem.W.CodeHd s₁.heap c b∧s₁.heap.get? b=some (PySem.W.tabObj #[]):=fun {y c b} h1 h2=>by
  have h3:=hq y h2
  cases e:(recsOf q).find? (fun d=>d.name==y) with
  |some d=>exact PySem.W.tab_of T KX e h1
  |none =>
   obtain⟨d,hd,hn⟩:=List.any_eq_true.mp h3
   exact absurd hn (List.find?_eq_none.mp e d hd)
 have tabG:∀{b:Addr},IsT b→s₁.heap.get? b=some (PySem.W.tabObj #[]):=fun⟨_,_,h1,h2⟩=>(tabs h1 h2).2
 let H:Hp:=fun b=>if b=a∧K.lookup a=none then some (.frz { cls:=.type "list",data:=.seq vs.toArray } (.lst (ns.map V.int))) else if IsT b then some (.tbl #[]) else none
 have Ha:K.lookup a=none→H a=some (.frz { cls:=.type "list",data:=.seq vs.toArray } (.lst (ns.map V.int))):=fun h=>if_pos ⟨rfl,h⟩
 have neT:∀{b:Addr},IsT b→b≠a:=fun t z=>by
  have:=tabG t
  rw[z,ha] at this
  cases this
 have Ht:∀{b:Addr},IsT b→H b=some (.tbl #[]):=fun {b} t=>(if_neg (fun z=>neT t z.1)).trans (if_pos t)
 have Hn:∀{b:Addr},¬(b=a∧K.lookup a=none)→¬IsT b→H b=none:=fun {b} h1 h2=>(if_neg h1).trans (if_neg h2)
 have J5:∀b,H b=none∨(b=a∧K.lookup a=none)∨IsT b:=fun b=>by
  by_cases h1:b=a∧K.lookup a=none
  ·exact .inr (.inl h1)
  ·by_cases h2:IsT b
   ·exact .inr (.inr h2)
   ·exact .inl (Hn h1 h2)
 have free_of:∀{b:Addr}{o:Obj},s₁.heap.get? b=some o→(∀xs n,o.data≠.seq xs n)→o≠PySem.W.tabObj #[]→H b=none:=fun {b o} e h1 h2=>by
  refine Hn (fun z=>?_) (fun z=>?_)
  ·rw[z.1,ha] at e
   cases e
   exact h1 _ _ rfl
  ·have:=tabG z
   rw[e] at this
   exact h2 (qAn this)
 have hok:HOk P w H s₁.heap:=fun b u e=>by
  rcases J5 b with z|z|z
  ·rw[z] at e;cases e
  ·obtain⟨rfl,z⟩:=z
   rw[Ha z] at e
   cases e
   exact⟨ha,by rw[qAa];exact qAr hl sz,vs,_,rv,ha⟩
  ·rw[Ht z] at e
   cases e
   exact⟨#[],tabG z,trivial,fun pos cv z=>by cases z⟩
 have base_of:∀{b:Addr}{o:Obj},s₁.heap.get? b=some o→H b=none→(JO s₁.heap H).get? b=some o:=fun e n=>Kr e n
 have nsK:∀{b:Addr}{m:Str→Option Value},s₁.heap.Ns b m→(JO s₁.heap H).Ns b m:=fun {b m} ⟨o,es,ep,e,d,r⟩=>⟨o,es,ep,base_of e (free_of e (fun xs n z=>by rw[d] at z;cases z) (fun z=>by rw[z] at d;cases d)),d,r⟩
 have hKb:K.In (JO s₁.heap H):=fun b o e=>base_of (KX b o e) (Hn (fun z=>by rw[z.1,z.2] at e;cases e) (fun z=>by
  have h1:=tabG z
  rw[KX b o e] at h1
  have h2:=qAs.mp hnt (b,o) (PySem.W.mem_of_lookupK e)
  rw[qAn h1] at h2
  exact absurd (show false=true from h2) qAf))
 have hM:Mod K mg (JO s₁.heap H):=⟨hKb,nsK T.g,⟨mb,nsK T.b,T.builtins⟩,let ⟨mc,h1,h2⟩:=T.nolimit;⟨mc,nsK h1,h2⟩⟩
 have hTB:TB P K mg (JO s₁.heap H) H:=by
  refine⟨?_,fun y c b h1 h2=>⟨?_,#[],Ht ⟨y,c,h1,h2⟩⟩⟩
  ·obtain⟨bm,ob,b1,b2,b3,b4,b5,b6⟩:=T.bmain
   exact⟨bm,ob,b1,b2,base_of b3 (free_of b3 (fun xs n z=>by rw[b6] at z;cases z) (fun z=>by rw[z] at b4;cases b4)),b4,b5,b6⟩
  ·obtain⟨o,fs,file,tf,flags,tg,inF,text,tt,g1,g2,g3,g4⟩:=(tabs h1 h2).1
   exact⟨o,fs,file,tf,flags,tg,inF,text,tt,base_of g1 (free_of g1 (fun xs n z=>by rw[g3] at z;cases z) (fun z=>by rw[z] at g2;cases g2)),g2,g3,g4⟩
 have e0:OP P w K mg (JO s₁.heap H) callerA [] s₁ H:=⟨rfl,hM,fun b o e=>L9 e,Nat.le_of_eq (Jf _ _),trivial,fun b hb=>absurd (show b∈([]:List Addr) from hb) (by simp),hok,.of_eq hg,hTB⟩
 have hS:SqL K H a (ns.map V.int):=by
  cases hk:K.lookup a with
  |some o =>
   have e:=KX a o hk
   rw[ha] at e
   cases e
   exact .inr ⟨_,vs.toArray,_,hk,rfl,rfl,rfl,by rw[qAt,lenV];exact qAr hl sz,by simpa using rv⟩
  |none=>exact .inl (.inr ⟨_,Ha hk⟩)
 obtain⟨mg',FF⟩:=F _ hKb (nsK T.g)
 refine codeAny_mono (FF.run callerA [] s₁ H ⟨[.ref a],[]⟩ [.ref a] [.ref a] (fun v _=>v=.bl true) (fun _ _ _=>False) hr e0 (hbind s₁ (.ref a)) (.cons rfl .nil) ⟨H,[.r (ns.map D.int)],fun s=>s=.d (.bl true),NoU,AH.refl H,⟨rfl,fun i v s h1 h2=>?_⟩,⟨ns,rfl,hl,rfl⟩,fun s v q _ i _ e=>?_,fun _ _ _ _ _ z=>z.elim⟩) fun r s' h=>?_
 ·cases i with
  |zero =>
   cases h1
   cases h2
   exact⟨⟨a,_,rfl,hS,Ke ns⟩,rfl⟩
  |succ i=>cases h1
 ·subst e
  exact Is.bl_inv i
 cases r with
 |error e=>exact(show False from h).elim
 |ok fl =>
  cases fl with
  |next=>exact False.elim h
  |brk=>exact False.elim h
  |cont=>exact False.elim h
  |ret u =>
   obtain⟨v,H',os,bare,un,hok',r',g⟩:=h
   have g':v=.bl true:=g
   subst g'
   obtain rfl:u=Value.bool true:=r'
   refine⟨rfl,⟨fun b o e=>?_,fun b o e=>un.there b o e (by simp)⟩,os,bare⟩
   rcases J5 b with z|z|z
   ·exact .inl (un.keep b o e z (by intro z;exact absurd (show b∈([]:List Addr) from z) (by simp)) (by simp))
   ·obtain⟨rfl,z⟩:=z
    obtain⟨e2,_⟩:=hok' b _ (un.frzs b _ _ (Ha z))
    rw[ha] at e
    cases e
    exact .inl e2
   ·have e1:=tabG z
    obtain⟨y,c,h1,h2⟩:=id z
    rw[e] at e1
    cases e1
    obtain⟨more,e3⟩:=un.tbls b _ (Ht z)
    obtain⟨tab,e4,_⟩:=(show HA H' s'.heap b from hok' b _ e3)
    exact .inr (.inl ⟨((tabs h1 h2).1.tab (tabs h1 h2).2).isCodeTable,rfl,#[],tab,rfl,by rw[e4];simp⟩)
theorem walk3 {l:PySem.W.OpenLaw}{k:Nat}{q:Program}{loose:List Str}{XP:(Str→Option Value)→Heap→Prop}{YP:World→Heap→Prop}{d:DefRec}{K:Params→PySem.W.Frag}{x:Str}(hn:l.most=some 63) (hdf:d.params.defaults=[]) (hr:Dr k callerA)
 (hq:∀y:Str,(recsOf l.prog).any (fun d=>d.name==y)=true→(recsOf q).any (fun d=>d.name==y)=true)
 (hY:∀(w:World)(h:Heap),YP w h→(K w.params).In h) (hnt:∀w:World,PySem.W.noTabs (K w.params)=true)
 (F:∀(w:World)(mg:Str→Option Value)(fa:Addr)(h:Heap),(K w.params).In h→h.Ns mainGlobals mg→mg d.name=some (.ref fa) →
  ∃fd:FuncData,(∀(s:Shared)(u:Value),BindsTo s fd ⟨[u],[]⟩ [(x,u)])∧∀base:Heap,(K w.params).In base→base.Ns mainGlobals mg→∃mg',AS l.prog w (K w.params) mg base CX0 k fa fd [x] (Ak (K w.params) mg' G7)) :
 PySem.W.WalkO q loose XP YP l.row.toRowW d [] (fun f vs=>PySem.call f vs):=by
 refine Att.attach_call hn hdf fun w s₀ s₁ mg mb fa o pm cd doc a vs ns G Y ho hd hcd hmg hobj hints hlen hg=>?_
 have KX:=hY w _ Y
 obtain⟨fd,hb,hF⟩:=F w mg fa _ KX G.T.g hmg
 exact HV G.T hq (hnt w) KX hg hobj hints hlen hr hF hb
end L3
namespace L3
open PySem L2
section
variable {P:Program}{w:World}{K:PySem.W.Frag}{mg:Str→Option Value}{base:Heap}{f:Addr}{fd:FuncData}{ps:List Str}{k:Nat}
end
end L3
namespace L3
open PySem PySem.Spec PyProof.Rows L2
section
variable {X:Cx}{e a b:Expr}{es:List Expr}{te ta tb:TE3}{tr:TA3}{pos:Pos}
theorem vN (i:Nat){x:Str}(hN:X.N[i]? = some x:=by rfl) (hv:Vis X.env.scope x:=by first|exact Or.inl rfl|exact Or.inr (Or.inl rfl)|exact Or.inr (Or.inr rfl)) (hd:(x==("__debug__":Str))=false:=by decide) (hcd:(x==("__classdict__":Str))=false:=by decide):PE3 X (.Name x pos) (OV i):=PD (pv i hN hv hd hcd)
theorem vK (i:Nat){x:Str}{n:Int}{j:Nat}{p q:Pos}(hN:X.N[i]? = some x:=by rfl) (hv:Vis X.env.scope x:=by first|exact Or.inl rfl|exact Or.inr (Or.inl rfl)|exact Or.inr (Or.inr rfl)) (hd:(x==("__debug__":Str))=false:=by decide) (hcd:(x==("__classdict__":Str))=false:=by decide):PE3 X (.Subscript (.Name x p) (.Constant (.int n) j q) pos) (vIx (OV i) (vC (.int n))):=Cf (vN i hN hv hd hcd) Ac
theorem a1 (ha:PE3 X e te)(hs:starEach [e] X.env=(false,eval e X.env)::starEach [] X.env:=by exact AV rfl):PA3 X [e] (Jp te OT):=AU ha LZ hs
theorem a2 (ha:PE3 X a ta)(hb:PE3 X b tb)(h1:starEach [a,b] X.env=(false,eval a X.env)::starEach [b] X.env:=by exact AV rfl)(h2:starEach [b] X.env=(false,eval b X.env)::starEach [] X.env:=by exact AV rfl):PA3 X [a,b] (Jp ta (Jp tb OT)):=AU ha (AU hb LZ h2) h1
theorem JS {k k':Nat}{x:Str}{ps:List Str}{sp:Sp3}{p:Pos}{U:Str→Prop}(xo:Mz X U) (hr:Dr k' X.A) (c:Cal X.prog X.w X.K X.mg X.base (CXU X.prog X.w) k x ps sp) (ha:PA3 X (e::es) tr) (hk:k≤k':=by decide) (hg:Gl X x:=by exact rfl)
 (hdb:(x==("__debug__":Str))=false:=by decide) (he:starEach (e::es) X.env=(false,eval e X.env)::starEach es X.env:=by exact AV rfl) (hpl:(backTo pos (starEach es X.env)).any (·.1)=false:=by exact AR rfl) (hl:X.lent=none∨∀y,¬U y:=by first|exact .inl rfl|exact .inr (fun _ z=>z)) :
 PE3 X (.Call (.Name x p) (e::es) [] pos) (F6 U sp tr):=IV xo c (hr.mono hk) hg ha hdb he hpl hl
theorem BQ {k k':Nat}{x:Str}{ps:List Str}{sp:Sp3}{p:Pos}(hr:Dr k' X.A) (c:Cal X.prog X.w X.K X.mg X.base (CXU X.prog X.w) k x ps sp) (ha:PA3 X (e::es) tr) (hk:k≤k':=by decide) (hg:Gl X x:=by exact rfl)
 (hdb:(x==("__debug__":Str))=false:=by decide) (he:starEach (e::es) X.env=(false,eval e X.env)::starEach es X.env:=by exact AV rfl) (hpl:(backTo pos (starEach es X.env)).any (·.1)=false:=by exact AR rfl) :
 PE3 X (.Call (.Name x p) (e::es) [] pos) (F6 NoU sp tr):=IV MH c (hr.mono hk) hg ha hdb he hpl (.inr fun _ z=>z)
theorem Du {p:Pos}(hm:X.mg "len"=none) (ha:PE3 X e te) (hg:Gl X "len":=by exact rfl) (he:starEach [e] X.env=(false,eval e X.env)::starEach [] X.env:=by exact AV rfl) (hpl:(backTo pos (starEach [] X.env)).any (·.1)=false:=by exact AR rfl) :
 PE3 X (.Call (.Name "len" p) [e] [] pos) (vCB Ph (Jp te OT)):=B4 Pa hg hm PySem.boot_len (AU ha LZ he) ∅ ∅ he hpl
theorem A8 (i:Nat){x:Str}{pos':Pos}{ps:List Str}{sc:Scope}(O:Ah X.N ps sc) (he:PE3 X e te) (hi:X.N[i]? = some x:=by rfl) (hx:Loc X.env.scope x:=by first|exact Or.inl rfl|exact Or.inr rfl) (hs:swapsWith e (some (.Name x pos')) pos.line X.env=pure false:=by rfl) (hf:X.fn x=true∨X.env.scope.names.lookup x=some .local:=by first|exact .inl rfl|exact .inr rfl|assumption) (hp:DH X i:=by first|exact CU rfl|exact pin_ne rfl ∅|assumption) :
 PS3 X (.Assign [.Name x pos'] e pos) (OM i te):=O3 O.nd hi hx he hs hf hp
theorem BV (he:PE3 X e te):DJ X [.Return (some e) pos] (P7 te):=Aq (Pr he)
theorem B2 {op:CmpOp}{r3:R3}(ho:DW X (compareOp op) r3) (ha:PE3 X a ta) (hb:PE3 X b tb) (hm:behindInMarks op b=false:=by exact IA _):PT3 X (.Compare a [op] [b] pos) (Md (vOp r3 ta tb)):=N6 ho ha hb hm
end
theorem scN {N P:List Str}{sc:Scope}(h1:(sc.kind=.function∧sc.isCoroutine=false∧sc.isGenerator=false):=by exact⟨rfl,rfl,rfl⟩) (h2:N.take P.length=P:=by rfl) (h3:N.Nodup∧(∀x∈P,sc.names.lookup x=some .local∨sc.names.lookup x=some .cell)∧∀y∈sc.names,y.2≠.free:=by decide +kernel):Ah N P sc:=⟨h1.1,h1.2.1,h1.2.2,h3.1,h2,h3.2.1,h3.2.2⟩
def Bnd (st:Stmt)(n:Str)(ps:List Str):Prop:=∀(kV doc pm:Value)(an:Option Addr)(cdv ct:Value)(us:List Value),us.length=ps.length→bindArgs (PySem.W.fnOf n n (C6 st) (Bf st) (Ab st) .none kV doc pm an cdv ct) ⟨us,[]⟩=pure (ps.zip us)
section
variable {P:Program}{w:World}{K:PySem.W.Frag}{mg:Str→Option Value}{base h:Heap}
theorem mkC (X:K.In h)(G:h.Ns mainGlobals mg){n:Str}{st:Stmt}(r:Rw K n st){k:Nat}{ps:List Str}{sp:Sp3}(ok:∀{f:Addr}{fd:FuncData},Fun K n n st f fd→rA K n f→AS P w K mg base (CXU P w) k f fd ps (Ak K mg sp))
 (hb:Bnd st n ps:=by(intro _ _ _ _ _ _ us hl;first|(obtain⟨x0,rfl⟩:=J4 hl;rfl)|(obtain⟨x0,x1,rfl⟩:=JY hl;rfl)|(obtain⟨x0,x1,x2,rfl⟩:=Pp hl;rfl)|(obtain⟨x0,x1,x2,x3,rfl⟩:=Pf hl;rfl))):Cal P w K mg base (CXU P w) k n ps sp:=by
 obtain⟨a,l,c,k⟩:=r
 have F:=Ir (st:=st) l c k
 exact⟨⟨_,_,ok F a,qAL X G a,k,F.binds hb⟩⟩
end
end L3
namespace L3
open PySem PySem.Spec PyProof.Rows L2
section
variable {X:Cx}{e a b:Expr}{te ta tb:TE3}{pos:Pos}
def Q3 (r3:R3)(ta tb:TE3):TE3:=fun τ R=>ta τ fun x=>tb τ fun y=>dd x.arg fun dx=>dd y.arg fun dy=>r3 dx dy fun d=>R (.d d)
theorem Pz {op:Operator}{r3:R3}(ho:DW X (binaryOp op) r3) (ha:PE3 X a ta) (hb:PE3 X b tb):PE3 X (.BinOp a op b pos) (Q3 r3 ta tb):=⟨Ax (Mv ho ha.out hb.out) fun σ H Q hh=>by
 obtain⟨B,z,τ,R,r,ht,q⟩:=hh
 refine⟨B,z,τ,_,r,ht,fun s v q1 e1 i1 f1 h1=>?_⟩
 obtain⟨z1,e1',i1'⟩:=DG e1 i1 f1
 refine⟨B,z1,τ,_,r.mono e1',h1,fun s2 v2 q2 e2 i2 f2 h2=>?_⟩
 obtain⟨z2,e2',i2'⟩:=DG e2 i2 f2
 obtain⟨dx,ex,h2⟩:=Ea h2
 obtain⟨dy,ey,h2⟩:=Ea h2
 rw[ex] at i1'
 rw[ey] at i2'
 refine⟨z2,dx,dy,_,e2'.sub,(show Is X.K z1 v dx from i1').mono e2'.zz,i2',h2,fun d w q3 e3 i3 h3=>?_⟩
 exact q (.d d) w q3 (e1'.trans (e2'.trans e3)) i3 Ce h3⟩
end
end L3
namespace L3
open PySem PySem.Spec PyProof.Rows L2
section
variable {X:Cx}{pos:Pos}
end
end L3
namespace L3
open PySem L2
section
variable {X:Cx}
end
end L3
namespace CH
open PySem L2 L3
def qd (q:Rat):D:=.tup [.int q.num,.int (q.den:Int)]
abbrev Cs:=List (Rat×Rat)
def cd (c:Rat×Rat):D:=.tup [qd c.1,qd c.2]
def tt (cs:Cs)(k:Nat):Rat:=(cs.getD k (0,0)).1
def vv (cs:Cs)(k:Nat):Rat:=(cs.getD k (0,0)).2
def slp (cs:Cs)(m:Rat)(k:Nat):Rat:=if k+1<cs.length then (vv cs (k+1)-vv cs k)/(tt cs (k+1)-tt cs k) else m
def Up (cs:Cs):Prop:=∀k,k+1<cs.length→tt cs k<tt cs (k+1)
def SzC (n:Nat)(cs:Cs):Prop:=∀k,k<cs.length→Sz n (tt cs k)∧Sz n (vv cs k)
theorem N0 {cs:Cs}{k:Nat}(h:k<cs.length):atI (cs.map cd) (k:Int)=some (.tup [qd (tt cs k),qd (vv cs k)]):=by
 refine Cz ?_
 rw[qAo,qAb h]
 unfold tt vv
 rw[qAB,qAb h]
 rfl
end CH
namespace CH
open PySem L2 L3
theorem atR {o:Option D}{d:D}{F:D→Prop}(e:o=some d) (h:F d):(match (generalizing:=false) o with|some d=>F d|none=>False):=by subst e;exact h
theorem CV {cs:Cs}{i:Int}(k:Nat) (hi:i=(k:Int)) (h:k<cs.length):atI (cs.map cd) i=some (.tup [qd (tt cs k),qd (vv cs k)]):=by subst hi;exact N0 h
theorem Ig {cs:Cs}{m:Rat}{k:Nat}(h:k+1<cs.length):slp cs m k=(vv cs (k+1)-vv cs k)/(tt cs (k+1)-tt cs k):=if_pos h
theorem JD {cs:Cs}{m:Rat}{k:Nat}(h:¬k+1<cs.length):slp cs m k=m:=if_neg h
theorem NH {a b:Rat}(h:a<b):b-a≠0:=⋯
def crv (cs:Cs)(m:Rat):D:=.tup [.tup (cs.map cd),qd m]
structure SzK (n:Nat)(cs:Cs)(m:Rat):Prop where
 len:cs.length≤100000
 cs:SzC n cs
 m:Sz n m
theorem Mt {cs:Cs}{n:Nat}{x:D}(h:(cs.map cd)[n]? = some x):n<cs.length∧x=.tup [qd (tt cs n),qd (vv cs n)]:=by
 have hl:n<cs.length:=by
  have:=(qAi.mp h).1
  rwa [qAa] at this
 have a:=N0 hl
 rw[show atI (cs.map cd) (n:Int)=(cs.map cd)[n]? from ?_,h] at a
 ·exact⟨hl,qAn a⟩
 ·rw[h]
  exact Cz h
def kp (cs:Cs)(m:Rat):Nat→Cs
 |0=>[(tt cs 0,vv cs 0)]
 |n+1=>if slp cs m n=slp cs m (n+1) then kp cs m n else kp cs m n++[(tt cs (n+1),vv cs (n+1))]
theorem Mi {cs:Cs}{m:Rat}{n:Nat}(h:¬slp cs m n=slp cs m (n+1)):kp cs m (n+1)=kp cs m n++[(tt cs (n+1),vv cs (n+1))]:=if_neg h
theorem II {cs:Cs}{m:Rat}{n:Nat}(h:slp cs m n=slp cs m (n+1)):kp cs m (n+1)=kp cs m n:=if_pos h
theorem K3 (cs:Cs)(m:Rat):∀n,(kp cs m n).length≤n+1
 |0=>qAj _
 |n+1=>by
  have:=K3 cs m n
  by_cases h:slp cs m n=slp cs m (n+1)
  ·rw[II h];omega
  ·rw[Mi h,qAd];simp;omega
theorem K1 {L M:Cs}{k:Nat}(h:k<L.length):tt (L++M) k=tt L k:=by
 unfold tt;rw[qAB,qAB,qAC h]
theorem Lf {L M:Cs}{k:Nat}(h:k<L.length):vv (L++M) k=vv L k:=by
 unfold vv;rw[qAB,qAB,qAC h]
theorem OQ {L:Cs}{c:Rat×Rat}:tt (L++[c]) L.length=c.1:=by
 unfold tt;rw[qAB,qAy (qAj _)];simp
theorem OR {L:Cs}{c:Rat×Rat}:vv (L++[c]) L.length=c.2:=by
 unfold vv;rw[qAB,qAy (qAj _)];simp
theorem Dh {L:Cs}{c:Rat×Rat}:(L++[c]).length=L.length+1:=by simp
structure Ord (cs:Cs):Prop where
 ne:0<cs.length
 t0:tt cs 0=0
 v0:0≤vv cs 0
 up:Up cs
 vu:∀k,k+1<cs.length→vv cs k≤vv cs (k+1)
theorem Ord.snoc {L:Cs}{c:Rat×Rat}(h:Ord L) (ht:tt L (L.length-1)<c.1) (hv:vv L (L.length-1)≤c.2):Ord (L++[c]):=by
 have n:=h.ne
 refine⟨by rw[Dh];omega,by rw[K1 n];exact h.t0,by rw[Lf n];exact h.v0,fun k hk=>?_,fun k hk=>?_⟩
 all_goals
  rw[Dh] at hk
  by_cases e:k+1<L.length
 ·rw[K1 e,K1 ()];exact h.up k e
 ·have e':k+1=L.length:=()
  rw[e',OQ,K1 (),show k=L.length-1 from ()];exact ht
 ·rw[Lf e,Lf ()];exact h.vu k e
 ·have e':k+1=L.length:=()
  rw[e',OR,Lf (),show k=L.length-1 from ()];exact hv
theorem Ord.one {v:Rat}(h:0≤v):Ord [(0,v)]:=⟨Nat.one_pos,rfl,h,fun k hk=>by simp at hk,fun k hk=>by simp at hk⟩
theorem K6 {x y s:Rat}(h:x=s*y) (hy:y≠0):x/y=s:=⋯
theorem Iw {lo st:Int}{n i:Nat}{x:D}(h:(M0 lo st n)[i]? = some x):i<n∧x=.int (lo+i*st):=by
 have hl:i<n:=by
  have:=(qAi.mp h).1
  rwa [Ds] at this
 rw[He hl] at h
 exact⟨hl,(qAn h).symm⟩
theorem fm {a m:Int}(h:0<m):0≤a.fmod m∧a.fmod m<m:=⟨qBi a h,qBx a h⟩
theorem Cg {a b c:Int}(hc:0<c) (h:a<b):Rat.divInt a c<Rat.divInt b c:=by
 have hc':(0:Rat)<(c:Rat):=Rat.intCast_pos.mpr hc
 rw[qAS,qAS,Rat.div_lt_iff hc',Rat.div_mul_cancel (fun z=>absurd (z ▸ hc') Rat.lt_irrefl)]
 exact Rat.intCast_lt_intCast.mpr h
theorem Ia {a b c:Int}(hc:0<c) (h:a≤b):Rat.divInt a c≤Rat.divInt b c:=by
 by_cases e:a=b
 ·rw[e];exact Rat.le_refl
 ·exact qCs (Cg hc ())
theorem Ee {a c:Int}(hc:0<c) (h:0≤a):0≤Rat.divInt a c:=(Rat.divInt_nonneg_iff_of_pos_right hc).mpr h
theorem SzC.snoc {n:Nat}{L:Cs}{c:Rat×Rat}(h:SzC n L) (h1:Sz n c.1) (h2:Sz n c.2):SzC n (L++[c]):=fun k hk=>by
 rw[Dh] at hk
 by_cases e:k<L.length
 ·rw[K1 e,Lf e];exact h k e
 ·rw[show k=L.length from (),OQ,OR];exact⟨h1,h2⟩
theorem SzC.mono {n m:Nat}{L:Cs}(h:SzC n L) (hk:n≤m):SzC m L:=fun k hl=>⟨(h k hl).1.mono hk,(h k hl).2.mono hk⟩
theorem GI {a b:Int}{k:Nat}(hb:0<b) (h1:a.natAbs<2^k) (h2:b.natAbs<2^k):Sz k (Rat.divInt a b):=D5 () h1 h2
end CH
namespace CH
open PySem L2 L3
theorem Ot (p q:Rat):eqN 1 (qd p) (qd q)=decide (p=q):=by
 by_cases h:p=q
 ·subst h
  rw[decide_eq_true rfl]
  exact DY 1 _ rfl
 ·rw[decide_eq_false h]
  cases e:eqN 1 (qd p) (qd q) with
  |false=>rfl
  |true =>
   exfalso
   apply h
   have e':((p.num==q.num&&((p.den:Int)==(q.den:Int)&&true))&&true)=true:=e
   rw[qCp,qCp,qAN,beq_iff_eq,beq_iff_eq] at e'
   exact Rat.ext e'.1 (Int.ofNat.inj e'.2)
theorem neT (p q:Rat){A B:Prop}(h1:¬p=q→A) (h2:p=q→B):if (!eqN 1 (qd p) (qd q))=true then A else B:=by
 rw[Ot]
 exact NB h1 h2
def Bgn (cs:Cs):Prop:=0<cs.length∧tt cs 0=0∧0≤vv cs 0
def Ris (cs:Cs)(n:Nat):Prop:=∀k,k<n→k+1<cs.length→tt cs k<tt cs (k+1)∧vv cs k≤vv cs (k+1)
def K0 (cs:Cs)(m:Rat):List Rat:=(List.range cs.length).map (slp cs m)
theorem Kx (cs:Cs)(m:Rat):(K0 cs m).length=cs.length:=by unfold K0;rw[qAa,qBE]
theorem Cz {α:Type}{xs:List α}{k:Nat}(h:k<xs.length):atI xs (k:Int)=xs[k]? := by
 unfold atI ixN
 rw[if_pos (),if_pos ()]
 simp
theorem N3 {cs:Cs}{m:Rat}{i:Int}(k:Nat) (hi:i=(k:Int)) (h:k<cs.length):atI ((K0 cs m).map qd) i=some (qd (slp cs m k)):=by
 subst hi
 rw[Cz (by rw[qAa,Kx];exact h)]
 unfold K0
 rw[qAo,qAo,qBV h]
 rfl
theorem Kk (cs:Cs)(m:Rat)(h:0<cs.length):(((List.range (cs.length-1)).map fun i=>some (qd (slp cs m i))).filterMap id)++[qd m]=(K0 cs m).map qd:=by
 have e:((List.range (cs.length-1)).map fun i=>some (qd (slp cs m i))).filterMap id=(List.range (cs.length-1)).map fun i=>qd (slp cs m i):=by
  rw[qBY]
  exact congrFun (qCm (f:=fun i=>qd (slp cs m i))) _
 rw[e]
 unfold K0
 rw[qA8]
 have e2:cs.length=cs.length-1+1:=()
 conv=>rhs;rw[e2,List.range_succ,qAE]
 show _++[qd m]=_++[qd (slp cs m (cs.length-1))]
 rw[JD (cs:=cs) (m:=m) (k:=cs.length-1) ()]
 rfl
end CH
namespace CH
open PySem L2 L3
end CH
namespace CH
open PySem L2 L3
theorem Fl {α:Type}{f:α→D}{xs:List α}{i:Nat}{x:D}(h:(xs.map f)[i]? = some x):∃a,xs[i]? = some a∧x=f a:=by
 rw[qAo] at h
 cases e:xs[i]? with
 |none=>rw[e] at h;cases h
 |some a=>rw[e] at h;exact⟨a,rfl,(qAn h).symm⟩
theorem Et {α:Type}(xs:List α) (f:α→D):(xs.map fun a=>some (f a)).filterMap id=xs.map f:=by
 rw[qBY]
 exact congrFun (qCm (f:=f)) _
end CH
namespace CH
open PySem L2 L3
end CH
namespace CH
open PySem L2 L3
end CH
namespace CH
open PySem L2 L3
end CH
namespace L3
open PySem PySem.Spec PyProof.Rows L2
def Lm (idx:List Nat)(ws:TX3)(tt:TT3)(te:TE3):TE3:=fun τ R=>ws τ fun xs=>∃J:Nat→List D→Prop,J 0 []∧(∀n ds,J n ds→ds.length≤n) ∧
 (∀(n:Nat)(x:D)(ds:List D),xs[n]? = some x→J n ds→tt (KN τ idx x) fun b=>if b=true then te (KN τ idx x) (fun s=>dd s.arg fun y=>J (n+1) (ds++[y])) else J (n+1) ds)∧xs.length≤100000∧∀ds,J xs.length ds→R (.l ds)
section
variable {X:L2.Cx}{x:Str}{px pos:Pos}{scope:Scope}{N:List Str}{idx:List Nat}{elt iter:Expr}{ifs:List Expr}{wi:TI}{ws:TX3}{tt:TT3}{te:TE3}
end
section
variable {X:L2.Cx}{pos:Pos}
end
end L3
namespace CH
open PySem PySem.Builtin.Str
def mkS (l:List Nat):Str:=⟨l.toArray⟩
theorem mkS_of (x:Str):mkS x.cps.toList=x:=by cases x;rfl
theorem mkS_list (l:List Nat):(mkS l).cps.toList=l:=rfl
theorem Gp {a b:List Nat}(h:mkS a=mkS b):a=b:=by
 have:=congrArg (fun x:Str=>x.cps.toList) h
 simpa [mkS] using this
theorem mkS_len (l:List Nat):(mkS l).length=l.length:=by simp[mkS,Str.length]
theorem Au (a b:List Nat):mkS a++mkS b=mkS (a++b):=by
 show Str.append (mkS a) (mkS b)=mkS (a++b)
 simp[mkS,Str.append]
def cutAt (c:Nat):List Nat→List (List Nat)
 |[]=>[[]]
 |d::r=>if d=c then []::cutAt c r else match cutAt c r with
  |[]=>[[d]]
  |p::ps=>(d::p)::ps
def posAt (c:Nat):Nat→List Nat→List Nat
 |_,[]=>[]
 |k,d::r=>if d=c then k::posAt c (k+1) r else posAt c (k+1) r
theorem Bn (c:Nat):∀l,∃p ps,cutAt c l=p::ps
 |[]=>⟨[],[],rfl⟩
 |d::r=>by
  unfold cutAt
  split
  ·exact⟨_,_,rfl⟩
  ·split
   ·exact⟨_,_,rfl⟩
   ·exact⟨_,_,rfl⟩
theorem L7 (x:Str)(c:Nat):∀(m k:Nat)(st:Array Nat×Nat),k+m=x.length+1→st.2≤k→st.1.size≤k →
 (forIn (m:=Id) (List.range' k m) st (StrLaws.occBody x ⟨#[c]⟩ x.length (x.length+1))).run.fst.toList=st.1.toList++posAt c k (x.cps.toList.drop k):=by
 have hn:x.cps.toList.length=x.length:=Array.length_toList
 intro m
 induction m with
 |zero =>
  intro k st h1 _ _
  have:x.cps.toList.drop k=[]:=qAA ()
  rw[this]
  simp[posAt]
 |succ m ih =>
  intro k st h1 h2 h3
  rw[List.range'_succ,qBv]
  unfold StrLaws.occBody
  have hk:=StrLaws.subAt_one x c k
  by_cases e:x.cps.toList[k]? = some c
  ·have hc:=hk.mpr e
   rw[if_pos ⟨⟨⟨(),h2⟩,hc.1⟩,hc.2⟩]
   have hlt:k<x.cps.toList.length:=(qAi.mp e).1
   have hd:x.cps.toList.drop k=c::x.cps.toList.drop (k+1):=by
    rw[qAQ hlt]
    congr 1
    exact(qAi.mp e).2
   have:=ih (k+1) (st.1.push k,k+(⟨#[c]⟩:Str).length) () (qAj _) (by simp;omega)
   rw[hd]
   show(forIn (m:=Id) (List.range' (k+1) m) (st.1.push k,k+(⟨#[c]⟩:Str).length) (StrLaws.occBody x ⟨#[c]⟩ x.length (x.length+1))).run.fst.toList=_
   rw[this]
   simp[posAt]
  ·rw[if_neg fun z=>e (hk.mp ⟨z.1.2,z.2⟩)]
   have:=ih (k+1) (st.1,st.2) () (by show st.2≤k+1;omega) (by show st.1.size≤k+1;omega)
   show(forIn (m:=Id) (List.range' (k+1) m) (st.1,st.2) (StrLaws.occBody x ⟨#[c]⟩ x.length (x.length+1))).run.fst.toList=_
   rw[this]
   congr 1
   by_cases hlt:k<x.cps.toList.length
   ·rw[qAQ hlt]
    have hne:x.cps.toList[k]≠c:=fun z=>e (by rw[qAb hlt,z])
    rw[posAt,if_neg hne]
   ·rw[qAA (),qAA ()]
    rfl
theorem occ_is (x:Str)(c:Nat):occurrences x ⟨#[c]⟩ 0 x.length (x.length+1)=posAt c 0 x.cps.toList:=by
 rw[StrLaws.occ_eq]
 have:=L7 x c (x.length+1) 0 (#[],0) () (qAj _) (qAj _)
 simpa using this
theorem IS {l:List Nat}{a k d:Nat}{r:List Nat}(h:l.drop k=d::r) (hak:a≤k):(l.drop a).take (k+1-a)=(l.drop a).take (k-a)++[d]:=by
 have hlt:k<l.length:=by
  rcases Nat.lt_or_ge k l.length with z|z
  ·exact z
  ·rw[qAA z] at h;cases h
 have hd:l[k]=d:=by
  rw[qAQ hlt] at h
  exact(List.cons.inj h).1
 have e:k+1-a=(k-a)+1:=()
 rw[e,qA0]
 congr 1
 rw[qB0]
 have e2:a+(k-a)=k:=()
 rw[e2,qAb hlt,hd]
 rfl
theorem KR (l:List Nat)(c:Nat):∀(r:List Nat)(k a:Nat),l.drop k=r→a≤k→k≤l.length→∃p ps,cutAt c r=p::ps ∧
 ((a::(posAt c k r).map (· + 1)).zip (posAt c k r++[l.length])).map (fun z=>(l.drop z.1).take (z.2-z.1))=((l.drop a).take (k-a)++p)::ps:=by
 intro r
 induction r with
 |nil =>
  intro k a h hak hkl
  have:l.length≤k:=List.drop_eq_nil_iff.mp h
  have e:k=l.length:=()
  subst e
  exact⟨[],[],rfl,by simp[posAt]⟩
 |cons d r ih =>
  intro k a h hak hkl
  have hlt:k<l.length:=by
   rcases Nat.lt_or_ge k l.length with z|z
   ·exact z
   ·rw[qAA z] at h;cases h
  have h':l.drop (k+1)=r:=by
   rw[←List.drop_drop,h];rfl
  by_cases e:d=c
  ·obtain⟨p,ps,e1,e2⟩:=ih (k+1) (k+1) h' (qAj _) hlt
   refine⟨[],cutAt c r,by rw[cutAt,if_pos e],?_⟩
   have e3:posAt c k (d::r)=k::posAt c (k+1) r:=by rw[posAt,if_pos e]
   rw[e3,qA1,qBG,List.zip_cons_cons,qA1,e2,e1]
   simp
  ·obtain⟨p,ps,e1,e2⟩:=ih (k+1) a h' () hlt
   refine⟨d::p,ps,by rw[cutAt,if_neg e,e1],?_⟩
   have e3:posAt c k (d::r)=posAt c (k+1) r:=by rw[posAt,if_neg e]
   rw[e3,e2,IS h hak]
   simp
theorem G8 {c d:Nat}{r p:List Nat}{ps:List (List Nat)}(h:cutAt c r=p::ps) (hd:d≠c):cutAt c (d::r)=(d::p)::ps:=by rw[cutAt,if_neg hd,h]
theorem cut_no {c:Nat}:∀{p:List Nat},c∉p→cutAt c p=[p]
 |[],_=>rfl
 |d::r,h=>G8 (cut_no fun z=>h (qAc _ z)) fun z=>h (by rw[z];exact qAe ..)
theorem BO {c:Nat}{r:List Nat}:∀{p:List Nat},c∉p→cutAt c (p++c::r)=p::cutAt c r
 |[],_=>by rw[qCa,cutAt,if_pos rfl]
 |d::q,h=>G8 (BO fun z=>h (qAc _ z)) fun z=>h (by rw[z];exact qAe ..)
theorem pos_nil {c:Nat}:∀{l:List Nat}{k:Nat},posAt c k l=[]→c∉l
 |[],_,_=>by simp
 |d::r,k,h=>by
  rw[posAt] at h
  split at h
  ·cases h
  ·rename_i e
   intro z
   rcases qAg.mp z with z|z
   ·exact e z.symm
   ·exact pos_nil h z
theorem sub_is (x:Str)(i j:Nat)(h:j≤x.length):strSub x i j=mkS ((x.cps.toList.drop i).take (j-i)):=by
 unfold strSub mkS
 congr 1
 apply Array.ext'
 simp[Array.toList_extract,List.extract_eq_take_drop]
theorem Ln (c:Nat):∀(l:List Nat)(k:Nat),∀i∈posAt c k l,i<k+l.length
 |[],_,i,h=>by simp[posAt] at h
 |d::r,k,i,h=>by
  have:=Ln c r (k+1)
  rw[posAt] at h
  simp only[qAl]
  split at h
  ·rcases qAg.mp h with z|z
   ·omega
   ·have:=this i z;omega
  ·have:=this i h;omega
theorem parts_cut (x:Str)(c:Nat):partsBetween x (posAt c 0 x.cps.toList) 1=(cutAt c x.cps.toList).map mkS:=by
 have hn:x.cps.toList.length=x.length:=Array.length_toList
 obtain⟨p,ps,e1,e2⟩:=KR x.cps.toList c x.cps.toList 0 0 rfl (qAj _) (qBd _)
 have e3:cutAt c x.cps.toList=((0::(posAt c 0 x.cps.toList).map (· + 1)).zip (posAt c 0 x.cps.toList++[x.cps.toList.length])).map (fun z=>(x.cps.toList.drop z.1).take (z.2-z.1)):=by
  rw[e2,e1];simp
 rw[e3]
 unfold partsBetween
 rw[qA8,hn]
 refine qBu fun z hz=>?_
 have hz2:=qBO hz
 have:z.2≤x.length:=by
  rcases qAq.mp hz2.2 with w|w
  ·have:=Ln c _ _ _ w;omega
  ·have:z.2=x.length:=by simpa using w
   omega
 exact sub_is x z.1 z.2 this
theorem kind_one {x:Str}{c:Nat}(hc:c<256):(Builtin.Str.strKind x<Builtin.Str.strKind ⟨#[c]⟩)=False:=by
 have:Builtin.Str.strKind ⟨#[c]⟩=1:=by
  unfold Builtin.Str.strKind
  rw[if_pos]
  simpa using hc
 rw[this]
 unfold Builtin.Str.strKind
 simp only[eq_iff_iff,iff_false]
 repeat' split
 all_goals decide
open NumText
theorem Hw (m:Nat):∀c∈(Nat.toDigits 10 m).map Char.toNat,48≤c∧c≤57:=by
 intro c hc
 obtain⟨ch,hch,e⟩:=qA9.mp hc
 have h:=Nat.isDigit_of_mem_toDigits ∅ ∅ hch
 rw[←e]
 simp only[Char.isDigit,qAN,decide_eq_true_eq] at h
 have h1:(48:Nat)≤ch.val.toNat:=h.1
 have h2:ch.val.toNat≤57:=h.2
 exact⟨h1,h2⟩
end CH
namespace CH
open PySem PySem.Builtin.Str NumText
def num (m:Nat):List Nat:=(Nat.toDigits 10 m).map Char.toNat
theorem H4 (m:Nat):digitsVal (num m)=m:=PySem.W.KIN.val_back m
theorem D7 (m:Nat):AllDigits (num m):=Hw m
theorem Ep (m:Nat){c:Nat}(h:c<48∨57<c):c∉num m:=fun z=>by have:=D7 m c z;omega
theorem Ml (m:Nat):0<(num m).length:=by unfold num;rw[qAa];exact Nat.length_toDigits_pos
theorem IK (m:Nat):num m≠[]:=fun z=>by have:=Ml m;rw[z] at this;exact absurd this ∅
theorem DB {m k:Nat}(hk:0<k) (h:m<10^k):(num m).length≤k:=by unfold num;rw[qAa];exact(Nat.length_toDigits_le_iff ∅ hk).mpr h
theorem Es {m:Nat}(h:m<10):num m=[48+m]:=by
 unfold num
 rw[Nat.toDigits_of_lt_base h]
 have:∀d:Nat,d<10→(Nat.digitChar d).toNat=48+d:=∅
 show [(Nat.digitChar m).toNat]=_
 rw[this m h]
theorem MR {m:Nat}(h:¬m<10):num m=num (m/10)++[48+m%10]:=by
 have hm:m%10<10:=Nat.mod_lt m ∅
 have t:Nat.toDigits 10 (m/10)++Nat.toDigits 10 (m%10)=Nat.toDigits 10 (10*(m/10)+m%10):=Nat.toDigits_append_toDigits ∅ () hm
 rw[Nat.div_add_mod] at t
 rw[←Es hm]
 unfold num
 rw[←t,qAE]
theorem Kc:∀m:Nat,(num m).head? = some 48→m=0:=by
 intro m
 induction m using Nat.strongRecOn with
 |_ m ih =>
  intro h
  by_cases h1:m<10
  ·rw[Es h1] at h
   have:48+m=48:=by simpa using h
   omega
  ·rw[MR h1] at h
   have:=ih (m/10) () (by
    cases e:num (m/10) with
    |nil=>exact absurd e (IK _)
    |cons a r=>rw[e] at h;simpa using h)
   omega
def fig (l:List Nat):Option Nat:=if l≠[]∧l.length≤60∧(∀c∈l,48≤c∧c≤57)∧¬(l.head? = some 48∧1<l.length) then some (digitsVal l) else none
theorem Gn {m:Nat}(h:m<10^60):fig (num m)=some m:=by
 unfold fig
 rw[if_pos,H4]
 refine⟨IK m,DB ∅ h,D7 m,fun⟨z,y⟩=>?_⟩
 have:=Kc m z
 subst this
 exact absurd y ∅
def rdR (l:List Nat):Option (Nat×Nat):=match cutAt 47 l with
 |[p]=>(fig p).map (·,1)
 |[p,q]=>match fig p,fig q with
  |some a,some b=>if 2≤b∧Nat.gcd a b=1 then some (a,b) else none
  |_,_=>none
 |_=>none
def DT (a b:Nat):List Nat:=if b=1 then num a else num a++47::num b
theorem Kv {a b:Nat}(ha:a<10^60) (hb:b<10^60) (h1:1≤b) (hg:Nat.gcd a b=1):rdR (DT a b)=some (a,b):=by
 unfold rdR DT
 by_cases e:b=1
 ·rw[if_pos e,cut_no (Ep a ∅)]
  simp only
  rw[Gn ha,e];rfl
 ·rw[if_neg e,BO (Ep a ∅),cut_no (Ep b ∅)]
  simp only
  rw[Gn ha,Gn hb]
  simp only
  rw[if_pos ⟨(),hg⟩]
def tx (i:Int):Str:=Str.ofString (toString i)
theorem Hg (m:Nat):tx (m:Int)=mkS (num m):=by
 rw[←mkS_of (tx (m:Int))]
 exact congrArg mkS (PySem.W.KIN.signs_num m)
theorem C7 (c:Nat):(⟨#[c]⟩:Str)=mkS [c]:=rfl
theorem Jj:(Str.ofString "/")=mkS [47]:=by decide +kernel
theorem MU {l:List Nat}(h:∀c∈l,c<128):(mkS l).cps.all (· < 128)=true:=by
 rw[←Array.all_toList,qAs]
 exact fun c hc=>decide_eq_true (h c hc)
theorem EF {i:Int}(h:i.natAbs<2^1000):i.natAbs.log2<1920:=by
 by_cases z:i.natAbs=0
 ·rw[z];decide
 ·exact qAJ ((Nat.log2_lt z).mpr h) ∅
theorem LM {l:List Nat}{n:Nat}(h:fig l=some n):PySem.intText? (mkS l)=some (n:Int):=by
 unfold fig at h
 split at h
 ·rename_i c
  cases h
  exact intText_digits (x:=mkS l) c.2.2.1 c.1 (by rw[mkS_len];omega)
 ·cases h
theorem Gx {l:List Nat}(h:l=[]∨60<l.length):fig l=none:=by
 unfold fig
 rw[if_neg]
 intro z
 rcases h with h|h
 ·exact z.1 h
 ·have:=z.2.1
  omega
theorem Jk {l:List Nat}{c:Nat}(h:c∈l) (hc:¬(48≤c∧c≤57)):fig l=none:=by
 unfold fig
 rw[if_neg]
 exact fun z=>hc (z.2.2.1 c h)
theorem Kd {l:List Nat}(h:l.head? = some 48∧1<l.length):fig l=none:=by
 unfold fig
 rw[if_neg]
 exact fun z=>z.2.2.2 h
theorem KY {l:List Nat}(h1:¬(l=[]∨60<l.length)) (h2:∀c∈l,48≤c∧c≤57) (h3:¬(l.head? = some 48∧1<l.length)):fig l=some (digitsVal l):=by
 unfold fig
 rw[if_pos]
 exact⟨fun z=>h1 (.inl z),(),h2,h3⟩
theorem D8 (c:Nat):∀(l:List Nat),∀p∈cutAt c l,p.length≤l.length∧∀d∈p,d∈l
 |[],p,h=>by
  have:p=[]:=by simpa [cutAt] using h
  subst this
  exact⟨qAj _,fun d h=>h⟩
 |d::r,p,h=>by
  have ih:=D8 c r
  obtain⟨a,ps,e⟩:=Bn c r
  rw[cutAt,e] at h
  rw[e] at ih
  split at h
  ·rcases qAg.mp h with h|h
   ·subst h
    exact⟨qBd _,fun d h=>by cases h⟩
   ·have:=ih p h
    exact⟨by simp only[qAl];omega,fun z hz=>qAc _ (this.2 z hz)⟩
  ·rcases qAg.mp h with h|h
   ·subst h
    have:=ih a (qAe ..)
    refine⟨by simp only[qAl];omega,fun z hz=>?_⟩
    rcases qAg.mp hz with hz|hz
    ·rw[hz];exact qAe ..
    ·exact qAc _ (this.2 z hz)
   ·have:=ih p (qAc _ h)
    exact⟨by simp only[qAl];omega,fun z hz=>qAc _ (this.2 z hz)⟩
theorem Il:(Str.ofString "0123456789").cps.toList=[48,49,50,51,52,53,54,55,56,57]:=by decide +kernel
theorem Iu {c:Nat}:(⟨#[c]⟩:Str)=Str.ofString "0" ↔ c=48:=by
 have e:Str.ofString "0"=⟨#[48]⟩:=by decide +kernel
 rw[e]
 constructor
 ·intro h
  have:=congrArg (fun x:Str=>x.cps.toList) h
  simpa using this
 ·rintro rfl;rfl
def sh (q:Rat):Str:=mkS (DT q.num.toNat q.den)
theorem PZ {q:Rat}(h0:0≤q.num) (h1:q.num<10^60) (h2:q.den<10^60):rdR (DT q.num.toNat q.den)=some (q.num.toNat,q.den):=by
 refine Kv () h2 q.den_pos ?_
 have:=q.reduced
 have e:q.num.natAbs=q.num.toNat:=()
 rw[e] at this
 exact this
theorem Ef {a b:Nat}:∀c∈DT a b,c<128:=by
 intro c hc
 unfold DT at hc
 have h1:=D7 a c
 have h2:=D7 b c
 split at hc
 ·have:=h1 hc;omega
 ·rcases qAq.mp hc with z|z
  ·have:=h1 z;omega
  ·rcases qAg.mp z with z|z
   ·omega
   ·have:=h2 z;omega
end CH
namespace L3
open PySem PySem.Spec PyProof.Rows L2 PySem.Builtin.Str
section
variable {X:Cx}{e a b c o:Expr}{te ta tb tc to:TE3}{pos:Pos}{es:List Expr}{tr:TA3}
def tS (x:S)(k:Str→Prop):Prop:=match x with
 |.d (.str y)=>k y
 |_=>False
theorem Dk {x:S}{k:Str→Prop}(h:tS x k):∃y,x=.d (.str y)∧k y:=by
 unfold tS at h
 split at h
 ·exact⟨_,rfl,h⟩
 ·exact h.elim
theorem CJ {x:Str}{p:Pos}{T:String}{r:List S→(S→Prop)→Prop}(hc:Ei X (.type T) r) (hg:Gl X x) (hm:X.mg x=none) (hv:bootBuiltins x=some (.type T)) (ha:PA3 X (e::es) tr) (hn:x≠"__name__":=by decide)
 (hdb:(x==("__debug__":Str))=false:=by decide) (he:starEach (e::es) X.env=(false,eval e X.env)::starEach es X.env:=by exact AV rfl) (hpl:(backTo pos (starEach es X.env)).any (·.1)=false:=by exact AR rfl) :
 PE3 X (.Call (.Name x p) (e::es) [] pos) (vCB r tr):=⟨Ax (Fy hc hg hm hv ha.out hn hdb he hpl) fun σ H Q hh=>by
  obtain⟨B,z,τ,R,r,ht,q⟩:=hh
  exact⟨B,_,τ,_,r,ht,fun ss vs H1 e1 i1 h1=>⟨H1.z,ss,R,e1.sub,i1,h1,fun s v H2 e2 i2 f2 h2=>q s v H2 (e1.trans e2) i2 (EB e1 f2) h2⟩⟩⟩
def Qh:List S→(S→Prop)→Prop:=fun ss R=>match ss with
 |[.d (.int i)]=>i.natAbs.log2<1920∧R (.d (.str (Str.ofString (toString i))))
 |_=>False
theorem Iq:Ei X (.type "str") Qh:=Cp F4 fun xs H Q hh=>by
 obtain⟨z,ss,R,hz,ha,h3,q⟩:=hh
 unfold Qh at h3
 split at h3
 ·rename_i i
  obtain⟨v,rfl,h⟩:=GG ha
  cases Is.int_inv h
  exact⟨i,rfl,h3.1,q (.d _) _ ⟨H,z⟩ (Ext.refl hz) (Is.str _) Ce h3.2⟩
 ·exact h3.elim
theorem EZ:Cd X (.type "int") (fun xs H Q=>∃x n,xs=[.str x]∧PySem.intText? x=some n∧x.length≤640∧Q (.int n) H):=by
 intro pins s σ H xs us Q I r h
 obtain⟨x,n,rfl,hn,hl,q⟩:=h
 obtain⟨u,rfl,t,rfl⟩:=DQ r
 exact PySem.W.KIN.call_text hn hl ⟨.int n,H,I.tok _,⟨_,rfl⟩,q⟩
def Qe:List S→(S→Prop)→Prop:=fun ss R=>match ss with
 |[.d (.str x)]=>∃n,PySem.intText? x=some n∧x.length≤640∧R (.d (.int n))
 |[.d (.bl k)]=>R (.d (.int (if k then 1 else 0)))
 |_=>False
theorem Po:Ei X (.type "int") Qe:=Cp (Ic.or EZ) fun xs H Q hh=>by
 obtain⟨z,ss,R,hz,ha,h3,q⟩:=hh
 unfold Qe at h3
 split at h3
 ·rename_i x
  obtain⟨n,hn,hl,h3⟩:=h3
  obtain⟨v,rfl,h⟩:=GG ha
  cases Is.str_inv h
  exact .inr ⟨x,n,rfl,hn,hl,q (.d _) _ ⟨H,z⟩ (Ext.refl hz) (Is.int _) Ce h3⟩
 ·rename_i k
  obtain⟨v,rfl,h⟩:=GG ha
  cases Is.bl_inv h
  exact .inl (.inr ⟨k,rfl,q (.d _) _ ⟨H,z⟩ (Ext.refl hz) (Is.int _) Ce h3⟩)
 ·exact h3.elim
def NI:List S→(S→Prop)→Prop:=fun ss R=>match ss with
 |[.d (.str x)]=>x.length≤1000000∧R (.d (.int x.length))
 |_=>False
theorem Fx:Ei X (.builtin "len") NI:=Cp FC fun xs H Q hh=>by
 obtain⟨z,ss,R,hz,ha,h3,q⟩:=hh
 unfold NI at h3
 split at h3
 ·rename_i x
  obtain⟨v,rfl,h⟩:=GG ha
  cases Is.str_inv h
  exact⟨x,rfl,qAr h3.1 ∅,q (.d _) _ ⟨H,z⟩ (Ext.refl hz) (Is.int _) Ce h3.2⟩
 ·exact h3.elim
theorem Ft (y:Str){c:Nat}(hc:c<256):Txt.split y ⟨#[c]⟩=(CH.cutAt c y.cps.toList).map CH.mkS:=by
 have hn:y.cps.toList.length=y.length:=Array.length_toList
 unfold Txt.split
 have h1:(⟨#[c]⟩:Str).length=1:=rfl
 rw[CH.occ_is,h1]
 by_cases h:(decide (y.length<1)||decide (Builtin.Str.strKind y<Builtin.Str.strKind ⟨#[c]⟩))=true
 ·rw[if_pos h]
  have:y.length<1:=by
   rcases Bool.or_eq_true_iff.mp h with h|h
   ·exact of_decide_eq_true h
   ·have:=of_decide_eq_true h
    rw[CH.kind_one hc] at this
    exact this.elim
  have e:y.cps.toList=[]:=qAG ()
  rw[e]
  show [y]=[CH.mkS []]
  rw[←e,CH.mkS_of]
 ·rw[if_neg h]
  by_cases h2:(CH.posAt c 0 y.cps.toList).isEmpty=true
  ·rw[if_pos h2,CH.cut_no (CH.pos_nil (List.isEmpty_iff.mp h2))]
   show [y]=[CH.mkS y.cps.toList]
   rw[CH.mkS_of]
  ·rw[if_neg h2,CH.parts_cut]
theorem Fs:∀l:List (Str×Tok),Be ((l.map (·.1)).map V.str) (strValues l)
 |[]=>.nil
 |p::r=>.cons ⟨p.2,rfl⟩ (Fs r)
theorem Kn:MtR X "str.split" (fun x xs H Q=>∃(y:Str)(c:Nat),x=.str y∧xs=[.str ⟨#[c]⟩]∧c<256∧y.length≤100000∧∀p,H p=none→X.K.lookup p=none→Q (.ref p) (upd H p (.lst (((CH.cutAt c y.cps.toList).map CH.mkS).map V.str)))):=by
 intro pins s σ H x xs v us Q I rx rs h
 obtain⟨y,c,rfl,rfl,hc,hl,q⟩:=h
 obtain⟨t,rfl⟩:=rx
 obtain⟨u,rfl,t',rfl⟩:=DQ rs
 have hs:sizeLine=16777216:=sizeLine_eq
 have hf:H s.heap.objs.size=none:=I.hok.fresh (qAj _)
 have hk:X.K.lookup s.heap.objs.size=none:=by
  cases e:X.K.lookup s.heap.objs.size with
  |none=>rfl
  |some o=>exact absurd (qAh (I.kIn _ _ e)) (qAF _)
 have hn:(partsBetween y (occurrences y ⟨#[c]⟩ 0 y.length (y.length+1)) (⟨#[c]⟩:Str).length).length≤100002:=by
  have:=StrLaws.occ_length_le y ⟨#[c]⟩ 0 y.length (y.length+1)
  rw[length_partsBetween]
  omega
 have hn2:(Txt.split y ⟨#[c]⟩).length≤100002:=by
  unfold Txt.split
  split
  ·exact qBb rfl
  ·split
   ·exact qBb rfl
   ·exact hn
 have fin:∀(l:List (Str×Tok))(k:Tok),l.map (·.1)=Txt.split y ⟨#[c]⟩→EP X pins σ Q (.ref s.heap.objs.size) { s with toks:=k,heap:=s.heap.push { cls:=.type "list",data:=.seq (strValues l).toArray } }:=fun l k e=>by
  have rv:=Fs l
  rw[e,Ft y hc] at rv
  have hz:(((CH.cutAt c y.cps.toList).map CH.mkS).map V.str).length≤sizeLine:=by
   rw[←Ft y hc,qAa]
   omega
  exact⟨.ref s.heap.objs.size,_,I.laid (t':=k) (fun b o e=>qAm _ e) (qAj _) (show Bg X.prog X.w _ _ _ (.lst (((CH.cutAt c y.cps.toList).map CH.mkS).map V.str)) from ⟨hz,_,0,rv,qAH _ rfl⟩),rfl,q _ hf hk⟩
 have hz1:((⟨#[c]⟩:Str).length==0)=false:=rfl
 have call:=fun {S}(m:Meets _ S) h=>PySem.call_meets (prog:=X.prog) (w:=X.w) (A:=X.A) (Q:=EP X pins σ Q) (E:=X.xe) (s:=s) F.slot_str_split (typeIs_str _ _ _) F.entry_str_split (F.args_str_split_2 (.str y t) (.str ⟨#[c]⟩ t')) m h
 cases a1:(decide (y.length<(⟨#[c]⟩:Str).length)||decide (Builtin.Str.strKind y<Builtin.Str.strKind ⟨#[c]⟩)) with
 |true =>
  refine call (meets_str_split_cannot_occur y ⟨#[c]⟩ t t' a1) ?_
  exact fin [(y,t)] s.toks (by unfold Txt.split;rw[if_pos a1];rfl)
 |false =>
  cases a2:(occurrences y ⟨#[c]⟩ 0 y.length (y.length+1)).isEmpty with
  |true =>
   refine call (meets_str_split_not_found y ⟨#[c]⟩ t t' a1 hz1 a2) ?_
   exact fin [(y,t)] s.toks (by unfold Txt.split;rw[a1,if_neg qAf,if_pos a2];rfl)
  |false =>
   refine call (meets_str_split_sep y ⟨#[c]⟩ t t' a1 hz1 a2 () ()) ?_
   show wants _ _ _ { s with toks:=_,heap:=s.heap.push { cls:=.type "list",data:=.seq (strsFrom s.toks (partsBetween y (occurrences y ⟨#[c]⟩ 0 y.length (y.length+1)) (⟨#[c]⟩:Str).length)).toArray } }
   rw[strsFrom_eq]
   exact fin (numbered s.toks _) _ (by rw[numbered_texts];unfold Txt.split;rw[a1,if_neg qAf,a2,if_neg qAf])
def Ni (to te:TE3):TE3:=fun τ R=>to τ fun x=>tS x fun y=>te τ fun z=>tS z fun sep=>∃c,sep=⟨#[c]⟩∧c<256∧y.length≤100000∧R (.l ((CH.cutAt c y.cps.toList).map fun p=>D.str (CH.mkS p)))
theorem KH {K:PySem.W.Frag}{H:Hp}(l:List (List Nat)):Iss K H ((l.map CH.mkS).map V.str) (l.map fun p=>D.str (CH.mkS p)):=by
 refine⟨by simp,fun i v x h1 h2=>?_⟩
 rw[qA8,qAo] at h1
 rw[qAo] at h2
 cases e:l[i]? with
 |none=>rw[e] at h1;cases h1
 |some p =>
  rw[e] at h1 h2
  cases h1
  cases h2
  exact .str _
theorem Fj {ap cp:Pos}(ho:PE3 X o to) (he:PE3 X e te) (hbase:attributeBase o "split" X.env (eval o X.env)=eval o X.env:=by rfl)
 (hfew:((backTo cp (starEach [e] X.env)).all (fun x=>!x.1)&&(backToKw cp (keywordEach [] X.env)).all (fun x=>x.1.isSome)&&decide ([e].length+([]:List Keyword).length+(if ([]:List Keyword).isEmpty then 0 else 1)<30))=true:=by rfl)
 (hline:(ap.endLine==cp.line)=true:=by rfl) (hs:starEach [e] X.env=(false,eval e X.env)::starEach [] X.env:=by rfl) (hplain:(backTo cp (starEach [] X.env)).any (·.1)=false:=by rfl) :
 PE3 X (.Call (.Attribute o "split" ap) [e] [] cp) (Ni to te) :=
 ⟨Ax (F9 qA4 PySem.F.slot_str_split PySem.F.type_str_split Kn ho.out (AM he.out BI hs) hbase hfew hline hs hplain) fun σ H Q hh=>by
  obtain⟨B,z,τ,R,r,ht,q⟩:=hh
  refine⟨B,_,τ,_,r,ht,fun x v H1 e1 i1 f1 h1=>?_⟩
  obtain⟨y,rfl,h1⟩:=Dk h1
  cases Is.str_inv i1
  refine⟨rfl,B,_,τ,_,r.mono e1,h1,fun s u H2 e2 i2 f2 h2=>?_⟩
  obtain⟨sep,rfl,c,rfl,hc,hl,h2⟩:=Dk h2
  cases Is.str_inv i2
  refine⟨y,c,rfl,rfl,hc,hl,fun p hp hk=>q (.l _) _ ⟨_,H2.z⟩ ((e1.trans e2).trans (Ext.own e2.sub hp _)) ⟨p,_,rfl,Al,KH _⟩ (fun xs a _ h3=>?_) h2⟩
  cases h3
  exact⟨(e1.trans e2).hh.free hp,hk,e2.sub.free hp⟩⟩
def Its (y:Str):It:=⟨fun i _=>i<y.cps.size,fun i H x H'=>H'=H∧∃c,y.cps[i]? = some c∧x=.str ⟨#[c]⟩,fun i _=>y.cps.size≤i⟩
theorem J9 {P:Program}{w:World}{K:PySem.W.Frag}{tg:Expr}(it:Addr) (y:Str) (t:Tok):M5 P w K tg (Its y) [it] it (fun i h=>h.IsStrIter it "str_ascii_iterator" y t i) where
 mem:=by simp
 obj:=fun i h st b hb=>by
  have e:=qAx.mp hb
  subst e
  obtain⟨o,e,c,d⟩:=st
  exact⟨o,e,fun v z=>by rw[d] at z;cases z⟩
 keep:=fun i h h' st k=>by
  obtain⟨o,e,r⟩:=st
  exact⟨o,k it (qAx.mpr rfl) o e,r⟩
 item:=by
  intro X hP hw hK hc i pins s σ H E I hf st hg
  subst hP hw hK
  obtain⟨f0,f1,f2,f3,f4,f5⟩:=hf it (qAx.mpr rfl)
  have hi:y.cps[i]? = some (y.cps[i]'hg):=Array.getElem?_eq_getElem hg
  refine wpAny_pyNext_ascii_item st hi fun h' st' sb=>?_
  have I1:Inv X pins σ H { s with heap:=h',toks:=s.toks+1 }:=I.turned (fun b o hb e=>(sb.2 b hb).trans e) f0 f1 f3 f4 f5
  obtain⟨o,e,c,d⟩:=id st'
  exact⟨_,rfl,KC (s:={ s with heap:=h',toks:=s.toks+1 }) e c d ∅ ⟨.str ⟨#[y.cps[i]'hg]⟩,H,I1,⟨_,rfl⟩,⟨rfl,_,hi,rfl⟩,st',fun b hb=>(hf b hb).1⟩⟩
 done:=by
  intro X hP hw hK hc i pins s σ H E I hf st hg
  subst hP hw hK
  obtain⟨f0,f1,f2,f3,f4,f5⟩:=hf it (qAx.mpr rfl)
  exact wpAny_pyNext_ascii_end (I.ok.hd hc) st (Array.getElem?_eq_none hg) fun h' eb=>⟨rfl,I.turned (t':=s.toks) (fun b o hb e=>eb b o hb e) f0 f1 f3 f4 f5⟩
 self:=fun _ _ _ _ _ st h=>wpAny_pyIter_striter_ascii st h
def P5 (tl:TE):TI:=fun σ H R=>tl σ H fun x H1=>∃y,x=.str y∧y.cps.all (· < 128)=true∧R (Its y) H1
theorem OG {tg l:Expr}{tl:TE}(hl:PE X l tl):PI X tg l (P5 tl):=by
 intro pins s σ H R I h
 refine thn (hl pins s σ H _ I h) fun v s1 hh=>?_
 obtain⟨x,H1,I1,r1,y,rfl,ha,q⟩:=hh
 obtain⟨t,rfl⟩:=r1
 refine wpAny_pyIter_ascii ha ⟨s1.heap.objs.size,[s1.heap.objs.size],_,_,H1,rfl,I1.kept (t':=s1.toks) fun b o e=>qAm _ e,J9 _ y t,⟨_,qAH _ rfl,rfl,rfl⟩,fun b hb=>?_,q⟩
 have e:=qAx.mp hb
 subst e
 exact I1.fpOk (qAj _) (I1.hok.fresh (qAj _))
def Ov (j i:Nat)(tb:TS3):TS3:=fun D3 τ=>match τ[j]? with
 |some (some (.d (.str y)))=>y.cps.all (· < 128)=true∧Pu i (y.cps.toList.map fun c=>D.str ⟨#[c]⟩) tb D3 τ
 |_=>False
theorem NX {j i:Nat}{x y:Str}{px py:Pos}{body:List Stmt}{tb:TS3}(h:PS X (.For (.Name x px) (.Name y py) body [] pos) (ON (P5 (KG j)) (Gd i) (FS X tb))) (hp:DH X i:=by first|exact CU rfl|exact pin_ne rfl ∅|assumption):PS3 X (.For (.Name x px) (.Name y py) body [] pos) (Ov j i tb):=⟨BS h fun D2 σ H hh=>by
 obtain⟨B,z,τ,D3,r,ht,c⟩:=hh
 unfold Ov at ht
 split at ht
 ·rename_i y hs
  obtain⟨ha,I,i0,turn,out⟩:=ht
  obtain⟨v,h1,h2⟩:=r.val j _ hs
  cases Is.str_inv h2
  refine⟨.str y,h1,y,rfl,ha,fun n m σ1 H1=>m=y.cps.size-n∧n≤y.cps.size∧∃z1 τ1,Rep X ⟨IU τ σ H,z⟩ τ1 σ1 ⟨H1,z1⟩∧I n τ1,⟨y.cps.size,rfl,qBd _,z,_,r.inB,i0⟩,?_⟩
  rintro n m σ1 H1 ⟨rfl,hn,z1,τ1,r1,ih1⟩
  by_cases hlt:n<y.cps.size
  ·refine .inr ⟨hlt,fun σ' H'=>∃z' τ',Rep X ⟨IU τ σ H,z⟩ τ' σ' ⟨H',z'⟩∧I (n+1) τ',fun σ' H' p'=>⟨y.cps.size-(n+1),(),rfl,hlt,p'⟩,fun x H' w=>?_⟩
   obtain⟨rfl,c',hc',rfl⟩:=w
   have hx:(y.cps.toList.map fun c=>D.str ⟨#[c]⟩)[n]? = some (D.str ⟨#[c']⟩):=by
    rw[qAo,Array.getElem?_toList,hc'];rfl
   exact⟨_,_,_,_,r1.setd (.str _) hp,turn n τ1 _ hx ih1,c.inB r.leB fun τ' σ' p' r' h'=>⟨p'.z,τ',r',h'⟩⟩
  ·refine .inl ⟨Nat.le_of_not_lt hlt,c.nx _ _ _ (r1.outB r.leB) (out τ1 ?_)⟩
   have e:n=y.cps.size:=()
   rw[qAa,Array.length_toList,←e]
   exact ih1
 ·exact ht.elim⟩
def inS (i j:Str):Bool:=!(Builtin.Str.occurrences j i 0 j.length 1).isEmpty
theorem Mw (c:Nat)(j:Str):inS ⟨#[c]⟩ j=decide (c∈j.cps.toList):=StrLaws.found_one j c
def Jc:R3:=fun dx dy R=>match dx,dy with
 |.str i,.str j=>R (.bl (!inS i j))
 |_,_=>False
theorem KO:DW X (compareOp .NotIn) Jc:=CB FD fun x y H Q hh=>by
 obtain⟨z,dx,dy,R,hz,hx,hy,h3,q⟩:=hh
 unfold Jc at h3
 split at h3
 ·rename_i i j
  exact⟨i,j,hx.str_inv,hy.str_inv,q _ _ ⟨H,z⟩ (Ext.refl hz) (.bl _) h3⟩
 ·exact h3.elim
def Nc:R3:=fun dx dy R=>match dx,dy with
 |.str i,.str j=>i.length+j.length≤1000000∧R (.str (i++j))
 |_,_=>False
theorem BF:DW X (binaryOp .Add) Nc:=CB ES fun x y H Q hh=>by
 obtain⟨z,dx,dy,R,hz,hx,hy,h3,q⟩:=hh
 unfold Nc at h3
 split at h3
 ·rename_i i j
  exact⟨i,j,hx.str_inv,hy.str_inv,qAr h3.1 ∅,q _ _ ⟨H,z⟩ (Ext.refl hz) (.str _) h3.2⟩
 ·exact h3.elim
def Q0 (ta tb:TE3):TE3:=fun τ R=>ta τ fun x=>tb τ fun y=>tS x fun xs=>match y with
 |.d (.int i)=>xs.length≤1000000∧∃c,atI xs.cps.toList i=some c∧R (.d (.str ⟨#[c]⟩))
 |_=>False
theorem Od (ha:PE3 X a ta)(hb:PE3 X b tb)(hs:GF b):PE3 X (.Subscript a b pos) (Q0 ta tb):=⟨Ax (Ow Nz ha.out hb.out hs) fun σ H Q hh=>by
 obtain⟨B,z,τ,R,r,ht,q⟩:=hh
 refine⟨B,_,τ,_,r,ht,fun x v H1 e1 i1 f1 h1=>?_⟩
 refine⟨B,_,τ,_,r.mono e1,h1,fun y u H2 e2 i2 f2 h2=>?_⟩
 obtain⟨xs,rfl,h2⟩:=Dk h2
 cases y with
 |l _=>exact h2.elim
 |r _=>exact h2.elim
 |d y =>
 cases y with
 |int i =>
  obtain⟨hl,c,hc,h2⟩:=h2
  exact⟨xs,i,c,Is.str_inv i1,Is.int_inv i2,qAr hl ∅,hc,q (.d _) _ _ (e1.trans e2) (Is.str _) Ce h2⟩
 |_=>exact h2.elim⟩
end
end L3
namespace CH
open PySem PySem.Builtin.Str NumText
def joinC (c:Nat):List (List Nat)→List Nat
 |[]=>[]
 |[x]=>x
 |x::y::r=>x++c::joinC c (y::r)
theorem EX {c:Nat}:∀{ps:List (List Nat)},ps≠[]→(∀p∈ps,c∉p)→cutAt c (joinC c ps)=ps
 |[],h,_=>absurd rfl h
 |[x],_,h=>cut_no (h x (qAe ..))
 |x::y::r,_,h=>by
  rw[joinC,BO (h x (qAe ..)),EX (by simp) fun p hp=>h p (qAc _ hp)]
theorem join_is {c:Nat}:∀ls:List (List Nat),Str.join ⟨#[c]⟩ (ls.map mkS)=mkS (joinC c ls)
 |[]=>rfl
 |[x]=>rfl
 |x::y::r=>by
  have:=join_is (c:=c) (y::r)
  show mkS x ++ ⟨#[c]⟩++Str.join ⟨#[c]⟩ ((y::r).map mkS)=_
  rw[this,C7,Au,Au,joinC,qAI]
  rfl
theorem join_len {c:Nat}:∀ls:List (List Nat),(joinC c ls).length≤(ls.map (·.length)).sum+ls.length
 |[]=>qBd _
 |[x]=>by simp[joinC]
 |x::y::r=>by
  have:=join_len (c:=c) (y::r)
  rw[joinC]
  simp only[qAd,qAl,qA1,qBF] at this ⊢
  omega
theorem DU {c:Nat}:∀{ls:List (List Nat)}{d:Nat},d∈joinC c ls→d=c∨∃p∈ls,d∈p
 |[],_,h=>by cases h
 |[x],d,h=>.inr ⟨x,qAe ..,h⟩
 |x::y::r,d,h=>by
  rw[joinC] at h
  rcases qAq.mp h with z|z
  ·exact .inr ⟨x,qAe ..,z⟩
  ·rcases qAg.mp z with z|z
   ·exact .inl z
   ·rcases DU z with w|⟨p,hp,hd⟩
    ·exact .inl w
    ·exact .inr ⟨p,qAc _ hp,hd⟩
theorem En (l:List Nat):∀(m a:Nat),a+m≤l.length→(((List.range m).map fun j=>a+j).filterMap fun i=>l[i]?)=(l.drop a).take m
 |0,a,_=>by simp
 |m+1,a,h=>by
  have ih:=En l m a ()
  rw[List.range_succ,qAE,qBI,ih]
  have hl:a+m<l.length:=()
  rw[qA0]
  simp[qB0,qAb hl]
end CH
namespace CH
open PySem PySem.Builtin.Str NumText
theorem Fu (l:List Nat)(lo hi:Option Int)(a m:Nat)(h:a+m≤l.length)(e:strSliceIndices lo hi 1 l.length=(List.range m).map fun j=>a+j):Txt.slice (mkS l) lo hi=mkS ((l.drop a).take m):=by
 unfold Txt.slice
 rw[mkS_len,e]
 split
 ·rename_i z
  have hm:m=l.length:=by simpa using z
  have ha:a=0:=()
  subst ha hm
  rw[qBB,qBH]
 ·have:(fun i:Nat=>(mkS l).cps[i]?)=fun i:Nat=>l[i]? := by
   funext i
   show l.toArray[i]? = l[i]?
   simp
  show(⟨(List.filterMap (fun i:Nat=>(mkS l).cps[i]?) ((List.range m).map fun j=>a+j)).toArray⟩:Str)=_
  rw[this,En l m a h]
  rfl
theorem Lu {a b:Nat}:sliceRange ((a:Nat):Int) ((b:Nat):Int) 1=(List.range (b-a)).map fun j=>a+j:=by
 unfold sliceRange
 have e:(if (1:Int)>0 then (if ((a:Nat):Int)<((b:Nat):Int) then (((b:Nat):Int)-((a:Nat):Int)+1-1)/1 else 0) else (if ((a:Nat):Int)>((b:Nat):Int) then (((a:Nat):Int)-((b:Nat):Int)-1-1)/(-1) else 0)).toNat=b-a:=by
  rw[if_pos ∅]
  split<;>omega
 simp only[e]
 refine qBu fun k _=>?_
 omega
theorem JU (l:List Nat)(k:Nat):Txt.slice (mkS l) none (some (k:Int))=mkS (l.take k):=by
 have h:=Fu l none (some (k:Int)) 0 (min k l.length) () (by
  have:=@Lu 0 (min k l.length)
  unfold strSliceIndices
  simp only[show(1:Int)>0 from ∅,if_true]
  have e:max 0 (min (if (k:Int)<0 then (k:Int)+(l.length:Int) else (k:Int)) (l.length:Int))=((min k l.length:Nat):Int):=by
   rw[if_neg ()];omega
  rw[e]
  exact this)
 rw[h,qBB]
 congr 1
 rw[List.take_eq_take_iff]
 omega
theorem Dz (l:List Nat)(k:Nat):Txt.slice (mkS l) (some (k:Int)) none=mkS (l.drop k):=by
 have h:=Fu l (some (k:Int)) none (min k l.length) (l.length-min k l.length) () (by
  have:=@Lu (min k l.length) l.length
  unfold strSliceIndices
  simp only[show(1:Int)>0 from ∅,if_true]
  have e:max 0 (min (if (k:Int)<0 then (k:Int)+(l.length:Int) else (k:Int)) (l.length:Int))=((min k l.length:Nat):Int):=by
   rw[if_neg ()];omega
  rw[e]
  exact this)
 rw[h]
 congr 1
 rw[qBj (by rw[qAv];omega)]
 by_cases c:k≤l.length
 ·rw[qCb c]
 ·rw[qAA (),qAA ()]
theorem starts_one (l:List Nat)(c:Nat):(decide (0+(⟨#[c]⟩:Str).length≤(mkS l).length)&&subAt (mkS l) ⟨#[c]⟩ 0)=decide (l.head? = some c):=by
 have h:=StrLaws.subAt_one (mkS l) c 0
 rw[mkS_list] at h
 rw[qBa,qAN,decide_eq_true_eq,decide_eq_true_eq,h,List.head?_eq_getElem?]
end CH
namespace L3
open PySem PySem.Spec PyProof.Rows L2 PySem.Builtin PySem.Builtin.Str
section
variable {X:Cx}{e a b c o:Expr}{te ta tb tc to:TE3}{pos:Pos}{es:List Expr}{tr:TA3}
theorem NV:SlR X (fun x lo hi H Q=>∃y,x=.str y∧y.length≤1000000∧Q (.str (Txt.slice y lo hi)) H):=by
 intro pins s σ H x v vl vu lo hi sl Q I rx hs pl pu h
 obtain⟨y,rfl,hl,q⟩:=h
 obtain⟨t,rfl⟩:=rx
 have hz:∀l u,(Txt.slice y l u).length≤sizeLine:=fun l u=>qAr (Txt.slice_le y l u) (qAr hl ∅)
 refine⟨"str",_,F.slot_str_getitem.lookup,typeIs_str _ _ _,?_⟩
 have fin:∀(t':Tok)(k:Tok),EP X pins σ Q (.str (Txt.slice y lo hi) t') { s with toks:=k }:=fun t' k=>⟨.str _,H,I.tok k,⟨_,rfl⟩,q⟩
 cases pl with
 |none=>cases pu with
  |none=>exact wpAny_getItem_str_slice (l:=none) (u:=none) (st:=none) hs rfl (post_val_or_str ⟨hz _ _,fin⟩)
  |int j u=>exact wpAny_getItem_str_slice (l:=none) (u:=some (j,u)) (st:=none) hs rfl (post_val_or_str ⟨hz _ _,fin⟩)
 |int i u=>cases pu with
  |none=>exact wpAny_getItem_str_slice (l:=some (i,u)) (u:=none) (st:=none) hs rfl (post_val_or_str ⟨hz _ _,fin⟩)
  |int j u'=>exact wpAny_getItem_str_slice (l:=some (i,u)) (u:=some (j,u')) (st:=none) hs rfl (post_val_or_str ⟨hz _ _,fin⟩)
theorem Jx:MtR X "str.startswith" (fun x xs H Q=>∃(l:List Nat)(c:Nat),x=.str (CH.mkS l)∧xs=[.str ⟨#[c]⟩]∧Q (.bl (decide (l.head? = some c))) H):=by
 intro pins s σ H x xs v us Q I rx rs h
 obtain⟨l,c,rfl,rfl,q⟩:=h
 obtain⟨t,rfl⟩:=rx
 obtain⟨u,rfl,t',rfl⟩:=DQ rs
 refine PySem.call_meets F.slot_str_startswith (typeIs_str _ _ _) F.entry_str_startswith (F.args_str_startswith_2 _ _) (gives_str_startswith (CH.mkS l) ⟨#[c]⟩ t t').meets ?_
 refine⟨.bl _,H,I,?_,q⟩
 show Value.bool _=_
 rw[←CH.starts_one]
theorem Hm:∀{ys:List Str}{its:List Value},Be (ys.map V.str) its→∃l:List (Str×Tok),its=strValues l∧l.map (·.1)=ys
 |[],its,h=>by cases h;exact⟨[],rfl,rfl⟩
 |y::r,its,h=>by
  cases h with
  |cons h1 h2 =>
   obtain⟨l,e1,e2⟩:=Hm h2
   obtain⟨t,rfl⟩:=h1
   exact⟨(y,t)::l,by rw[e1];rfl,by rw[←e2];rfl⟩
theorem LU:MtR X "str.join" (fun x xs H Q=>∃(c:Nat)(p:Addr)(ls:List (List Nat)),x=.str ⟨#[c]⟩∧xs=[.ref p]∧SqL X.K H p ((ls.map CH.mkS).map V.str)∧(ls.map (·.length)).sum+ls.length≤1000000∧Q (.str (CH.mkS (CH.joinC c ls))) H):=by
 intro pins s σ H x xs v us Q I rx rs h
 obtain⟨c,p,ls,rfl,rfl,hq,hl,q⟩:=h
 obtain⟨t,rfl⟩:=rx
 obtain⟨u,rfl,r1⟩:=DQ rs
 cases r1
 obtain⟨its,rv,pl,hz⟩:=I.list hq
 obtain⟨l,rfl,el⟩:=Hm rv
 have hs:sizeLine=16777216:=sizeLine_eq
 have e0:(ls.map CH.mkS).map (·.length)=ls.map (·.length):=by
  rw[qA8]
  exact qBu fun x _=>CH.mkS_len x
 have et:Txt.join ⟨#[c]⟩ (l.map (·.1))=CH.mkS (CH.joinC c ls):=by
  rw[el,←CH.join_is]
  exact StrLaws.glued_eq_join _ _
 refine PySem.call_meets F.slot_str_join (typeIs_str _ _ _) F.entry_str_join (F.args_str_join_2 _ _) (meets_str_join_list ⟨#[c]⟩ t p l ?_) ⟨pl.isList,post_join l ⟨?_,fun t' k=>?_⟩⟩
 ·rw[el]
  have:=StrLaws.joinTotal ⟨#[c]⟩ (ls.map CH.mkS)
  unfold tooLong
  rw[this,e0,qAa,show(⟨#[c]⟩:Str).length=1 from rfl]
  exact decide_eq_false ()
 ·rw[et,CH.mkS_len]
  have:=CH.join_len (c:=c) ls
  omega
 ·rw[et]
  exact⟨.str _,H,I.tok k,⟨_,rfl⟩,q⟩
def Qv (te:TE3)(lo hi:TO3):TE3:=fun τ R=>te τ fun x=>lo τ fun l=>hi τ fun u=>tS x fun y=>y.length≤1000000∧R (.d (.str (Txt.slice y l u)))
theorem Ka {lo hi:Option Expr}{tl th:TO3}{p2:Pos}(he:PE3 X e te) (hl:PO3 X lo tl) (hh:PO3 X hi th):PE3 X (.Subscript e (.Slice lo hi none p2) pos) (Qv te tl th) :=
 ⟨Ax (GU NV he.out hl.out hh.out) fun σ H Q hh=>by
  obtain⟨B,z,τ,R,r,ht,q⟩:=hh
  refine⟨B,z,τ,_,r,ht,fun x v q1 e1 i1 f1 h1=>?_⟩
  refine⟨B,_,τ,_,r.mono e1,h1,fun l q2 e2 h2=>?_⟩
  refine⟨B,_,τ,_,(r.mono e1).mono e2,h2,fun u q3 e3 h3=>?_⟩
  obtain⟨y,rfl,hy,h3⟩:=Dk h3
  exact⟨y,Is.str_inv i1,hy,q (.d _) _ q3 (e1.trans (e2.trans e3)) (Is.str _) Ce h3⟩⟩
def Qx (to te:TE3):TE3:=fun τ R=>to τ fun x=>tS x fun y=>te τ fun z=>tS z fun w=>∃(l:List Nat)(c:Nat),y=CH.mkS l∧w=⟨#[c]⟩∧R (.d (.bl (decide (l.head? = some c))))
theorem Pq {ap cp:Pos}(ho:PE3 X o to) (he:PE3 X e te) (hbase:attributeBase o "startswith" X.env (eval o X.env)=eval o X.env:=by rfl)
 (hfew:((backTo cp (starEach [e] X.env)).all (fun x=>!x.1)&&(backToKw cp (keywordEach [] X.env)).all (fun x=>x.1.isSome)&&decide ([e].length+([]:List Keyword).length+(if ([]:List Keyword).isEmpty then 0 else 1)<30))=true:=by rfl)
 (hline:(ap.endLine==cp.line)=true:=by rfl) (hs:starEach [e] X.env=(false,eval e X.env)::starEach [] X.env:=by rfl) (hplain:(backTo cp (starEach [] X.env)).any (·.1)=false:=by rfl) :
 PE3 X (.Call (.Attribute o "startswith" ap) [e] [] cp) (Qx to te) :=
 ⟨Ax (F9 qA4 PySem.F.slot_str_startswith PySem.F.type_str_startswith Jx ho.out (AM he.out BI hs) hbase hfew hline hs hplain) fun σ H Q hh=>by
  obtain⟨B,z,τ,R,r,ht,q⟩:=hh
  refine⟨B,_,τ,_,r,ht,fun x v H1 e1 i1 f1 h1=>?_⟩
  obtain⟨y,rfl,h1⟩:=Dk h1
  cases Is.str_inv i1
  refine⟨rfl,B,_,τ,_,r.mono e1,h1,fun s u H2 e2 i2 f2 h2=>?_⟩
  obtain⟨w,rfl,l,c,rfl,rfl,h3⟩:=Dk h2
  cases Is.str_inv i2
  exact⟨l,c,rfl,rfl,q (.d _) _ H2 (e1.trans e2) (Is.bl _) Ce h3⟩⟩
theorem Gk {K:PySem.W.Frag}{H:Hp}{vs:List V}{l:List (List Nat)}(h:Iss K H vs (l.map fun p=>D.str (CH.mkS p))):vs=(l.map CH.mkS).map V.str:=by
 refine List.ext_getElem? fun i=>?_
 have hl:=h.1
 rw[qAa] at hl
 rw[qA8,qAo]
 cases e:l[i]? with
 |none =>
  have:=qAY.mp e
  exact qAY.mpr ()
 |some p =>
  have hi:=(qAi.mp e).1
  have hv:vs[i]? = some (vs[i]' ()):=qAb ()
  have:=h.2 i _ _ hv (by rw[qAo,e];rfl)
  rw[hv,Is.str_inv this]
  rfl
def PX (to te:TE3):TE3:=fun τ R=>to τ fun x=>tS x fun y=>te τ fun z=>∃(ls:List (List Nat))(c:Nat),y=⟨#[c]⟩∧items z=some (ls.map fun p=>D.str (CH.mkS p))∧z≠.d (.tup (ls.map fun p=>D.str (CH.mkS p)))∧(ls.map (·.length)).sum+ls.length≤1000000∧R (.d (.str (CH.mkS (CH.joinC c ls))))
theorem Dn {ap cp:Pos}(ho:PE3 X o to) (he:PE3 X e te) (hbase:attributeBase o "join" X.env (eval o X.env)=eval o X.env:=by rfl)
 (hfew:((backTo cp (starEach [e] X.env)).all (fun x=>!x.1)&&(backToKw cp (keywordEach [] X.env)).all (fun x=>x.1.isSome)&&decide ([e].length+([]:List Keyword).length+(if ([]:List Keyword).isEmpty then 0 else 1)<30))=true:=by rfl)
 (hline:(ap.endLine==cp.line)=true:=by rfl) (hs:starEach [e] X.env=(false,eval e X.env)::starEach [] X.env:=by rfl) (hplain:(backTo cp (starEach [] X.env)).any (·.1)=false:=by rfl) :
 PE3 X (.Call (.Attribute o "join" ap) [e] [] cp) (PX to te) :=
 ⟨Ax (F9 qA4 PySem.F.slot_str_join PySem.F.type_str_join LU ho.out (AM he.out BI hs) hbase hfew hline hs hplain) fun σ H Q hh=>by
  obtain⟨B,z,τ,R,r,ht,q⟩:=hh
  refine⟨B,_,τ,_,r,ht,fun x v H1 e1 i1 f1 h1=>?_⟩
  obtain⟨y,rfl,h1⟩:=Dk h1
  cases Is.str_inv i1
  refine⟨rfl,B,_,τ,_,r.mono e1,h1,fun s u H2 e2 i2 f2 h2=>?_⟩
  obtain⟨ls,c,rfl,hx,hne,hl,h2⟩:=h2
  obtain⟨a,vs,rfl,g2,g1⟩:=LA i2 e2.sub hx
  have ev:=Gk g2
  subst ev
  refine⟨c,a,ls,rfl,rfl,?_,hl,q (.d _) _ H2 (e1.trans e2) (Is.str _) Ce h2⟩
  rcases g1 with g1|g1
  ·exact g1
  ·exact absurd g1.2 hne⟩
variable {th:TS3}
end
end L3
namespace L3
open PySem PySem.Spec PyProof.Rows L2 PySem.Builtin PySem.Builtin.Str
section
variable {X:Cx}{a e2:Expr}{tA:TT}{t2:TE}{k:Int}{x y z:Str}{j j1 j2 j3:Nat}{pc p2 pb px ap p3 p4 cp pr pos:Pos}
end
end L3
namespace L3
open PySem PySem.Spec PyProof.Rows L2 PySem.Builtin PySem.Builtin.Str
section
variable {X:Cx}{tA:TT3}{t2 te to:TE3}{k:Int}{y z:Str}{j:Nat}{st:Stmt}{o e:Expr}
theorem GP (x:Str)(c:Nat):∀(l:List Nat)(st:Array Nat×Nat),1≤st.1.size→(forIn (m:=Id) l st (StrLaws.occBody x ⟨#[c]⟩ x.length 1)).run.fst=st.1
 |[],st,_=>rfl
 |i::r,st,h=>by
  rw[qBv]
  unfold StrLaws.occBody
  rw[if_neg (fun z=>by have:=z.1.1.1;omega)]
  exact GP x c r (st.1,st.2) h
theorem Mj (x:Str)(c:Nat):∀(m k f:Nat),k+m=x.length+1→f≤k→(forIn (m:=Id) (List.range' k m) ((#[]:Array Nat),f) (StrLaws.occBody x ⟨#[c]⟩ x.length 1)).run.fst.toList=(CH.posAt c k (x.cps.toList.drop k)).take 1:=by
 have hn:x.cps.toList.length=x.length:=Array.length_toList
 intro m
 induction m with
 |zero =>
  intro k f h1 _
  have:x.cps.toList.drop k=[]:=qAA ()
  rw[this]
  rfl
 |succ m ih =>
  intro k f h1 h2
  rw[List.range'_succ,qBv]
  unfold StrLaws.occBody
  have hk:=StrLaws.subAt_one x c k
  by_cases e:x.cps.toList[k]? = some c
  ·have hc:=hk.mpr e
   rw[if_pos ⟨⟨⟨Nat.one_pos,h2⟩,hc.1⟩,hc.2⟩]
   have hlt:k<x.cps.toList.length:=(qAi.mp e).1
   have hd:x.cps.toList.drop k=c::x.cps.toList.drop (k+1):=by
    rw[qAQ hlt]
    congr 1
    exact(qAi.mp e).2
   have:=GP x c (List.range' (k+1) m) (#[k],k+(⟨#[c]⟩:Str).length) (qAj _)
   rw[hd]
   show(forIn (m:=Id) (List.range' (k+1) m) (#[k],k+(⟨#[c]⟩:Str).length) (StrLaws.occBody x ⟨#[c]⟩ x.length 1)).run.fst.toList=_
   rw[this,CH.posAt,if_pos rfl]
   rfl
  ·rw[if_neg fun z=>e (hk.mp ⟨z.1.2,z.2⟩)]
   have:=ih (k+1) f () ()
   show(forIn (m:=Id) (List.range' (k+1) m) (#[],f) (StrLaws.occBody x ⟨#[c]⟩ x.length 1)).run.fst.toList=_
   rw[this]
   by_cases hlt:k<x.cps.toList.length
   ·rw[qAQ hlt]
    have hne:x.cps.toList[k]≠c:=fun z=>e (by rw[qAb hlt,z])
    rw[CH.posAt,if_neg hne]
   ·rw[qAA (),qAA ()]
    rfl
theorem HU {c:Nat}:∀{l:List Nat}{k i:Nat}{r:List Nat},CH.posAt c k l=i::r→∃p q,l=p++c::q∧c∉p∧i=k+p.length
 |[],_,_,_,h=>by cases h
 |d::s,k,i,r,h=>by
  rw[CH.posAt] at h
  split at h
  ·rename_i e
   cases h
   exact⟨[],s,by rw[e];rfl,by simp,by simp⟩
  ·rename_i e
   obtain⟨p,q,h1,h2,h3⟩:=HU h
   refine⟨d::p,q,by rw[h1];rfl,fun z=>?_,by rw[h3,qAl];omega⟩
   rcases qAg.mp z with z|z
   ·exact e z.symm
   ·exact h2 z
theorem MK:MtR X "str.partition" (fun x xs H Q=>∃(l:List Nat)(c:Nat),x=.str (CH.mkS l)∧xs=[.str ⟨#[c]⟩]∧l.length≤100000∧(c∉l→∀p,H p=none→Q (.ref p) (upd H p (.tup [.str (CH.mkS l),.str (CH.mkS []),.str (CH.mkS [])]))) ∧
 ∀a b,l=a++c::b→c∉a→∀p,H p=none→Q (.ref p) (upd H p (.tup [.str (CH.mkS a),.str (CH.mkS [c]),.str (CH.mkS b)]))):=by
 intro pins s σ H x xs v us Q I rx rs h
 obtain⟨l,c,rfl,rfl,hl,q1,q2⟩:=h
 obtain⟨t,rfl⟩:=rx
 obtain⟨u,rfl,t',rfl⟩:=DQ rs
 have hs:sizeLine=16777216:=sizeLine_eq
 have hf:H s.heap.objs.size=none:=I.hok.fresh (qAj _)
 have fin:∀(a b d:Str)(t1 t2 t3 k:Tok),(∀p,H p=none→Q (.ref p) (upd H p (.tup [.str a,.str b,.str d])))→EP X pins σ Q (.ref s.heap.objs.size) { s with toks:=k,heap:=s.heap.push { cls:=.type "tuple",data:=.seq [.str a t1,.str b t2,.str d t3].toArray } }:=fun a b d t1 t2 t3 k q=>by
  have rv:Be [V.str a,V.str b,V.str d] [.str a t1,.str b t2,.str d t3]:=.cons ⟨_,rfl⟩ (.cons ⟨_,rfl⟩ (.cons ⟨_,rfl⟩ .nil))
  exact⟨.ref s.heap.objs.size,_,I.laid (t':=k) (fun b o e=>qAm _ e) (qAj _) (show Bg X.prog X.w _ _ _ (.tup [V.str a,V.str b,V.str d]) from ⟨(show 3≤sizeLine from ∅),_,rv,IsTup.new _ _⟩),rfl,q _ hf⟩
 have oc:occurrences (CH.mkS l) ⟨#[c]⟩ 0 (CH.mkS l).length 1=(CH.posAt c 0 l).take 1:=by
  rw[StrLaws.occ_eq]
  have:=Mj (CH.mkS l) c ((CH.mkS l).length+1) 0 0 () (qAj _)
  rw[qBB,CH.mkS_list] at this
  exact this
 refine PySem.call_meets F.slot_str_partition (typeIs_str _ _ _) F.entry_str_partition (F.args_str_partition_2 _ _) (meets_str_partition (CH.mkS l) ⟨#[c]⟩ t t' rfl (by rw[CH.mkS_len];omega)) ?_
 rw[oc]
 cases hp:CH.posAt c 0 l with
 |nil=>exact fin (CH.mkS l) Str.empty Str.empty _ _ _ _ (q1 (CH.pos_nil hp))
 |cons i r =>
  obtain⟨a,b,e,ha,hi⟩:=HU hp
  have e1:strSub (CH.mkS l) 0 i=CH.mkS a:=by
   rw[CH.sub_is _ _ _ (by rw[CH.mkS_len,hi,e,qAd,qAl];omega),CH.mkS_list,hi,e]
   congr 1
   simp
  have e2:strSub (CH.mkS l) (i+(⟨#[c]⟩:Str).length) (CH.mkS l).length=CH.mkS b:=by
   rw[CH.sub_is _ _ _ (qAj _),CH.mkS_list,CH.mkS_len,hi,e]
   congr 1
   show((a++c::b).drop (0+a.length+1)).take _=b
   have one:(⟨#[c]⟩:Str).length=1:=rfl
   rw[show 0+a.length+1=a.length+1 from (),List.drop_append,qAA (),qCa,show a.length+1-a.length=1 from ()]
   show b.take _=b
   rw[qBj]
   rw[one,qAd,qAl]
   omega
  show EP X pins σ Q (.ref s.heap.objs.size) { s with toks:=s.toks+1+1,heap:=s.heap.push { cls:=.type "tuple",data:=.seq [.str (strSub (CH.mkS l) 0 i) s.toks,.str ⟨#[c]⟩ t',.str (strSub (CH.mkS l) (i+(⟨#[c]⟩:Str).length) (CH.mkS l).length) (s.toks+1)].toArray } }
  rw[e1,e2]
  exact fin (CH.mkS a) ⟨#[c]⟩ (CH.mkS b) _ _ _ _ (q2 a b e ha)
def Pm (to te:TE3):TE3:=fun τ R=>to τ fun x=>tS x fun y=>te τ fun z=>tS z fun sep=>∃(l:List Nat)(c:Nat),y=CH.mkS l∧sep=⟨#[c]⟩∧l.length≤100000∧(c∉l→R (.d (.tup [.str (CH.mkS l),.str (CH.mkS []),.str (CH.mkS [])]))) ∧
 ∀a b,l=a++c::b→c∉a→R (.d (.tup [.str (CH.mkS a),.str (CH.mkS [c]),.str (CH.mkS b)]))
theorem QW {K:PySem.W.Frag}{H:Hp}(a b d:Str):Iss K H [V.str a,V.str b,V.str d] [D.str a,D.str b,D.str d]:=by
 refine⟨rfl,fun i v x h1 h2=>?_⟩
 match i,h1,h2 with
 |0,h1,h2=>cases h1;cases h2;exact .str _
 |1,h1,h2=>cases h1;cases h2;exact .str _
 |2,h1,h2=>cases h1;cases h2;exact .str _
theorem K5 {ap cp:Pos}(ho:PE3 X o to) (he:PE3 X e te) (hbase:attributeBase o "partition" X.env (eval o X.env)=eval o X.env:=by rfl)
 (hfew:((backTo cp (starEach [e] X.env)).all (fun x=>!x.1)&&(backToKw cp (keywordEach [] X.env)).all (fun x=>x.1.isSome)&&decide ([e].length+([]:List Keyword).length+(if ([]:List Keyword).isEmpty then 0 else 1)<30))=true:=by rfl)
 (hline:(ap.endLine==cp.line)=true:=by rfl) (hs:starEach [e] X.env=(false,eval e X.env)::starEach [] X.env:=by rfl) (hplain:(backTo cp (starEach [] X.env)).any (·.1)=false:=by rfl) :
 PE3 X (.Call (.Attribute o "partition" ap) [e] [] cp) (Pm to te) :=
 ⟨Ax (F9 qA4 PySem.F.slot_str_partition PySem.F.type_str_partition MK ho.out (AM he.out BI hs) hbase hfew hline hs hplain) fun σ H Q hh=>by
  obtain⟨B,z,τ,R,r,ht,q⟩:=hh
  refine⟨B,_,τ,_,r,ht,fun x v H1 e1 i1 f1 h1=>?_⟩
  obtain⟨y,rfl,h1⟩:=Dk h1
  cases Is.str_inv i1
  refine⟨rfl,B,_,τ,_,r.mono e1,h1,fun s u H2 e2 i2 f2 h2=>?_⟩
  obtain⟨w,rfl,l,c,rfl,rfl,hl,h3,h4⟩:=Dk h2
  cases Is.str_inv i2
  have tup:∀(a b d:Str),R (.d (.tup [.str a,.str b,.str d]))→∀p,H2.h p=none→Q (.ref p) (upd H2.h p (.tup [.str a,.str b,.str d])):=fun a b d hR p hp=>by
   have jj:=(QW (K:=X.K) (H:=H2.z) a b d).mono (Bb (e2.sub.free hp) (.tup [V.str a,V.str b,V.str d]))
   exact q (.d _) _ _ ((e1.trans e2).trans (Ext.lay e2.sub hp (.tup [V.str a,V.str b,V.str d]))) (Is.tup (SqT.of Al) jj.1 jj.2) Ce hR
  exact⟨l,c,rfl,rfl,hl,fun z=>tup _ _ _ (h3 z),fun a b e ha=>tup _ _ _ (h4 a b e ha)⟩⟩
end
end L3
namespace L3
open PySem PySem.Spec PyProof.Rows L2
section
variable {X:Cx}{e a b:Expr}{te ta tb:TE3}{pos:Pos}
def PM (X:Cx):R2:=fun x y H Q=>∃l b xs zs,x=.ref l∧y=.ref b∧SqL X.K H l xs∧SqL X.K H b zs∧xs.length+zs.length≤sizeLine∧∀p,H p=none→Q (.ref p) (upd H p (.lst (xs++zs)))
theorem MX:OpR X (binaryOp .Add) (PM X):=by
 intro pins s σ H x y v u Q I rx ry h
 obtain⟨l,b,xs,zs,rfl,rfl,hH,hB,hz,q⟩:=h
 cases rx
 cases ry
 obtain⟨its,r,p1,_⟩:=I.list hH
 obtain⟨its2,r2,p2,_⟩:=I.list hB
 have e1:=r.length
 have e2:=r2.length
 obtain⟨⟨cls,dd,data,sl⟩,ho,hc,n,hd⟩:=p1.isList
 obtain⟨⟨cls2,dd2,data2,sl2⟩,ho2,hc2,n2,hd2⟩:=p2.isList
 simp only at hc hd hc2 hd2
 subst hc hd hc2 hd2
 have e:its.toArray++its2.toArray=(its++its2).toArray:=by simp
 refine concat_meets ⟨_,ho,rfl⟩ ⟨_,ho2,rfl⟩ noFill_list_add seq_list_add PySem.F.slot_list_add PySem.F.entry_list_add (PySem.F.args_list_add_2 _ _) (list_addW l b its.toArray its2.toArray n n2 dd dd2 sl sl2 (by simp;omega)) ⟨ho,ho2,?_⟩
 rw[e]
 exact⟨.ref _,_,I.lnew (t':=s.toks) (r.append r2) (by rw[qAd];omega),rfl,q _ I.fresh⟩
def O9 (ta tb:TE3):TE3:=fun τ R=>ta τ fun x=>tb τ fun y=>match PN x,PN y with
 |some xs,some ys=>xs.length+ys.length≤100000∧R (.l (xs++ys))
 |_,_=>False
theorem A1 (ha:PE3 X a ta)(hb:PE3 X b tb):PE3 X (.BinOp a .Add b pos) (O9 ta tb) :=
 ⟨Ax (P0 (Mv MX ha.out hb.out)) fun σ H Q hh=>by
  obtain⟨B,z,τ,R,r,ht,q⟩:=hh
  refine⟨B,_,τ,_,r,ht,fun x v H1 e1 i1 f1 h1=>?_⟩
  refine⟨B,_,τ,_,r.mono e1,h1,fun y u H2 e2 i2 f2 h2=>?_⟩
  have sz:(100000:Nat)<sizeLine:=∅
  split at h2
  ·rename_i xs ys hx hy
   obtain⟨a,vs,rfl,g1,g2⟩:=Lr (IsS.mono e2 i1) e2.sub hx
   obtain⟨b,ws,rfl,g1',g2'⟩:=Lr i2 e2.sub hy
   refine⟨a,b,vs,ws,rfl,rfl,g2,g2',by rw[g1.1,g1'.1];omega,fun p hp hk=>?_⟩
   exact q (.l (xs++ys)) _ ⟨_,H2.z⟩ ((e1.trans e2).trans (Ext.own e2.sub hp _)) ⟨p,vs++ws,rfl,Al,g1.append g1'⟩ (fun zs c _ h3=>by
    cases h3
    exact⟨(e1.trans e2).hh.free hp,hk p _ Al,e2.sub.free hp⟩) h2.2
  ·exact h2.elim⟩
end
end L3
namespace L3
open PySem
def RI (M:Model)(Γ:Ctx)(p:Pos)(s:Shared)(e:End)(s':Shared):Sem Fin→List Frame→Prop
 |x,F::fs=>∃e1 s1,Runs M (Γ.over (F::fs)) p x [] s e1 s1∧match e1 with
  |.ret r=>(match F with
   |.ret k _ _ _ c p1 _=>Runs M (Γ.goto c) p1 (k r) fs s1 e s'
   |.gen g k _ c p1=>Runs M (Γ.goto c) p1 (k (End.ret r).result) fs (s1.setGen g .finished) e s')
  |.susp v g0 l0 k0 c0 p0 fs0=>(match splitAtGen (F::fs) with
   |none=>e=.susp v g0 l0 k0 c0 p0 (fs0++F::fs)∧s'=s1
   |some (pre,(g,k,c,p1),rest)=>Runs M (Γ.goto c) p1 (k (.yielded v)) rest (s1.setGen g (End.susp v g0 l0 k0 c0 p0 (fs0++pre)).genState) e s')
 |.pure (.done f),[]=>e=.ret (.ok f)∧s'=s
 |.raise x,[]=>e=.ret (.error x)∧s'=s
 |.pure (.again c),[]=>Runs M (Γ.goto c) p (M.den c) [] s e s'
 |.rule _ k,[]=>Runs M Γ p (k Unit.unit) [] s e s'
 |.at q k,[]=>Runs M Γ q (k Unit.unit) [] s e s'
 |.load a _ k,[]=>∃o,s.heap.get? a=some o∧Runs M Γ p (k o) [] s e s'
 |.update a _ f k,[]=>Runs M Γ p (k Unit.unit) [] { s with heap:=s.heap.update a f } e s'
 |.loadIfAlive a k,[]=>Runs M Γ p (k (s.heap.get? a)) [] s e s'
 |.point _ k,[]=>Runs M Γ p (k Unit.unit) [] s e s'
 |.alloc o k,[]=>Runs M Γ p (k s.heap.objs.size) [] { s with heap:=s.heap.push o } e s'
 |.fresh k,[]=>Runs M Γ p (k s.toks) [] { s with toks:=s.toks+1 } e s'
 |.ask k,[]=>Runs M Γ p (k ⟨M.prog,M.w.params⟩) [] s e s'
 |.choose src n k,[]=>Runs M Γ p (k (M.w.draws src (s.drawn.get src)%n)) [] { s with drawn:=s.drawn.bump src } e s'
 |.os q _ k,[]=>Runs M Γ p (k (Os.step s.os q).2) [] { s with os:=(Os.step s.os q).1 } e s'
 |.handled own k,[]=>Runs M Γ p (k (if own then Γ.own else Γ.handled)) [] s e s'
 |.genState g k,[]=>∃st,s.gens[g]? = some st∧Runs M Γ p (k st.seen) [] s e s'
 |.stack k,[]=>Runs M Γ p (k ((Γ.code,p)::Γ.below)) [] s e s'
 |.thread k,[]=>Runs M Γ p (k 0) [] s e s'
 |.newGen c k,[]=>Runs M Γ p (k s.gens.size) [] { s with gens:=s.gens.push (.fresh c) } e s'
 |.call c h g l k,[]=>∃e1 s1,Runs M (Γ.enter c h p) p (M.den c) [] s e1 s1∧match e1 with
  |.ret r=>Runs M Γ p (k r) [] s1 e s'
  |.susp v g0 l0 k0 c0 p0 fs=>e=.susp v g0 l0 k0 c0 p0 (fs++[.ret k h g l Γ.code p []])∧s'=s1
 |.yield v g l k,[]=>e=.susp v g l k Γ.code p []∧s'=s
 |.resume g r _ k,[]=>(match s.gens[g]? with
  |none=>False
  |some (.fresh c)=>(match r with
   |.throw x=>Runs M Γ p (k (.raised x)) [] (s.setGen g .finished) e s'
   |.send v=>(v=.none∧∃e1 s1,Runs M (Γ.wake c p) p (M.den c) [] (s.setGen g .running) e1 s1∧Runs M Γ p (k e1.result) [] (s1.setGen g e1.genState) e s')∨(v≠.none∧Runs M Γ p (k .justStarted) [] s e s'))
  |some (.suspended k0 _ c0 p0 fs _)=>∃e1 s1,Runs M (Γ.wake c0 p) p0 (k0 r) fs (s.setGen g .running) e1 s1∧Runs M Γ p (k e1.result) [] (s1.setGen g e1.genState) e s'
  |some .running=>Runs M Γ p (k .running) [] s e s'
  |some .finished=>Runs M Γ p (k .finished) [] s e s')
 |_,[]=>False
theorem ri {M:Model}{Γ:Ctx}{p:Pos}{x:Sem Fin}{fs:List Frame}{s:Shared}{e:End}{s':Shared}(h:Runs M Γ p x fs s e s'):RI M Γ p s e s' x fs:=by
 cases h with
 |load g h=>exact⟨_,g,h⟩
 |genState g h=>exact⟨_,g,h⟩
 |call a b=>exact⟨_,_,a,b⟩
 |callSusp a=>exact⟨_,_,a,rfl,rfl⟩
 |resumeFresh g a _ b=>simp only[RI,g];exact .inl ⟨trivial,_,_,a,b⟩
 |resumeSuspended g a _ b=>simp only[RI,g];exact⟨_,_,a,b⟩
 |resumeJustStarted g n a=>simp only[RI,g];exact .inr ⟨n,a⟩
 |segRet a b=>exact⟨_,_,a,b⟩
 |segGen a b=>exact⟨_,_,a,b⟩
 |segSuspOut n a=>exact⟨_,_,a,by rw[n];exact⟨rfl,rfl⟩⟩
 |segSuspGen n a _ b=>exact⟨_,_,a,by rw[n];exact b⟩
 |_=>first|assumption|(simp only[*,RI];done)|exact⟨rfl,rfl⟩
theorem E4 {M:Model}{Γ:Ctx}{p:Pos}{x:Sem Fin}{fs:List Frame}{s:Shared}{e:End}{s':Shared}(h1:Runs M Γ p x fs s e s'):∀{e2:End}{s2:Shared},Runs M Γ p x fs s e2 s2→e=e2∧s'=s2:=by
 induction h1 with
 |done=>intro _ _ h2;obtain⟨a,b⟩:=ri h2;exact⟨a.symm,b.symm⟩
 |raise=>intro _ _ h2;obtain⟨a,b⟩:=ri h2;exact⟨a.symm,b.symm⟩
 |yield=>intro _ _ h2;obtain⟨a,b⟩:=ri h2;exact⟨a.symm,b.symm⟩
 |load g _ ih=>intro _ _ h2;obtain⟨o,a,b⟩:=ri h2;rw[g] at a;cases a;exact ih b
 |genState g _ ih=>intro _ _ h2;obtain⟨o,a,b⟩:=ri h2;rw[g] at a;cases a;exact ih b
 |call _ _ iha ihb=>intro _ _ h2;obtain⟨e1,s1,a,b⟩:=ri h2;obtain⟨rfl,rfl⟩:=iha a;exact ihb b
 |callSusp _ iha=>intro _ _ h2;obtain⟨e1,s1,a,b⟩:=ri h2;obtain⟨rfl,rfl⟩:=iha a;exact⟨b.1.symm,b.2.symm⟩
 |resumeFresh g _ _ _ iha ihb =>
  intro _ _ h2
  have h:=ri h2
  simp only[RI,g] at h
  rcases h with⟨_,e1,s1,a,b⟩|⟨n,_⟩
  ·obtain⟨rfl,rfl⟩:=iha a;exact ihb b
  ·exact absurd rfl n
 |resumeSuspended g _ _ _ iha ihb =>
  intro _ _ h2
  have h:=ri h2
  simp only[RI,g] at h
  obtain⟨e1,s1,a,b⟩:=h
  obtain⟨rfl,rfl⟩:=iha a;exact ihb b
 |resumeJustStarted g n _ ih =>
  intro _ _ h2
  have h:=ri h2
  simp only[RI,g] at h
  rcases h with⟨z,_⟩|⟨_,b⟩
  ·exact absurd z n
  ·exact ih b
 |resumeThrowFresh g _ ih=>intro _ _ h;have h:=ri h;simp only[RI,g] at h;exact ih h
 |resumeRunning g _ ih=>intro _ _ h;have h:=ri h;simp only[RI,g] at h;exact ih h
 |resumeFinished g _ ih=>intro _ _ h;have h:=ri h;simp only[RI,g] at h;exact ih h
 |segRet _ _ iha ihb=>intro _ _ h2;obtain⟨e1,s1,a,b⟩:=ri h2;obtain⟨rfl,rfl⟩:=iha a;exact ihb b
 |segGen _ _ iha ihb=>intro _ _ h2;obtain⟨e1,s1,a,b⟩:=ri h2;obtain⟨rfl,rfl⟩:=iha a;exact ihb b
 |segSuspOut n _ iha=>intro _ _ h2;obtain⟨e1,s1,a,b⟩:=ri h2;obtain⟨rfl,rfl⟩:=iha a;simp only[n] at b;exact⟨b.1.symm,b.2.symm⟩
 |segSuspGen n _ _ _ iha ihb=>intro _ _ h2;obtain⟨e1,s1,a,b⟩:=ri h2;obtain⟨rfl,rfl⟩:=iha a;simp only[n] at b;exact ihb b
 |_=>rename_i ih;exact fun h=>ih (ri h)
end L3
namespace L3
open PySem
theorem HL {M:Model}{Γ:Ctx}{R1 R2:Result→Shared→Prop}{p:Pos}{s:Shared}(h1:wpCode M Γ R1 p s) (h2:wpCode M Γ R2 p s):wpCode M Γ (fun r s=>R1 r s∧R2 r s) p s:=by
 obtain⟨r,s',a,q⟩:=h1
 obtain⟨r2,s2,b,q2⟩:=h2
 obtain⟨e,rfl⟩:=E4 a b
 cases e
 exact⟨r,s',a,q,q2⟩
theorem Gg {M:Model}{Γ:Ctx}{R1 R2:Result→Shared→Prop}{p:Pos}{s:Shared}(h1:wpCode M Γ R1 p s) (h:∀r s,R1 r s→R2 r s):wpCode M Γ R2 p s:=by
 obtain⟨r,s',a,q⟩:=h1
 exact⟨r,s',a,h _ _ q⟩
theorem Je {M:Model}{Γ:Ctx}{p:Pos}{g:Nat}{r:Resume}{s:Shared}{a b:GenResult}{s1 s2:Shared}(h1:Wakes M Γ p g r s a s1) (h2:Wakes M Γ p g r s b s2):a=b∧s1=s2:=by
 unfold Wakes at h1 h2
 split at h1
 ·exact h1.elim
 ·rename_i e
  rw[e] at h2
  split at h1
  ·obtain⟨e1,t1,x1,_,rfl,rfl⟩:=h1
   obtain⟨e2,t2,x2,_,rfl,rfl⟩:=h2
   obtain⟨rfl,rfl⟩:=E4 x1 x2
   exact⟨rfl,rfl⟩
  ·rename_i v nv
   have h2:b=GenResult.justStarted∧s2=s:=by
    revert h2
    cases v<;>first|exact fun h=>h|exact absurd rfl nv
   exact⟨h1.1.trans h2.1.symm,h1.2.trans h2.2.symm⟩
  ·exact⟨h1.1.trans h2.1.symm,h1.2.trans h2.2.symm⟩
 ·rename_i e
  rw[e] at h2
  obtain⟨e1,t1,x1,_,rfl,rfl⟩:=h1
  obtain⟨e2,t2,x2,_,rfl,rfl⟩:=h2
  obtain⟨rfl,rfl⟩:=E4 x1 x2
  exact⟨rfl,rfl⟩
 ·rename_i e
  rw[e] at h2
  exact⟨h1.1.trans h2.1.symm,h1.2.trans h2.2.symm⟩
 ·rename_i e
  rw[e] at h2
  exact⟨h1.1.trans h2.1.symm,h1.2.trans h2.2.symm⟩
theorem Nm {α:Type}{M:Model}{Γ:Ctx}(x:Sem α):∀{P1 P2:α→Pos→Shared→Prop}{E1 E2:Value→Pos→Shared→Prop}{p:Pos}{s:Shared},Sem.wp M Γ x P1 E1 p s→Sem.wp M Γ x P2 E2 p s→Sem.wp M Γ x (fun a p s=>P1 a p s∧P2 a p s) (fun e p s=>E1 e p s∧E2 e p s) p s:=by
 induction x with
 |pure a=>intro P1 P2 E1 E2 p s h1 h2;exact⟨h1,h2⟩
 |raise a=>intro P1 P2 E1 E2 p s h1 h2;exact⟨h1,h2⟩
 |unsupported w=>intro P1 P2 E1 E2 p s h1 h2;exact h1
 |finish w=>intro P1 P2 E1 E2 p s h1 h2;exact h1
 |rule t k ih=>intro P1 P2 E1 E2 p s h1 h2;exact ih Unit.unit h1 h2
 |«at» q k ih=>intro P1 P2 E1 E2 p s h1 h2;exact ih Unit.unit h1 h2
 |load a part k ih =>
  intro P1 P2 E1 E2 p s h1 h2
  obtain⟨o,e,h1⟩:=h1
  obtain⟨o2,e2,h2⟩:=h2
  rw[e] at e2;cases e2
  exact⟨o,e,ih o h1 h2⟩
 |update a part f k ih=>intro P1 P2 E1 E2 p s h1 h2;exact⟨h1.1,ih Unit.unit h1.2 h2.2⟩
 |alloc o k ih=>intro P1 P2 E1 E2 p s h1 h2;exact ih _ h1 h2
 |loadIfAlive a k ih=>intro P1 P2 E1 E2 p s h1 h2;exact ih _ h1 h2
 |point l k ih=>intro P1 P2 E1 E2 p s h1 h2;exact ih Unit.unit h1 h2
 |register a k ih=>intro P1 P2 E1 E2 p s h1 h2;exact h1
 |fresh k ih=>intro P1 P2 E1 E2 p s h1 h2;exact ih _ h1 h2
 |ask k ih=>intro P1 P2 E1 E2 p s h1 h2;exact ih _ h1 h2
 |choose src n k ih=>intro P1 P2 E1 E2 p s h1 h2;exact⟨h1.1,ih _ h1.2 h2.2⟩
 |os q l k ih=>intro P1 P2 E1 E2 p s h1 h2;exact ih _ h1 h2
 |call c h g l k ih =>
  intro P1 P2 E1 E2 p s h1 h2
  exact Gg (HL h1 h2) fun r s z=>ih r z.1 z.2
 |handled o k ih=>intro P1 P2 E1 E2 p s h1 h2;exact ih _ h1 h2
 |newGen c k ih=>intro P1 P2 E1 E2 p s h1 h2;exact ih _ h1 h2
 |genState g k ih =>
  intro P1 P2 E1 E2 p s h1 h2
  obtain⟨o,e,h1⟩:=h1
  obtain⟨o2,e2,h2⟩:=h2
  rw[e] at e2;cases e2
  exact⟨o,e,ih _ h1 h2⟩
 |resume g r l k ih =>
  intro P1 P2 E1 E2 p s h1 h2
  obtain⟨o,s',e,h1⟩:=h1
  obtain⟨o2,s2,e2,h2⟩:=h2
  obtain⟨rfl,rfl⟩:=Je e e2
  exact⟨o,s',e,ih _ h1 h2⟩
 |yield v g l k ih=>intro P1 P2 E1 E2 p s h1 h2;exact h1
 |stack k ih=>intro P1 P2 E1 E2 p s h1 h2;exact ih _ h1 h2
 |fork c k ih=>intro P1 P2 E1 E2 p s h1 h2;exact h1
 |thread k ih=>intro P1 P2 E1 E2 p s h1 h2;exact ih _ h1 h2
 |await a t b l k ih=>intro P1 P2 E1 E2 p s h1 h2;exact h1
theorem Ci {α:Type}{M:Model}{A:Around}{x:Sem α}{P1 P2:α→Shared→Prop}{E1 E2:Value→Shared→Prop}{s:Shared}(h1:wpAny M A x P1 E1 s) (h2:wpAny M A x P2 E2 s):wpAny M A x (fun a s=>P1 a s∧P2 a s) (fun e s=>E1 e s∧E2 e s) s:=fun Γ p hΓ=>Nm x (h1 Γ p hΓ) (h2 Γ p hΓ)
end L3
namespace L3
open PySem PySem.Spec PyProof.Rows L2
section
variable {M:Model}{A:Around}{E:Value→Shared→Prop}{s:Shared}{ea:Addr}{h:Heap}
def Cx0 (h:Heap)(ea:Addr):Prop:=∃oe vs,h.get? ea=some oe∧oe.data=.fields vs∧vs[2]? = some .none
def Cx1 (h:Heap)(ea:Addr):Prop:=∃oe vs T oT ts,h.get? ea=some oe∧oe.data=.fields vs∧vs[2]? = some .none∧vs[1]? = some (.ref T)∧T≠ea∧h.get? T=some oT∧oT.data=.fields ts∧3<ts.size
theorem Cx1.cx0 (c:Cx1 h ea):Cx0 h ea:=by
 obtain⟨oe,vs,T,oT,ts,e,d,v2,_⟩:=c
 exact⟨oe,vs,e,d,v2⟩
theorem A9 {o:Obj}{vs:Array Value}{f:Array Value→Array Value}(e:o.data=.fields vs):(Obj.mapFields f o).data=.fields (f vs):=by
 obtain⟨c,d,dt,sl⟩:=o
 have e:dt=.fields vs:=e
 subst e
 rfl
theorem A5 {o:Obj}{vs:Array Value}(e:o.data=.fields vs):o.isFreed=false:=by
 obtain⟨c,d,dt,sl⟩:=o
 have e:dt=.fields vs:=e
 subst e
 rfl
theorem Cx0.set {a:Addr}{i:Nat}{x:Value}(c:Cx0 h ea) (hi:a=ea→i≠2):Cx0 (h.update a (Obj.mapFields fun y=>y.setIfInBounds i x)) ea:=by
 obtain⟨oe,vs,e,d,v⟩:=c
 by_cases z:ea=a
 ·subst z
  refine⟨_,vs.setIfInBounds i x,qAK _ e (A5 (A9 d)),A9 d,?_⟩
  rw[Array.getElem?_setIfInBounds]
  rw[if_neg (fun z=>hi rfl z)]
  exact v
 ·exact⟨oe,vs,by rw[qAU _ _ _ _ z];exact e,d,v⟩
theorem Cx0.slots {S:List Addr}{h':Heap}(c:Cx0 h ea) (k:Heap.SlotsOnly S h h'):Cx0 h' ea:=by
 obtain⟨oe,vs,e,d,v⟩:=c
 obtain⟨sl,e'⟩:=k.2.2 ea oe e
 exact⟨_,vs,e',d,v⟩
theorem LJ {o oe:Obj}{vs ts:Array Value}(e:h.get? ea=some oe) (d:oe.data=.fields vs) (v:vs[2]? = some .none) (sz:1<vs.size) (dT:o.data=.fields ts) (st:3<ts.size):Cx1 ((h.push o).update ea (Obj.mapFields fun y=>y.setIfInBounds 1 (.ref h.objs.size))) ea:=by
 have ne:h.objs.size≠ea:=qBM (qAh e)
 refine⟨_,vs.setIfInBounds 1 (.ref h.objs.size),h.objs.size,o,ts,qAK _ (qAm _ e) (A5 (A9 d)),A9 d,?_,?_,ne,?_,dT,st⟩
 ·rw[Array.getElem?_setIfInBounds,if_neg ∅];exact v
 ·rw[Array.getElem?_setIfInBounds,if_pos rfl,if_pos sz]
 ·rw[qAU _ _ _ _ ne]
  exact qAH _ (A5 dT)
theorem NW {base:Heap}{env:Env}{outer:List Env}{L:Addr}{head:Value}{b:Bool}(hfr:A.frames=some (env::outer)) (hF:s.heap.FunFrames base (env::outer)) (hf:env.frame=some L) (c:Cx0 s.heap ea) :
 wpAny M A (do
  let a ←frameOf env
  let pl ←entryPlaceOf L b
  let t ←EntryCells.newEntry head a Value.none (rawInt L) Value.none pl
  setField (Value.ref ea) 1 t) (fun _ s'=>Cx1 s'.heap ea) E s:=by
 refine wpAny_bind (wpAny_frameOf_fun hfr hF hf fun h' k=>?_)
 have c1:=c.slots k
 refine wpAny_bind (wpAny_entryPlaceOf fun pl hp=>?_)
 unfold EntryCells.newEntry newFields
 refine wpAny_bind (wpAny_newObj_type ?_ ?_)
 ·obtain⟨oe,vs,e,d,v⟩:=c1
  have sz:1<vs.size:=by
   have:=(Array.getElem?_eq_some_iff.mp v).1
   omega
  refine wpAny_setField (qAm _ e) d sz (LJ e d v sz rfl ?_)
  rw[qAt,qAd]
  show 3<5+_
  omega
 ·show(List.toArray _).size≤_
  rw[qAt,qAd]
  rcases hp with rfl|⟨a,b,c,d,c9,b10,_,rfl⟩
  ·show 5+6≤_;decide
  ·show 5+6≤_;decide
theorem HF {base:Heap}{l:List Env}{a:Addr}{i:Nat}{x:Value}{o:Obj}{vs:Array Value}(hF:h.FunFrames base l) (e:h.get? a=some o) (d:o.data=.fields vs):(h.update a (Obj.mapFields fun y=>y.setIfInBounds i x)).FunFrames base l:=by
 refine hF.of_keeps fun b ob eb nf=>?_
 have:b≠a:=fun z=>by
  subst z
  rw[e] at eb
  cases eb
  exact nf vs d
 exact⟨ob,by rw[qAU _ _ _ _ this];exact eb,rfl⟩
theorem HI {base:Heap}{env:Env}{outer:List Env}{L:Addr}{oe:Obj}{vs:Array Value}(hfr:A.frames=some (env::outer)) (hF:s.heap.FunFrames base (env::outer)) (hf:env.frame=some L) (e:s.heap.get? ea=some oe) (d:oe.data=.fields vs) (v1:vs[1]? = some .none) (c:Cx0 s.heap ea) :
 wpAny M A (noteFrame (Value.ref ea) env) (fun _ s'=>Cx1 s'.heap ea) E s:=by
 unfold noteFrame
 rw[hf]
 refine wpAny_bind (wpAny_field e d v1 ?_)
 exact NW hfr hF hf c
theorem Fz {base:Heap}{env:Env}{outer:List Env}{L:Addr}{cls a0:Value}(hfr:A.frames=some (env::outer)) (hF:s.heap.FunFrames base (env::outer)) (hf:env.frame=some L) (tr:s.heap.TracedW base ea cls a0) (c:Cx0 s.heap ea) :
 wpAny M A (noteFrame (Value.ref ea) env) (fun _ s'=>Cx1 s'.heap ea) E s:=by
 obtain⟨oe,vs,T,oT,ts,e,_,d,v1,_,ne,eT,dT,t3⟩:=tr
 unfold noteFrame
 rw[hf]
 refine wpAny_bind (wpAny_field e d v1 ?_)
 have nn:(Value.ref T != Value.none)=true:=rfl
 rw[if_pos nn]
 refine wpAny_bind (wpAny_field eT dT t3 ?_)
 have n3:¬(Value.none==rawInt (L:Int))=true:=by intro z;cases z
 rw[if_neg n3]
 have sz:3<ts.size:=(Array.getElem?_eq_some_iff.mp t3).1
 refine wpAny_bind (wpAny_setField eT dT sz ?_)
 exact NW (s:={ s with heap:=_ }) hfr (HF hF eT dT) hf (c.set fun z=>absurd z ne)
theorem B3 (c:Cx1 s.heap ea):wpAny M A (setFlight (Value.ref ea) none) (fun _ s'=>Cx1 s'.heap ea) E s:=by
 obtain⟨oe,vs,T,oT,ts,e,d,v2,v1,ne,eT,dT,sz⟩:=c
 unfold setFlight
 refine wpAny_bind (wpAny_field e d v1 ?_)
 have nn:(Value.ref T != Value.none)=true:=rfl
 rw[if_pos nn]
 exact wpAny_setField eT dT sz ⟨oe,vs,T,_,_,by rw[qAU _ _ _ _ (Ne.symm ne)];exact e,d,v2,v1,ne,qAK _ eT (A5 (A9 dT)),A9 dT,by rw[Array.size_setIfInBounds];exact sz⟩
theorem HJ {base:Heap}{env:Env}{outer:List Env}{L:Addr}{oe:Obj}{vs:Array Value}(hfr:A.frames=some (env::outer)) (hF:s.heap.FunFrames base (env::outer)) (hf:env.frame=some L) (e:s.heap.get? ea=some oe) (d:oe.data=.fields vs) (v1:vs[1]? = some .none) (v2:vs[2]? = some .none) :
 wpAny M A (leaving env (Value.ref ea)) (fun _ s'=>Cx1 s'.heap ea) E s:=by
 unfold leaving
 exact wpAny_bind (wpAny_mono (HI hfr hF hf e d v1 ⟨oe,vs,e,d,v2⟩) (fun _ _ c=>B3 c) fun _ _ z=>z)
end
end L3
namespace L3
open PySem PySem.Spec PyProof.Rows L2
section
variable {M:Model}{A:Around}{E:Value→Shared→Prop}{s:Shared}{ea hh C:Addr}{h:Heap}{K:PySem.W.Frag}
theorem DF {e:Addr}{o:Obj}{vs:Array Value}(he:h.get? e=some o) (d:o.data=.fields vs):PySem.W.Looks M h (isType (.ref e)) false:=by
 intro A' Q' E' s' k q
 unfold isType loadHead
 refine wpAny_bind (wpAny_loadPart (k _ _ he) (wpAny_pure ?_))
 rw[d]
 exact q
theorem Kz {prog:Program}{w:World}{Q:Value→Shared→Prop}{e:Addr}(c:Cx0 s.heap hh) (q:Q .none s):wpAny (model prog w) A (runValue (.builtin "proto.unchain" { pos:=[.ref e,.ref hh,.ref hh,.bool false] })) Q E s:=by
 obtain⟨oe,vs,e1,d,v⟩:=c
 refine wpAny_runValue (codeAny_builtin (b:=Builtin.«proto.unchain») rfl ?_)
 unfold Builtin.«proto.unchain»
 refine wpAny_bind (wpAny_field e1 d v ?_)
 exact wpAny_pure q
end
end L3
namespace L3
open PySem PySem.Spec PyProof.Rows L2
def F8 (P:Program)(w:World):CXT:=fun outer H s E e s'=>∃(ea C:Addr)(a0:Value)(B:Heap)(H':Hp),e=.ref ea∧s'.os=s.os∧AllBare s'.gens∧Fly P w outer H H' s.heap s'.heap ea C a0 B∧Cx1 s'.heap ea∧E (.ref C) none H'
section
variable {X:Cx}{pins:List (Addr×Obj)}{σ:St}{H H':Hp}{s s':Shared}{ea C:Addr}{a0:Value}{B:Heap}{h1:Heap}{vs:List Value}
theorem JV (I:Inv X pins σ H s)(hst:X.stack=X.env::X.outer)(hf:X.env.frame=some X.env.locals)(hex:X.ex=[])(hx:Heap.MadeExcOf s.heap h1 ea (.ref C) vs){Q:Unit→Shared→Prop}{E:Value→Shared→Prop}
 (hQ:∀(h':Heap)(t:Addr)(B:Heap),Fly X.prog X.w X.outer X.H₀ H X.s₀.heap h' ea C (.ref t) B→Cx1 h' ea→Q Unit.unit { s with heap:=h' }) :
 wpAny (model X.prog X.w) X.A (leaving X.env (.ref ea)) Q E { s with heap:=h1 }:=by
 have hfr:X.A.frames=some (X.env::X.outer):=by rw[←hst];exact I.ok.frames
 have hstk:=I.stack
 rw[hst] at hstk
 have hF:=hstk.of_keeps (h':=h1) fun b o eb nf=>⟨o,hx.keeps b o eb,rfl⟩
 obtain⟨t,et,_⟩:=hx.there
 have k:=HJ (M:=model X.prog X.w) (A:=X.A) (s:={ s with heap:=h1 }) (E:=fun _ _=>False) hfr hF hf et rfl rfl rfl
 have f:=H0 (E:=E) I hst hf hex hx (Q:=fun _ s'=>∃(h':Heap)(t:Addr)(B:Heap),s'={ s with heap:=h' }∧Fly X.prog X.w X.outer X.H₀ H X.s₀.heap h' ea C (.ref t) B) fun h' t B fl=>⟨h',t,B,rfl,fl⟩
 exact wpAny_mono (Ci f k) (fun _ s' ⟨⟨h',t,B,e,fl⟩,c⟩=>by subst e;exact hQ h' t B fl c) (fun e s z=>z.2.elim)
end
def Xr (X:Cx)(U:Str→Prop):Prop:=∀(pins:List (Addr×Obj))(σ:St)(H:Hp)(s:Shared)(h1:Heap)(ea C:Addr)(x:Str)(vs:List Value),Inv X pins σ H s→AH X.H₀ H→X.mg x=some (.ref C)→U x→Heap.MadeExcOf s.heap h1 ea (.ref C) vs→X.xe (.ref ea) { s with heap:=h1 }
theorem N8 {P:Program}{w:World}{K:PySem.W.Frag}{mg:Str→Option Value}{base:Heap}{N:List Str}{qual:Str}{scope:Scope}{f:Addr}{cd:Value}{A:Around}{outer:List Env}{s:Shared}{H:Hp}{E:XK}{U:Str→Prop}
 (hE:∀x C H',AH H H'→mg x=some (.ref C)→U x→E (.ref C) none H'):Xr (EK (F8 P w) P w K mg base N qual scope f cd A outer s H E) U :=
 fun pins σ H1 s1 h1 ea C x vs I hs hm hu hx=>JV I rfl rfl rfl hx fun h' t B fl c=>⟨ea,C,.ref t,B,H1,rfl,I.os,I.bare,fl,c,hE x C H1 hs hm hu⟩
section
variable {X:Cx}{U:Str→Prop}{e:Expr}{es:List Expr}{te:TE3}{tr:TA3}{pos:Pos}
theorem J6 {x:Str}{C:Addr}{np cpos:Pos}(xo:Xr X U) (hc:X.calm=true) (he:PE3 X e te) (hg:Gl X x) (ec:ExC X.K x C) (hm:X.mg x=some (.ref C))
 (hs:starEach [e] X.env=(false,eval e X.env)::starEach [] X.env:=by exact AV rfl) (hplain:(backTo cpos (starEach [e] X.env)).any (·.1)=false:=by exact AR rfl) (hd:(x==("__debug__":Str))=false:=by decide) (hl:X.lent=none:=by rfl) :
 PS3 X (.Raise (some (.Call (.Name x np) [e] [] cpos)) none pos) (Iz U x te):=by
 refine⟨?_⟩
 intro pins s σ H D2 I h
 obtain⟨B,z,τ,D3,r,ht,c⟩:=h
 obtain⟨loose,mb,T⟩:=E6 I.mod X.prog
 obtain⟨tl,N,nm,q,bs,hdct,sn,sub,ab,col,dd,k0,k1,k2,k3,k5,mN,hC,hN,hni,TL⟩:=(qB2 I.mod.kin T ec.ns ec.ex).obj
 refine wpAny_Raise_call_subT (C:=C) (nm:=nm) (q:=q) (N:=N) (bs:=bs) (bm:=tl) (hdct:=hdct) (sn:=sn) (sub:=sub) (ab:=ab) (col:=col) (dd:=dd) (k0:=k0) (k1:=k1) (k2:=k2) (k3:=k3) (k5:=k5)
  qBr (mN:=mN) (TL.hasType PySem.F.excBase_ValueError.hasBase) (I.ok.hd hc) hplain hni (Cv I hg hm ⟨rfl,?_⟩ hd)
 have pa:=(AM he.out BI hs) cpos pins s σ H (fun vs H1=>vs.length=1∧AH X.H₀ H1∧U x) I ⟨B,_,τ,_,r,ht,fun s' v H' e' i' f' h'=>⟨rfl,(r.all hl).trans e'.hh,h'⟩⟩
 rw[hs] at pa ⊢
 refine Calls.evalArgs_plain (thn pa fun us s2 ⟨vs,H2,I2,rv,hl,hsame,hu⟩=>⟨rfl,?_,I2.bk _ _ hC,hN.keeps I2.bk,TL.keeps I2.bk,fun h' ea hx=>?_⟩)
 ·have:=rv.length
  show us.length≤sizeLine
  have z:us.length=1:=()
  rw[z]
  decide
 ·exact xo pins σ H2 s2 h' ea C x us I2 hsame hm hu hx
end
section
variable {P:Program}{w:World}{K:PySem.W.Frag}{mg:Str→Option Value}{base:Heap}
end
def CxO (o:Obj):Prop:=∃vs,o.data=.fields vs∧vs[2]? = some .none
end L3
namespace L3
open PySem PySem.Spec PyProof.Rows L2
section
variable {X:Cx}{pins:List (Addr×Obj)}{σ:St}{H H':Hp}{s s':Shared}{ea C:Addr}{a0:Value}{B:Heap}{h2:Heap}{oe:Obj}{vs:Array Value}
theorem LQ {h base:Heap}{env:Env}{outer:List Env}(F:h.FunFrames base (env::outer)):h.FunFrames base outer:=by
 first|exact F.2|exact F.2.2|exact F.2.2.2|(obtain⟨_,_,_,_,_,f⟩:=F;exact f)
end
section
variable {P:Program}{w:World}{K:PySem.W.Frag}{mg:Str→Option Value}{base:Heap}
end
section
variable {X:Cx}{pins:List (Addr×Obj)}{σ:St}{H H':Hp}{s s':Shared}{ea C:Addr}{a0:Value}{B:Heap}{A₀:Around}{h:Addr}{oh:Obj}
end
section
variable {X:Cx}{U:Str→Prop}{e:Expr}{es:List Expr}{te:TE3}{tr:TA3}{pos:Pos}{A₀:Around}{h:Addr}{oh:Obj}
end
end L3
namespace L3
open PySem PySem.Spec PyProof.Rows L2
section
variable {X:Cx}{pins:List (Addr×Obj)}{σ:St}{H H':Hp}{s s':Shared}{ea C:Addr}{oe:Obj}{a0:Value}{B:Heap}
theorem L8 {h:Heap}(c:Cx1 h ea) (e:h.get? ea=some oe):CxO oe:=by
 obtain⟨o,vs,T,oT,ts,e1,d,v2,_⟩:=c
 rw[e] at e1
 cases e1
 exact⟨vs,d,v2⟩
end
section
variable {X:Cx}{ea C:Addr}{oe:Obj}{e:Expr}{es:List Expr}{tr:TA3}{th:TS3}
end
end L3
namespace L3
open PySem PySem.Spec PyProof.Rows L2
section
variable {P:Program}{w:World}{K:PySem.W.Frag}{mg:Str→Option Value}{base h:Heap}
theorem mk2 (X:K.In h)(G:h.Ns mainGlobals mg){n:Str}{st:Stmt}(r:Rw K n st){k:Nat}{ps:List Str}{sp:Sp3}(ok:∀{f:Addr}{fd:FuncData},Fun K n n st f fd→AS P w K mg base (F8 P w) k f fd ps (Ak K mg sp)) (hb:Bnd st n ps):Cal P w K mg base (F8 P w) k n ps sp:=by
 obtain⟨a,l,c,k⟩:=r
 have F:=Ir (st:=st) l c k
 exact⟨⟨_,_,ok F,qAL X G a,k,F.binds hb⟩⟩
end
section
variable {X:Cx}{e:Expr}{es:List Expr}{tr:TA3}{A₀:Around}
end
end L3
namespace L3
open PySem PySem.Spec PyProof.Rows L2
section
variable {M:Model}{A:Around}{E:Value→Shared→Prop}{s:Shared}
theorem FP {base:Heap}{env:Env}{outer:List Env}{L e:Addr}{cls a0 fl:Value}{Q:Unit→Shared→Prop}(hfr:A.frames=some (env::outer)) (hf:env.frame=some L)
 (hkb:base.StaysIn s.heap) (hen:base.get? e=none) (hl:s.heap.FunFrames base (env::outer)) (ht:s.heap.TracedAtW base e cls a0 fl)
 (hQ:∀h',Heap.FlyingW base outer e cls a0 h'→s.heap.UpToSlots h'→Q Unit.unit { s with heap:=h' }):wpAny M A (leaving env (.ref e)) Q E s:=by
 unfold leaving
 have fin:∀h1,Heap.HeldW base (env::outer) e cls a0 L h1→s.heap.UpToSlots h1→wpAny M A (setFlight (.ref e) none) Q E { s with heap:=h1 }:=fun h1 hh u1=>by
  refine wpAny_landsW (s:={ s with heap:=h1 }) hh fun h' hfl u2=>?_
  obtain⟨k1,k2,k3,k4⟩:=hfl
  exact hQ h' ⟨k1,k2,LQ k3,k4⟩ (u1.trans u2)
 refine wpAny_bind ?_
 by_cases c:fl=rawInt L
 ·subst c
  exact wpAny_noteFrame_againW hf ht (fin s.heap ⟨hkb,hen,hl,ht⟩ fun b o q _=>⟨o.slots,q⟩)
 ·obtain⟨oe,vs,T,oT,ts,he,⟨hcls,h0⟩,hd,h1,hnT,hTe,hT,hdT,h3⟩:=ht
  subst hcls
  unfold noteFrame
  simp only[hf]
  refine wpAny_bind (wpAny_field he hd h1 ?_)
  rw[if_pos (show(Value.ref T != Value.none)=true from by simp)]
  refine wpAny_bind (wpAny_field hT hdT h3 ?_)
  rw[if_neg (show ¬((fl==rawInt L)=true) from by simp[c])]
  refine wpAny_bind (wpAny_setField hT hdT (Array.getElem?_eq_some_iff.mp h3).1 ?_)
  have other:∀b,b≠T→(s.heap.update T (Obj.mapFields (·.setIfInBounds 3 Value.none))).get? b=s.heap.get? b:=fun b hb=>qBh _ _ (Ne.symm hb)
  have noRecord:∀b o,s.heap.get? b=some o→(∀vs,o.data≠.fields vs)→b≠T:=fun b o hb hnf q=>by
   rw[q,hT] at hb;injection hb with hb;subst hb;exact hnf ts hdT
  refine wpAny_entryW hfr (hl.of_keeps fun b o hb hnf=>⟨o,(other b (noRecord b o hb hnf)).trans hb,rfl⟩) hf ((other e (Ne.symm hTe)).trans he)
   (fun b o hbo=>(other b fun q=>by rw[q,hnT] at hbo;cases hbo).trans (hkb b o hbo)) hen hd (Array.getElem?_eq_some_iff.mp h1).1 h0
   fun h' ⟨x1,x2,x3,x4⟩=>fin h' ⟨x1,hen,x2,x3⟩ fun b o hb hnf=>x4 b o ((other b (noRecord b o hb hnf)).trans hb) hnf
end
section
variable {X:Cx}{pins:List (Addr×Obj)}{σ:St}{H H':Hp}{s s':Shared}{ea C Cm:Addr}{a0:Value}{B:Heap}
theorem Ks (I:Inv X pins σ H s)(hst:X.stack=X.env::X.outer)(hf:X.env.frame=some X.env.locals)(hex:X.ex=[])(f:Fly X.prog X.w X.stack H H' s.heap s'.heap ea C a0 B)
 (h0:X.s₀.heap.objs.size≤Cm)(hm:H Cm=none){oC:Obj}(hC:s.heap.get? Cm=some oC) (nf:Cm∉frs X.stack){h6:Heap}{fl:Value}(hkb:(PySem.W.hideAll B [Cm]).StaysIn h6) (hl:h6.FunFrames (PySem.W.hideAll B [Cm]) X.stack) (ht:h6.TracedAtW (PySem.W.hideAll B [Cm]) ea (.ref C) a0 fl)
 (up:∀b,b∈frs X.stack→∀o,s'.heap.get? b=some o→(∀vs,o.data≠.fields vs)→∃sl,h6.get? b=some { o with slots:=sl }){Q:Unit→Shared→Prop}{E:Value→Shared→Prop}
 (hQ:∀h':Heap,Fly X.prog X.w X.outer X.H₀ H' X.s₀.heap h' ea C a0 (PySem.W.hideAll B [Cm])→Q Unit.unit { s' with heap:=h' }):wpAny (model X.prog X.w) X.A (leaving X.env (.ref ea)) Q E { s' with heap:=h6 }:=by
 have hfr:X.A.frames=some (X.env::X.outer):=by rw[←hst];exact I.ok.frames
 rw[hst] at hl
 have hB5:∀b o,(PySem.W.hideAll B [Cm]).get? b=some o→B.get? b=some o:=fun b o e=>qA5 _ e
 have B5:∀b o,B.get? b=some o→b≠Cm→(PySem.W.hideAll B [Cm]).get? b=some o:=fun b o e ne=>qBs _ e (by simpa using ne)
 have hen:(PySem.W.hideAll B [Cm]).get? ea=none:=by
  cases q:(PySem.W.hideAll B [Cm]).get? ea with
  |none=>rfl
  |some o=>have:=hB5 _ _ q;rw[f.fl.2.1] at this;cases this
 refine FP (s:={ s' with heap:=h6 }) hfr hf hkb hen hl ht fun h' fl' up'=>hQ h' ?_
 have old:∀b o,X.s₀.heap.get? b=some o→b∉frs X.outer→b∉frs X.stack:=fun b o e hb hm=>by
  rw[hst,AB hf] at hm
  rcases qAg.mp hm with rfl|hm
  ·exact absurd (qAk (qAh e) I.ok.above) (qAF _)
  ·exact hb hm
 have nex:∀b:Addr,b∉X.ex:=fun b z=>by rw[hex] at z;cases z
 have neC:∀b o,X.s₀.heap.get? b=some o→b≠Cm:=fun b o e z=>by
  have:=qAh e
  rw[z] at this
  exact absurd (qAk this h0) (qAF _)
 have up_:∀b,b∈frs X.outer→b∈frs X.stack:=fun b hb=>by rw[hst,AB hf];exact qAc _ hb
 have hmC:H' Cm=none:=f.un.free Cm oC hC hm (by simp)
 have kb:∀b o,X.s₀.heap.get? b=some o→X.H₀ b=none→b∉frs X.outer→(PySem.W.hideAll B [Cm]).get? b=some o:=fun b o e n hb =>
  B5 b o (f.kb b o (I.base.keep b o e n hb (nex b)) (I.base.free b o e n (nex b)) (old b o e hb)) (neC b o e)
 have ol:∀b o,X.s₀.heap.get? b=some o→b∉frs X.outer→∃ob,(PySem.W.hideAll B [Cm]).get? b=some ob:=fun b o e hb=>by
  obtain⟨o1,e1⟩:=I.base.there b o e (nex b)
  obtain⟨ob,eb⟩:=f.old b o1 e1 (old b o e hb)
  exact⟨ob,B5 b ob eb (neC b o e)⟩
 have tr:∀b o,H' b=some o→∃ob,(PySem.W.hideAll B [Cm]).get? b=some ob:=fun b o e=>by
  obtain⟨ob,eb⟩:=f.tr b o e
  exact⟨ob,B5 b ob eb fun z=>by rw[z,hmC] at e;cases e⟩
 have s1:(PySem.W.hideAll B [Cm]).StaysIn s'.heap:=fun b o e=>f.fl.1 b o (hB5 b o e)
 refine⟨fl',⟨fun b o e n hb _=>fl'.1 b o (kb b o e n hb),fun b o e n hb _=>?_,fun b o e n _=>?_,fun b o e _=>?_,fun b xs e=>f.un.tups b xs (I.base.tups b xs e),fun b o u e=>f.un.frzs b o u (I.base.frzs b o u e),fun b ps e=>?_⟩,Iv f.hok tr s1 fl'.1,kb,tr,ol⟩
 ·obtain⟨sl,e1⟩:=I.base.slot b o e n hb (nex b)
  obtain⟨sl1,e2⟩:=f.un.slot b _ e1 (I.base.free b o e n (nex b)) (up_ b hb) (by simp)
  obtain⟨o3,e3,d⟩:=BH f.fl.2.2.1 (up_ b hb)
  rw[e2] at e3
  cases e3
  obtain⟨sl2,e4⟩:=up b (up_ b hb) _ e2 d
  obtain⟨sl3,e5⟩:=up' b _ e4 d
  exact⟨sl3,e5⟩
 ·obtain⟨o1,e1⟩:=I.base.there b o e (nex b)
  exact f.un.free b o1 e1 (I.base.free b o e n (nex b)) (by simp)
 ·by_cases hb:b∈frs X.outer
  ·obtain⟨o3,e3,d⟩:=BH f.fl.2.2.1 (up_ b hb)
   obtain⟨sl2,e4⟩:=up b (up_ b hb) _ e3 d
   obtain⟨sl3,e5⟩:=up' b _ e4 d
   exact⟨_,e5⟩
  ·obtain⟨ob,eb⟩:=ol b o e hb
   exact⟨ob,fl'.1 b ob eb⟩
 ·obtain⟨m1,e1⟩:=I.base.tbls b ps e
  obtain⟨m2,e2⟩:=f.un.tbls b _ e1
  exact⟨m1++m2,by rw[e2,Array.append_assoc]⟩
end
theorem FR {h h' base:Heap}:∀{l:List Env},h.FunFrames base l→(∀b,b∈frs l→h'.get? b=h.get? b)→h'.FunFrames base l
 |[],_,_=>trivial
 |env::r,⟨hk,⟨L,o,hf,hn,ho,hd⟩,hr⟩,k=>by
  have e:frs (env::r)=L::frs r:=AB hf
  exact⟨hk,⟨L,o,hf,hn,(k L (by rw[e];exact qAe)).trans ho,hd⟩,FR hr fun b hb=>k b (by rw[e];exact qAc _ hb)⟩
def XlC (X:Cx)(U:Str→Prop):Prop:=∀(pins:List (Addr×Obj))(σ:St)(H H':Hp)(s s':Shared)(ea C Cm:Addr)(a0:Value)(B h6:Heap)(fl:Value)(oC:Obj)(x:Str),Inv X pins σ H s→Fly X.prog X.w X.stack H H' s.heap s'.heap ea C a0 B→s'.os=s.os→AllBare s'.gens→X.mg x=some (.ref C)→U x→AH X.H₀ H' →
 X.s₀.heap.objs.size≤Cm→H Cm=none→s.heap.get? Cm=some oC→Cm∉frs X.stack→(PySem.W.hideAll B [Cm]).StaysIn h6→h6.FunFrames (PySem.W.hideAll B [Cm]) X.stack→h6.TracedAtW (PySem.W.hideAll B [Cm]) ea (.ref C) a0 fl →
 (∀b,b∈frs X.stack→∀o,s'.heap.get? b=some o→(∀vs,o.data≠.fields vs)→∃sl,h6.get? b=some { o with slots:=sl })→X.xe (.ref ea) { s' with heap:=h6 }
theorem M8 {P:Program}{w:World}{K:PySem.W.Frag}{mg:Str→Option Value}{base:Heap}{N:List Str}{qual:Str}{scope:Scope}{f:Addr}{cd:Value}{A:Around}{outer:List Env}{s:Shared}{H:Hp}{E:XK}{U:Str→Prop}
 (hE:∀x C H',AH H H'→mg x=some (.ref C)→U x→E (.ref C) none H'):XlC (EK (CXU P w) P w K mg base N qual scope f cd A outer s H E) U :=
 fun pins σ H1 H' s1 s' ea C Cm a0 B h6 fl oC x I f ho hg hm hu hs h0 hC1 hC2 nf h1 h2 h3 up=>Ks I rfl rfl rfl f h0 hC1 hC2 nf h1 h2 h3 up fun h' fl'=>⟨ea,C,a0,_,H',rfl,ho.trans I.os,hg,fl',hE x C H' hs hm hu⟩
def BD (X:Cx)(N:List Str)(scope:Scope)(cl:List (Str×Addr))(C:Addr)(s₀:Shared)(H₀:Hp)(fp:List Addr)(U:Str→Prop):Cx :=
 { Ai X N scope cl C s₀ H₀ fp with xe:=fun e s'=>∃(pl:List (Addr×Obj))(σ':St)(H':Hp)(s:Shared),Inv (Ai X N scope cl C s₀ H₀ fp) pl σ' H' s∧CXU X.prog X.w X.stack H' s (fun cls _ H''=>∃y,X.mg y=some cls∧U y∧AH H₀ H'') e s' }
section
variable {X:Cx}{x:Str}{px:Pos}{scope:Scope}{N:List Str}{idx:List Nat}{pins pl:List (Addr×Obj)}{σ σ':St}{H2 H':Hp}{s s2 s':Shared}{fp:List Addr}{cl:List (Str×Addr)}{C:Addr}{U:Str→Prop}{e:Value}{use:Option (Value→Sem Unit)}{QQ:Value→Shared→Prop}{D:Value}
theorem Np (I:Inv (Ai X N scope cl C s2 H2 fp) pl σ' H' s):Inv (BD X N scope cl C s2 H2 fp U) pl σ' H' s :=
 ⟨⟨I.ok.mod,I.ok.kind,I.ok.glob,I.ok.blt,I.ok.above,I.ok.inj,I.ok.has,I.ok.cab,I.ok.hd,I.ok.frames,I.ok.stk,I.ok.exf,I.ok.bs,I.ok.bsz,I.ok.noex,I.ok.exfs,I.ok.funs,I.ok.frf,I.ok.tb⟩,I.os,I.bare,I.base,I.loc,I.cell,I.free,I.freeC,I.pin,I.hok,I.len⟩
theorem Lk (I:Inv (BD X N scope cl C s2 H2 fp U) pl σ' H' s):Inv (Ai X N scope cl C s2 H2 fp) pl σ' H' s :=
 ⟨⟨I.ok.mod,I.ok.kind,I.ok.glob,I.ok.blt,I.ok.above,I.ok.inj,I.ok.has,I.ok.cab,I.ok.hd,I.ok.frames,I.ok.stk,I.ok.exf,I.ok.bs,I.ok.bsz,I.ok.noex,I.ok.exfs,I.ok.funs,I.ok.frf,I.ok.tb⟩,I.os,I.bare,I.base,I.loc,I.cell,I.free,I.freeC,I.pin,I.hok,I.len⟩
theorem Ku (xc:XlC X U)(I2:Inv X pins σ H2 s2)(hs0:AH X.H₀ H2)(f2:∀b∈fp,HD X pins H2 b)(hC:s2.heap.objs.size<C)(hst:X.stack=X.env::X.outer)(hf:X.env.frame=some X.env.locals)
 (h:(BD X N scope cl C s2 H2 fp U).xe e s'):notedBy (model X.prog X.w) X.A (compEnvC scope cl C X.env) (fun e s'=>compPost (model X.prog X.w) X.A X.xe use QQ D C (.error e) s') e s':=by
 obtain⟨pl,σ',H',s,I,ea,C0,a0,B,H'',rfl,ho,hg,f,y,hy,hu,hs⟩:=h
 have IO:=Dl (h':=s.heap) I2 f2 hC I ⟨rfl,fun _ _=>rfl⟩
 have IO:Inv X pins σ H' s:=IO
 obtain⟨m,hn,_⟩:=I.loc
 have hn:s.heap.Ns C m:=hn
 have hmC:H' C=none:=I.free
 obtain⟨oC,es,ep,hoC,hnr⟩:=id hn
 have fr2:∀b,b∈frs X.stack→b<s2.heap.objs.size:=fun b hb=>by
  obtain⟨_,o,ho,_⟩:=I2.stack.mem hb
  exact qAh ho
 have nf:C∉frs X.stack:=fun z=>absurd (qAJ (fr2 C z) hC) (qAF _)
 have hBC:B.get? C=some oC:=f.kb C oC hoC hmC nf
 have hfr:X.A.frames=some (X.env::X.outer):=by rw[←hst];exact IO.ok.frames
 have fl0:=f.fl
 rw[hst] at fl0
 show wpAny (model X.prog X.w) X.A (noteFrame (.ref ea) X.env) _ _ s'
 refine wpAny_looks_onW hfr hf fl0 fun h4 held up4=>?_
 rw[←hst] at held
 have hn4:h4.Ns C m:=hn.at fun o e=>by rw[hoC] at e;cases e;exact held.1 C oC hBC
 have fin:∀h5,Heap.SameBut C h4 h5→∀cenv:Env,wpAny (model X.prog X.w) X.A (PySem.passOn "comprehension.variables-let-go" (.ref ea) cenv:Sem Value) (fun _ _=>False) X.xe { s' with heap:=h5 }:=fun h5 sb cenv=>by
  obtain⟨g1,g2,g3,oe,vs,T,oT,ts,he,hcls,hd,h1,hnT,hTe,hT,hdT,h3⟩:=held
  have neE:ea≠C:=fun z=>by rw[z,hBC] at g2;cases g2
  have neT:T≠C:=fun z=>by rw[z,hBC] at hnT;cases hnT
  have he5:h5.get? ea=some oe:=(sb.2 ea neE).trans he
  have hT5:h5.get? T=some oT:=(sb.2 T neT).trans hT
  unfold PySem.passOn
  refine wpAny_bind (wpAny_field (s:={ s' with heap:=h5 }) he5 hd h1 ?_)
  rw[if_neg (show ¬((Value.ref T==Value.none)=true) from by simp)]
  refine wpAny_bind ?_
  unfold setFlight
  refine wpAny_bind (wpAny_field (s:={ s' with heap:=h5 }) he5 hd h1 ?_)
  rw[if_pos (show(Value.ref T != Value.none)=true from by simp)]
  have hsz3:3<ts.size:=(Array.getElem?_eq_some_iff.mp h3).1
  refine wpAny_setField (s:={ s' with heap:=h5 }) hT5 hdT hsz3 (wpAny_throw ?_)
  generalize hv:(cenv.frame.elim Value.none fun f=>rawInt f)=fv
  have other:∀b,b≠T→(h5.update T (Obj.mapFields (·.setIfInBounds 3 fv))).get? b=h5.get? b:=fun b hb=>qBh _ _ (Ne.symm hb)
  have hB5:∀b o,(PySem.W.hideAll B [C]).get? b=some o→B.get? b=some o:=fun b o e=>qA5 _ e
  have nC5:∀b o,(PySem.W.hideAll B [C]).get? b=some o→b≠C:=fun b o e z=>by
   subst z
   rw[qBL _ (qAx.mpr rfl)] at e
   cases e
  have st:(PySem.W.hideAll B [C]).StaysIn B:=hB5
  have frb:∀b,b∈frs X.stack→b≠C:=fun b hb z=>nf (z ▸ hb)
  have nTf:∀b o,h4.get? b=some o→(∀vs,o.data≠.fields vs)→b≠T:=fun b o hb hnf q=>by
   rw[q,hT] at hb;injection hb with hb;subst hb;exact hnf ts hdT
  refine xc pins σ H' H'' s s' ea C0 C a0 B _ fv oC y IO f ho hg hy hu (fun b o e=>hs b o (hs0 b o e)) (qAr I2.sz (qA6 hC)) hmC hoC nf (fun b o e=>?_) ?_ ?_ fun b hb o e nfl=>?_
  ·have:b≠T:=fun z=>by have:=hB5 b o e;rw[z,hnT] at this;cases this
   exact(other b this).trans ((sb.2 b (nC5 b o e)).trans (g1 b o (hB5 b o e)))
  ·have F:=PySem.W.funFrames_base st g3
   have fm:∀b,b∈frs X.stack→(h5.update T (Obj.mapFields (·.setIfInBounds 3 fv))).get? b=h4.get? b:=fun b hb=>by
    obtain⟨o,e,d⟩:=BH g3 hb
    exact(other b (nTf b o e d)).trans (sb.2 b (frb b hb))
   exact FR F fm
  ·exact⟨oe,vs,T,_,_,(other ea (Ne.symm hTe)).trans he5,hcls,hd,h1,PySem.W.fresh_of_stays st hnT,hTe,qAK _ hT5 (Obj.isFreed_of_fields (Obj.data_mapFields hdT _)),Obj.data_mapFields hdT _,by simp[hsz3]⟩
  ·obtain⟨sl,e4⟩:=up4 b o e nfl
   exact⟨sl,(other b (nTf b _ e4 nfl)).trans ((sb.2 b (frb b hb)).trans e4)⟩
 cases use<;>exact⟨m,hn4,fun h' hs' cenv _=>fin h' hs' cenv⟩
end
def JH (X:Cx)(idx:List Nat)(wi:TI)(tt:Hp→TT)(te:Hp→TE):TE:=fun σ H Q=>wi σ H fun J H1=>AH X.H₀ H1∧∀D,H1 D=none→X.K.lookup D=none→∃W:Nat→Nat→List V→Hp→Prop,(∃m,W 0 m [] (upd H1 D (.lst []))) ∧
 ∀i m ys H,H D=some (.lst ys)→W i m ys H→(J.stop i H∧Q (.ref D) H)∨(J.go i H∧∀x H',J.yld i H x H'→tt H1 (some x::C8 σ idx) H' fun b H2 =>
  if b=true then te H1 (some x::C8 σ idx) H2 (fun v H3=>H3 D=some (.lst ys)∧ys.length<sizeLine∧∃m',m'<m∧W (i+1) m' (ys++[v]) (upd H3 D (.lst (ys++[v])))) else H2 D=some (.lst ys)∧∃m',m'<m∧W (i+1) m' ys H2)
def Pss (X:Cx)(U:Str→Prop):Prop:=∀(pins:List (Addr×Obj))(σ:St)(H:Hp)(s:Shared)(e:Value)(s':Shared),Inv X pins σ H s→CXU X.prog X.w X.stack H s (fun cls _ H'=>∃x,X.mg x=some cls∧U x∧AH X.H₀ H') e s'→X.xe e s'
theorem Pb {X:Cx}{N:List Str}{scope:Scope}{cl:List (Str×Addr)}{C:Addr}{s₀:Shared}{H₀:Hp}{fp:List Addr}{U:Str→Prop}:Pss (BD X N scope cl C s₀ H₀ fp U) U :=
 fun pins σ H s e s' I h=>⟨pins,σ,H,s,Lk I,h⟩
section
variable {X:Cx}{U:Str→Prop}{e:Expr}{es:List Expr}{tr:TA3}{pos:Pos}
theorem Ms {k:Nat}{x:Str}{ps:List Str}{sp:Sp3}{p:Pos}(xo:Pss X U) (c:Cal X.prog X.w X.K X.mg X.base (CXU X.prog X.w) k x ps sp) (hr:Dr k X.A) (hg:Gl X x) (ha:PA3 X (e::es) tr)
 (hdb:(x==("__debug__":Str))=false:=by decide) (he:starEach (e::es) X.env=(false,eval e X.env)::starEach es X.env:=by exact AV rfl) (hpl:(backTo pos (starEach es X.env)).any (·.1)=false:=by exact AR rfl) (hl:X.lent=none:=by rfl) :
 PE3 X (.Call (.Name x p) (e::es) [] pos) (F6 U sp tr):=by
 refine⟨?_⟩
 obtain⟨f,fd,F,hm,hk,hb⟩:=c.ex
 refine Ax (GB (E:=fun cls _ H'=>∃y,X.mg y=some cls∧U y∧AH X.H₀ H') F hr hg hm hk hb .nil (fun pins σ H s e s' I h=>xo pins σ H s e s' I h) ha.out hdb he hpl) fun σ H Q ⟨B,z,τ,R,r,ht,q⟩=>⟨B,_,τ,_,r,ht,fun ss vs H1 e1 i1 h1=>?_⟩
 show Ak X.K X.mg sp (vs++[]) H1.h Q _
 rw[qAZ]
 exact⟨H1.z,ss,R,U,e1.sub,i1,h1,fun s v H2 e2 i2 f2 h2=>q s v H2 (e1.trans e2) i2 (EB e1 f2) h2,fun y C H2 e2 hy hu=>⟨y,hy,hu,(r.all hl).trans (e1.hh.trans e2)⟩⟩
end
section
variable {X:Cx}{x:Str}{px:Pos}{scope:Scope}{N:List Str}{idx:List Nat}{pins:List (Addr×Obj)}{σ:St}{U:Str→Prop}
theorem Ju {elt iter:Expr}{ifs:List Expr}{wi:TI}{tt:Hp→TT}{te:Hp→TE}{pos:Pos}{s:Shared}{H:Hp}{Q:VK}{use:Option (Value→Sem Unit)}{QQ:Value→Shared→Prop}(O:Bk X x scope N idx) (hc:X.calm=true) (hi:PI X (.Name x px) iter wi)
 (hifs:∀cl C s₀ H₀ fp,Lg (Ai X N scope cl C s₀ H₀ fp) ifs (tt H₀)) (helt:∀cl C s₀ H₀ fp,PE (BD X N scope cl C s₀ H₀ fp U) elt (te H₀)) (xc:XlC X U) (hst:X.stack=X.env::X.outer) (hf:X.env.frame=some X.env.locals)
 (hs:∀x,foldedSetIterable iter X.env x=pure x) (I:Inv X pins σ H s) (h:JH X idx wi tt te σ H Q)
 (fin:∀(s2:Shared)(H2:Hp)(fp:List Addr)(cl:List (Str×Addr))(C D:Addr)(σ':St)(H':Hp)(s':Shared),Inv X pins σ H2 s2→(∀b∈fp,HD X pins H2 b)→s2.heap.objs.size<C→Inv (Ai X N scope cl C s2 H2 fp) [] σ' H' s'→Q (.ref D) H' →
  compPost (model X.prog X.w) X.A X.xe use QQ (.ref D) C (.ok .next) s') :
 wpAny (model X.prog X.w) X.A (comprehension (.ListComp elt [⟨.Name x px,iter,ifs,0⟩] scope pos) scope X.env (firstIterPos [⟨.Name x px,iter,ifs,0⟩] pos) (newList []) false (eval iter X.env) use) QQ X.xe s:=by
 obtain⟨cl,ecl,hcl,hcl2⟩:=ER (scope:=scope) (env:=X.env) fun y hy hf=>I.ok.has y.1 (.inl (O.free y hy hf))
 refine wpAny_comprehension_free (use:=use) (cl:=cl) rfl hs ecl O.kind O.names ?_
 refine thn (hi pins s σ H _ I h) fun v s1 h1=>thn h1 fun itv s2 h2=>?_
 obtain⟨it,fp,tn,J,H2,rfl,I2,T,st2,f2,hsm,hD⟩:=h2
 refine wpAny_newObj_type (wpAny_newFunctionEnv O.cell (by intro y hy;simp at hy) (fun h1 hns hsb=>?_) O.kind)
 dsimp only at hns hsb ⊢
 generalize hG:s2.heap.push { cls:=.type "list",dict:=none,data:=.seq ([]:List Value).toArray }=G at hns hsb ⊢
 have hCs:s2.heap.objs.size<G.objs.size:=by rw[←hG,Heap.size_push];exact qB4 _
 have old:∀b o,s2.heap.get? b=some o→h1.get? b=some o:=fun b o e=>hsb.extBut b o (qAu (qAJ (qAh e) hCs)) (qAm _ (hG ▸ qAm _ e))
 have hDl:h1.get? s2.heap.objs.size=some { cls:=.type "list",data:=.seq ([]:List Value).toArray }:=hsb.extBut _ _ (qAu hCs) (qAm _ (hG ▸ qAH _ rfl))
 have hDn:H2 s2.heap.objs.size=none:=I2.hok.fresh (qAj _)
 have hDk:X.K.lookup s2.heap.objs.size=none:=by
  cases e:X.K.lookup s2.heap.objs.size with
  |none=>rfl
  |some o=>exact absurd (qAh (I2.kIn _ _ e)) (qAF _)
 obtain⟨W,⟨m0,w0⟩,step⟩:=hD _ hDn hDk
 have I4:Inv (Ai X N scope cl G.objs.size s2 H2 fp) [] (none::C8 σ idx) (upd H2 s2.heap.objs.size (.lst [])) { s2 with heap:=h1,toks:=s2.toks+([]:List (Str×Value)).length } :=
  EJ O I2 T st2 f2 hcl hcl2 hCs hns old hDl
 generalize hCC:G.objs.size=C at I4 hCs ⊢
 clear hsb hns hG hCC
 generalize hDD:s2.heap.objs.size=D at hDn hDk step w0 I4 hDl ⊢
 have st4:tn 0 h1:=T.keep 0 _ _ st2 fun b _ o e=>old b o e
 have frD:∀b∈fp,(upd H2 D (.lst [])) b=none:=fun b hb=>by
  obtain⟨o,e,_⟩:=T.obj 0 _ st2 b hb
  rw[Ar (by rw[←hDD];exact qAu (qAh e))]
  exact(f2 b hb).1
 have stat:∀{H':Hp},(∀b∈fp,H' b=none)→∀b∈fp,HD (Ai X N scope cl C s2 H2 fp) [] H' b:=fun hn b hb =>
  ⟨hn b hb,(I4.ok.exf b hb).1,I4.ok.exfs b hb,.inl hb,(I4.ok.exf b hb).2,fun p hp=>by cases hp⟩
 have hloc:(Ai X N scope cl C s2 H2 fp).env.scope.names.lookup x=some .local:=lookup_relabel_local O.own
 have loop:∀s3:Shared,s3={ s2 with heap:=h1,toks:=s2.toks+([]:List (Str×Value)).length } →
  codeAny (model X.prog X.w) X.A (.compLoop (.ListComp elt [⟨.Name x px,iter,ifs,0⟩] scope pos) 0 (.ref it) (.ref D) (compEnvC scope cl C X.env)) (compPost (model X.prog X.w) X.A X.xe use QQ (.ref D) C) s3:=by
  rintro s3 rfl
  refine codeAny_compLoop_tests (fun n s'=>∃i z H' ys,Inv (Ai X N scope cl C s2 H2 fp) [] (z::C8 σ idx) H' s'∧tn i s'.heap∧(∀b∈fp,H' b=none)∧H' D=some (.lst ys)∧W i n ys H') ?_ m0 ⟨0,none,_,[],I4,st4,frD,Al,w0⟩
  rintro n s5 ⟨i,z,H5,ys,I5,st5,fr5,hD5,w5⟩
  rcases step i n ys H5 hD5 w5 with⟨stop,q⟩|⟨go,next⟩
  ·refine wpAny_mono (T.done (Ai X N scope cl C s2 H2 fp) rfl rfl rfl hc i [] s5 _ H5 (fun _ _=>False) I5 (stat fr5) st5 stop) (fun r s6 hh=>?_) fun _ _ z=>z.elim
   obtain⟨hr,I6⟩:=hh
   subst hr
   exact fin s2 H2 fp cl C D _ H5 s6 I2 f2 hCs I6 q
  ·refine wpAny_mono (T.item (Ai X N scope cl C s2 H2 fp) rfl rfl rfl hc i [] s5 _ H5 (fun _ _=>False) I5 (stat fr5) st5 go) (fun r s6 hh=>?_) fun _ _ z=>z.elim
   obtain⟨u,hr,h6⟩:=hh
   subst hr
   dsimp only
   refine(show wpAny _ _ ((pure Unit.unit:Sem Unit) >>= fun _=>assign (.Name x px) (compEnvC scope cl C X.env) u) _ _ _ from wpAny_bind (wpAny_mono (show wpAny _ _ (pure Unit.unit:Sem Unit) _ _ _ from h6) (fun _ s7 h7=>?_) fun _ _ z=>z.elim))
   obtain⟨xv,H7,I7,r7,y7,st7,fr7⟩:=h7
   have I7':=I7.pinned (stat fr7) (T.obj _ _ st7)
   refine wpAny_assign_Name (CM (X:=Ai X N scope cl C s2 H2 fp) I7' O.nd O.fst (.inl hloc) r7 (fun s8 I8=>?_) (.inr hloc))
   have again:∀{H9:Hp}{s9:Shared}{ys':List V}{m':Nat},Inv (Ai X N scope cl C s2 H2 fp) ([]++EI fp s7.heap) (some xv::C8 σ idx) H9 s9→H9 D=some (.lst ys')→m'<n→W (i+1) m' ys' H9 →
    ∃m,m<n∧∃i z H' ys,Inv (Ai X N scope cl C s2 H2 fp) [] (z::C8 σ idx) H' s9∧tn i s9.heap∧(∀b∈fp,H' b=none)∧H' D=some (.lst ys)∧W i m ys H':=fun {H9 s9 ys' m'} I9 hD9 hm w9=>by
    refine⟨m',hm,i+1,some xv,H9,ys',I9.unpinned,T.keep _ _ _ st7 fun b hb o e=>(I9.pin (b,o) (qAp _ (qAp _ (Bu hb e)))).1,fun b hb=>?_,hD9,w9⟩
    obtain⟨o,e,d⟩:=T.obj _ _ st7 b hb
    exact(I9.pin (b,o) (qAp _ (qAp _ (Bu hb e)))).2.1
   refine wpAny_mono (hifs cl C s2 H2 fp _ s8 _ H7 _ I8 (next xv H7 y7)) (fun b s9 hh=>?_) fun _ _ z=>z.elim
   obtain⟨H9,I9,q9⟩:=hh
   cases b with
   |true =>
    rw[if_pos rfl] at q9 ⊢
    refine wpAny_mono (helt cl C s2 H2 fp _ s9 _ H9 _ (Np I9) q9) (fun y s10 hh=>?_) fun e s' z=>Ku xc I2 hsm f2 hCs hst hf z
    obtain⟨v,H10,I10,r10,hD10,hl,m',hm,w'⟩:=hh
    have I10:=Lk I10
    refine wpAny_mono (Cw (X:=Ai X N scope cl C s2 H2 fp) _ s10 _ H10 (.ref D) [v] (.ref D) [y] (fun _ H'=>H'=upd H10 D (.lst (ys++[v]))) I10 rfl (.cons r10 .nil) ⟨D,ys,v,rfl,rfl,hD10,hl,rfl⟩) (fun _ s11 hh=>?_) fun _ _ z=>z.elim
    obtain⟨_,H11,I11,_,e11⟩:=hh
    subst e11
    exact again I11 Al hm w'
   |false =>
    rw[if_neg qAf] at q9 ⊢
    obtain⟨hD9,m',hm,w'⟩:=q9
    exact again I9 hD9 hm w'
 exact codeAny_compStart_list (loop _ rfl) (T.self X.A 0 _ _ _ st4 (loop _ rfl))
theorem GD {i:Nat}{y:Str}{py spos:Pos}{elt iter:Expr}{ifs:List Expr}{wi:TI}{tt:Hp→TT}{te:Hp→TE}{pos:Pos}(O:Bk X x scope N idx) (hc:X.calm=true) (hi:PI X (.Name x px) iter wi)
 (hifs:∀cl C s₀ H₀ fp,Lg (Ai X N scope cl C s₀ H₀ fp) ifs (tt H₀)) (helt:∀cl C s₀ H₀ fp,PE (BD X N scope cl C s₀ H₀ fp U) elt (te H₀)) (xc:XlC X U) (hst:X.stack=X.env::X.outer) (hf:X.env.frame=some X.env.locals) (hN:X.N.Nodup) (hy:X.N[i]? = some y) (hly:Loc X.env.scope y)
 (hsw:swapsWith (.ListComp elt [⟨.Name x px,iter,ifs,0⟩] scope pos) (some (.Name y py)) spos.line X.env=pure true:=by rfl) (hs:∀x,foldedSetIterable iter X.env x=pure x:=by intro _;rfl)
 (hfn:X.fn y=true∨X.env.scope.names.lookup y=some .local:=by first|exact .inl rfl|exact .inr rfl|assumption) :
 PS X (.Assign [.Name y py] (.ListComp elt [⟨.Name x px,iter,ifs,0⟩] scope pos) spos) (Nl i (JH X idx wi tt te)):=by
 intro pins s σ H D I h
 rw[exec_Assign_Name_used _ _ _ _ hsw]
 refine wpAny_bind (wpAny_standAt (wpAny_bind ?_))
 show wpAny _ X.A (do let _ ←comprehension (.ListComp elt [⟨.Name x px,iter,ifs,0⟩] scope pos) scope X.env _ (newList []) false (eval iter X.env) (some (assign (.Name y py) X.env))) _ _ s
 refine wpAny_bind (wpAny_mono (Ju (use:=some (assign (.Name y py) X.env)) (QQ:=fun _ s'=>SP X pins D .next s') O hc hi hifs helt xc hst hf hs I h fun s2 H2 fp cl C E σ' H' s' I2 f2 hC I' q=>?_) (fun _ s' hq=>wpAny_pure (wpAny_pure hq)) fun _ _ e=>e)
 have I3:Inv X pins σ H' s':=Dl (h':=s'.heap) I2 f2 hC I' ⟨rfl,fun _ _=>rfl⟩
 obtain⟨mC,hnC,_⟩:=I'.loc
 have h0:X.s₀.heap.objs.size≤C:=qAr I2.sz (qA6 hC)
 have hCL:C≠X.env.locals:=qBM (qAJ I2.lt hC)
 have hCc:∀y c,X.env.cells.lookup y=some c→c≠C:=fun y c e=>by
  obtain⟨v,ic⟩:=I2.cell y c e
  exact qAu (qAJ ic.lt hC)
 have hCp:∀p∈X.pn++pins,p.1≠C:=fun p hp=>qAu (qAJ (qAh (I2.pin p hp).1) hC)
 show wpAny _ X.A (assign (.Name y py) X.env (.ref E)) _ _ _
 refine wpAny_assign_Name (El (v:=.ref E) I3 hN hy hly rfl (fun s4 I4 hb=>?_) hfn)
 obtain⟨a,hsa,ha⟩:=hb
 have hCa:C≠a:=by
  rcases ha with rfl|ha
  ·exact hCL
  ·exact fun z=>hCc y a ha z.symm
 exact⟨mC,hnC.sameBut hsa hCa,fun h' hs'=>⟨_,H',Ie I4 hs' h0 I'.free hCL hCc hCp,q⟩⟩
end
section
variable {X:L2.Cx}{x:Str}{px pos:Pos}{scope:Scope}{N:List Str}{idx:List Nat}{elt iter:Expr}{ifs:List Expr}{wi:TI}{ws:TX3}{tt:TT3}{te:TE3}{U:Str→Prop}
theorem HG (hl0:X.lent=none)(hsrc:Src X wi ws){σ:St}{H:Hp}{Q:VK}(h:FE X (Lm idx ws tt te) σ H Q):JH X idx wi (fun H₀=>FT (cxC X N scope H₀) tt) (fun H₀=>FE (cxC X N scope H₀) te) σ H Q:=by
 obtain⟨B,z,τ,R,r,ht,q⟩:=h
 refine hsrc B τ σ H z _ _ r ht fun J0 p1 xs e1 hP hJ=>⟨(r.all hl0).trans e1.hh,fun D' hD hK=>?_⟩
 obtain⟨J,j0,jl,hel,hsz,hR⟩:=hP
 have sz:(100000:Nat)<sizeLine:=∅
 refine⟨fun i m ys H'=>m=xs.length-i∧i≤xs.length∧∃z',Ext p1 ⟨H',z'⟩∧z' D'=none∧∃ds,Iss X.K z' ys ds∧J i ds,⟨xs.length,rfl,qBd _,p1.z,Ext.own e1.sub hD _,e1.sub.free hD,[],Iss.nil,j0⟩,?_⟩
 rintro i m ys H' hD' ⟨rfl,hi,z',hs,hzD,ds,hiss,hj⟩
 by_cases hlt:i<xs.length
 ·obtain⟨go,yl⟩:=(hJ H' hs.hh).1 i hlt
  refine .inr ⟨go,fun v H'' hy=>?_⟩
  obtain⟨rfl,d,hx,iv⟩:=yl v H'' hy
  have rr:Rep (cxC X N scope p1.h) p1 (KN τ idx d) (some v::C8 σ idx) ⟨H'',z'⟩:=Hc r e1 hs (iv.mono hs.zz)
  have hys:ys.length≤i:=by
   rw[hiss.1]
   exact jl i ds hj
  have keep:∀q:HZ,Ext ⟨H'',z'⟩ q→q.z D'=none:=fun q e=>by
   cases y:q.z D' with
   |none=>rfl
   |some o =>
    rcases e.new D' o y with y|y
    ·exact nomatch (hzD.symm.trans y)
    ·exact nomatch (hD'.symm.trans y)
  refine⟨_,_,_,_,rr,hel i d ds hx hj,fun b q3 e3 hb=>?_⟩
  cases b with
  |true =>
   rw[if_pos rfl] at hb ⊢
   refine⟨_,_,_,_,rr.mono e3,hb,fun s v2 q4 e4 i4 f4 h4=>?_⟩
   obtain⟨y,hy',h4⟩:=Ea h4
   obtain⟨z5,e5,i5⟩:=DG e4 i4 f4
   rw[hy'] at i5
   have e35:=e3.trans e5
   have hD4:q4.h D'=some (.lst ys):=e35.hh _ _ hD'
   have hz5:z5 D'=none:=keep _ e35
   refine⟨hD4,(),xs.length-(i+1),(),rfl,hlt,z5,?_,hz5,ds++[y],?_,h4⟩
   ·have e15:=hs.trans e35
    refine⟨fun b o hb'=>?_,e15.zz,fun b o hb'=>?_,e15.new⟩
    ·have hne:b≠D':=by rintro rfl;rw[hD] at hb';cases hb'
     show upd q4.h D' _ b=some o
     rw[Ar hne]
     exact e15.hh b o hb'
    ·have hne:b≠D':=by
      rintro rfl
      have hb2:z5 b=some o:=hb'
      rw[hz5] at hb2;cases hb2
     show upd q4.h D' _ b=some o
     rw[Ar hne]
     exact e15.sub b o hb'
   ·exact(hiss.mono e35.zz).snoc i5
  |false =>
   rw[if_neg qAf] at hb ⊢
   exact⟨e3.hh _ _ hD',xs.length-(i+1),(),rfl,hlt,q3.z,hs.trans e3,keep _ e3,ds,hiss.mono e3.zz,hb⟩
 ·have ei:i=xs.length:=()
  subst ei
  refine .inl ⟨(hJ H' hs.hh).2 _ (qAj _),q (.l ds) _ ⟨H',z'⟩ (e1.trans hs) ⟨D',ys,rfl,hD',hiss⟩ (fun xs a _ h2=>?_) (hR ds hj)⟩
  ·cases h2
   exact⟨e1.hh.free hD,hK,hzD⟩
theorem MM {cl:List (Str×Addr)}{C:Addr}{s₀:Shared}{H₀:Hp}{fp:List Addr}{τ:Tau}{σ:St}{B p:HZ}(r:Rep (cxC X N scope H₀) B τ σ p):Rep (BD X N scope cl C s₀ H₀ fp U) B τ σ p:=⟨r.len,r.ext,r.val,r.own,r.sep,r.top,r.pin⟩
theorem JP (helt:∀cl C s₀ H₀ fp,PE3 (BD X N scope cl C s₀ H₀ fp U) elt te):∀cl C s₀ H₀ fp,PE (BD X N scope cl C s₀ H₀ fp U) elt (FE (cxC X N scope H₀) te):=fun cl C s₀ H₀ fp pins s σ H Q I ⟨B,z,τ,R,r,ht,q⟩ =>
 (helt cl C s₀ H₀ fp).out pins s σ H Q I ⟨B,z,τ,R,MM r,ht,q⟩
theorem Mm {i:Nat}{y:Str}{py spos:Pos}(O:Bk X x scope N idx) (hc:X.calm=true) (hi:PI X (.Name x px) iter wi) (hsrc:Src X wi ws) (hifs:∀cl C s₀ H₀ fp,Jv (Ai X N scope cl C s₀ H₀ fp) ifs tt) (helt:∀cl C s₀ H₀ fp,Pss (BD X N scope cl C s₀ H₀ fp U) U→PE3 (BD X N scope cl C s₀ H₀ fp U) elt te) (xc:XlC X U) (hst:X.stack=X.env::X.outer:=by rfl) (hf:X.env.frame=some X.env.locals:=by rfl)
 (hN:X.N.Nodup) (hy:X.N[i]? = some y) (hly:Loc X.env.scope y)
 (hsw:swapsWith (.ListComp elt [⟨.Name x px,iter,ifs,0⟩] scope pos) (some (.Name y py)) spos.line X.env=pure true:=by rfl) (hs:∀x,foldedSetIterable iter X.env x=pure x:=by intro _;rfl)
 (hfn:X.fn y=true∨X.env.scope.names.lookup y=some .local:=by first|exact .inl rfl|exact .inr rfl|assumption) (hp:DH X i:=by first|exact CU rfl|exact pin_ne rfl ∅|assumption) (hl0:X.lent=none:=by rfl) :
 PS3 X (.Assign [.Name y py] (.ListComp elt [⟨.Name x px,iter,ifs,0⟩] scope pos) spos) (OM i (Lm idx ws tt te)) :=
 ⟨BS (GD O hc hi (Gq hifs) (JP fun cl C s₀ H₀ fp=>helt cl C s₀ H₀ fp Pb) xc hst hf hN hy hly hsw hs hfn) fun D2 σ H hh=>by obtain⟨B,z,τ,D3,r,ht,c⟩:=hh;exact HG hl0 hsrc ⟨B,z,τ,_,r,ht,fun s v H' e i f h=>by
  cases s with
  |r _=>exact h.elim
  |d y=>exact c.nx _ _ _ (r.set e i f rfl hp) h
  |l ys=>exact c.nx _ _ _ (r.set e i f rfl hp) h⟩⟩
end
end L3
namespace L3
open PySem PySem.Spec PyProof.Rows L2
section
variable {X:Cx}{pins:List (Addr×Obj)}{σ:St}{H H':Hp}{s s':Shared}{ea C:Addr}{a0:Value}{B:Heap}
theorem MW (I:Inv X pins σ H s)(hst:X.stack=X.env::X.outer)(hf:X.env.frame=some X.env.locals)(hex:X.ex=[])(f:Fly X.prog X.w X.stack H H' s.heap s'.heap ea C a0 B)(cx:Cx1 s'.heap ea){Q:Unit→Shared→Prop}{E:Value→Shared→Prop}
 (hQ:∀h':Heap,Fly X.prog X.w X.outer X.H₀ H' X.s₀.heap h' ea C a0 B→Cx1 h' ea→Q Unit.unit { s' with heap:=h' }):wpAny (model X.prog X.w) X.A (leaving X.env (.ref ea)) Q E s':=by
 have hfr:X.A.frames=some (X.env::X.outer):=by rw[←hst];exact I.ok.frames
 have fl0:=f.fl
 rw[hst] at fl0
 have k:wpAny (model X.prog X.w) X.A (leaving X.env (.ref ea)) (fun _ s2=>Cx1 s2.heap ea) (fun _ _=>False) s':=by
  unfold leaving
  exact wpAny_bind (wpAny_mono (Fz hfr fl0.2.2.1 hf fl0.2.2.2 cx.cx0) (fun _ _ c=>B3 c) fun _ _ z=>z)
 have g:=Lb (E:=E) I hst hf hex f (Q:=fun _ s2=>∃h':Heap,s2={ s' with heap:=h' }∧Fly X.prog X.w X.outer X.H₀ H' X.s₀.heap h' ea C a0 B) fun h' fl=>⟨h',rfl,fl⟩
 exact wpAny_mono (Ci g k) (fun _ s2 ⟨⟨h',e,fl⟩,c⟩=>by subst e;exact hQ h' fl c) fun e s z=>z.2.elim
end
structure Ko (X:Cx)(U:Str→Prop):Prop where
 raise:Xr X U
 pass:∀(pins:List (Addr×Obj))(σ:St)(H:Hp)(s:Shared)(e:Value)(s':Shared),Inv X pins σ H s→F8 X.prog X.w X.stack H s (fun cls _ H'=>∃x,X.mg x=some cls∧U x∧AH X.H₀ H') e s'→X.xe e s'
theorem Kl {P:Program}{w:World}{K:PySem.W.Frag}{mg:Str→Option Value}{base:Heap}{N:List Str}{qual:Str}{scope:Scope}{f:Addr}{cd:Value}{A:Around}{outer:List Env}{s:Shared}{H:Hp}{E:XK}{U:Str→Prop}
 (hE:∀x C H',AH H H'→mg x=some (.ref C)→U x→E (.ref C) none H'):Ko (EK (F8 P w) P w K mg base N qual scope f cd A outer s H E) U where
 raise:=N8 hE
 pass:=fun pins σ H1 s1 e s' I h=>by
  obtain⟨ea,C,a0,B,H',rfl,ho,hg,fl,cx,x,hm,hu,hs⟩:=h
  exact MW I rfl rfl rfl fl cx fun h' fl' cx'=>⟨ea,C,a0,B,H',rfl,ho.trans I.os,hg,fl',cx',hE x C H' hs hm hu⟩
section
variable {P:Program}{w:World}{K:PySem.W.Frag}{mg:Str→Option Value}{base:Heap}
theorem fnV {x qual:Str}{st:Stmt}{f:Addr}{fd:FuncData}{N ps:List Str}{k:Nat}{sp:Sp3}(F:Fun K x qual st f fd) (Sc:Ah N ps (Ab st)) (len:∀ss R U,sp ss R U→ss.length=ps.length)
 (hbody:∀(cdv:Value)(A:Around)(outer:List Env)(s:Shared)(H:Hp)(E:XK)(ss:List S)(R:S→Prop)(U:Str→Prop),Dr k (A.deeper (envOfC qual (Ab st) s.heap.objs.size f cdv))→sp ss R U →
  Ko (EK (F8 P w) P w K mg base N qual (Ab st) f cdv A outer s H E) U →
  ∃t,DJ (EK (F8 P w) P w K mg base N qual (Ab st) f cdv A outer s H E) (Bf st) t∧t { nx:=fun _=>R (.d .non),rt:=R } (Cq N ss)):AS P w K mg base (F8 P w) (k+1) f fd ps (Ak K mg sp):=by
 obtain⟨oc,od,kV,doc,pm,an,cdv,ct,osl,rfl,lk,hcd⟩:=F.ex
 refine Kq lk hcd Sc (fun vs H Q E hh=>by obtain⟨z,ss,R,U,hz,ha,h3,_⟩:=hh;exact ha.1.trans (len ss R U h3)) fun A outer s H vs Q E hr hh9=>?_
 obtain⟨z,ss,R,U,hz,ha,h3,q,qe⟩:=hh9
 obtain⟨t,ht,hq⟩:=hbody cdv A outer s H E ss R U hr h3 (Kl qe)
 exact⟨_,ht.out,⟨H,z⟩,z,Cq N ss,_,Dc ha hz (AH.refl H),hq,⟨fun τ σ p r h=>q (.d .non) _ p r.ext Is.non Ce h,fun _ _ _ _ z=>z.elim,fun _ _ _ _ z=>z.elim,fun s v p e i f h=>q s v p e i f h⟩⟩
end
section
variable {X:Cx}{U:Str→Prop}{e:Expr}{es:List Expr}{te:TE3}{tr:TA3}{pos:Pos}
theorem Nb {k k':Nat}{x:Str}{ps:List Str}{sp:Sp3}{p:Pos}(xo:Ko X U) (hr:Dr k' X.A) (c:Cal X.prog X.w X.K X.mg X.base (F8 X.prog X.w) k x ps sp) (ha:PA3 X (e::es) tr) (hkk:k≤k':=by decide) (hg:Gl X x:=by exact rfl)
 (hdb:(x==("__debug__":Str))=false:=by decide) (he:starEach (e::es) X.env=(false,eval e X.env)::starEach es X.env:=by exact AV rfl) (hpl:(backTo pos (starEach es X.env)).any (·.1)=false:=by exact AR rfl) (hl:X.lent=none:=by rfl) :
 PE3 X (.Call (.Name x p) (e::es) [] pos) (F6 U sp tr):=by
 refine⟨?_⟩
 obtain⟨f,fd,F,hm,hk,hb⟩:=c.ex
 refine Ax (GB (E:=fun cls _ H'=>∃y,X.mg y=some cls∧U y∧AH X.H₀ H') F (hr.mono hkk) hg hm hk hb .nil (fun pins σ H s e s' I h=>xo.pass pins σ H s e s' I h) ha.out hdb he hpl) fun σ H Q ⟨B,z,τ,R,r,ht,q⟩=>⟨B,_,τ,_,r,ht,fun ss vs H1 e1 i1 h1=>?_⟩
 show Ak X.K X.mg sp (vs++[]) H1.h Q _
 rw[qAZ]
 exact⟨H1.z,ss,R,U,e1.sub,i1,h1,fun s v H2 e2 i2 f2 h2=>q s v H2 (e1.trans e2) i2 (EB e1 f2) h2,fun y C H2 e2 hy hu=>⟨y,hy,hu,(r.all hl).trans (e1.hh.trans e2)⟩⟩
theorem CK {x:Str}{C:Addr}{np cpos:Pos}(xo:Ko X U) (hc:X.calm=true) (he:PE3 X e te) (hg:Gl X x) (ec:ExC X.K x C) (hm:X.mg x=some (.ref C))
 (hs:starEach [e] X.env=(false,eval e X.env)::starEach [] X.env:=by exact AV rfl) (hplain:(backTo cpos (starEach [e] X.env)).any (·.1)=false:=by exact AR rfl) (hd:(x==("__debug__":Str))=false:=by decide) (hl:X.lent=none:=by rfl) :
 PS3 X (.Raise (some (.Call (.Name x np) [e] [] cpos)) none pos) (Iz U x te):=J6 xo.raise hc he hg ec hm hs hplain hd hl
end
section
variable {A:Around}{E:Value→Shared→Prop}{s:Shared}{hh C C1:Addr}{K:PySem.W.Frag}
theorem Ki {prog:Program}{w:World}{env:Env}{x c:Sem Value}{Q:Flow→Shared→Prop}(hA:A.handled=some (.ref hh)) (hn:PySem.W.mroIn K C (.type "BaseException")=some true) (hn1:PySem.W.mroIn K C1 (.type "BaseException")=some true)
 (hx:wpAny (model prog w) A x (fun v s₁=>wpAny (model prog w) A c (fun u s₁=>∃e oe vs oC oh vh,v=.ref e∧u=.ref hh∧s₁.heap.get? e=some oe∧oe.cls=.ref C∧oe.data=.fields vs∧vs[1]? = some .none∧4<vs.size∧K.In s₁.heap∧s₁.heap.get? C=some oC∧oC.cls=.type "type"∧hh≠e ∧
  s₁.heap.get? hh=some oh∧oh.cls=.ref C1∧oh.data=.fields vh∧vh[2]? = some .none ∧
  E (.ref e) { s₁ with heap:=((s₁.heap.update e (Obj.mapFields fun y=>y.setIfInBounds 3 (.ref hh))).update e (Obj.mapFields fun y=>y.setIfInBounds 4 (.bool true))).update e (Obj.mapFields fun y=>y.setIfInBounds 2 (.ref hh)) }) E s₁) E s) :
 wpAny (model prog w) A (raiseStmt env (some x) (some c)) Q E s:=by
 unfold raiseStmt
 refine wpAny_bind (wpAny_mono hx (fun v s0 hq=>?_) (fun e s z=>z))
 refine wpAny_bind (wpAny_holding (wpAny_mono hq (fun u s1 hq=>?_) fun e s z=>z))
 obtain⟨e,oe,vs,oC,oh,vh,rfl,rfl,he,hcl,d,v1,sz,KX,hC,hcC,ne,hoh,hch,dh,v2,q⟩:=hq
 have L1:=DF (M:=model prog w) he d
 have L2:PySem.W.Looks (model prog w) s1.heap (typeOf (.ref e)) (.ref C):=hcl ▸ (PySem.W.Looks.ld he).andThen .now
 have L3:=qA2 (M:=model prog w) KX hn
 have J1:=DF (M:=model prog w) hoh dh
 have J2:PySem.W.Looks (model prog w) s1.heap (typeOf (.ref hh)) (.ref C1):=hch ▸ (PySem.W.Looks.ld hoh).andThen .now
 have J3:=qA2 (M:=model prog w) KX hn1
 refine wpAny_bind (wpAny_pure ?_)
 refine wpAny_bind (wpAny_holding ?_)
 unfold excFromValue isExcClass
 refine wpAny_bind (wpAny_bind (L1.at ?_))
 refine wpAny_pure ?_
 unfold isInstance
 refine wpAny_bind (wpAny_bind (L2.at (L3.at ?_)))
 refine wpAny_pure ?_
 have nn0:(Value.ref hh==Value.none)=false:=rfl
 dsimp only
 rw[nn0]
 refine wpAny_bind (wpAny_holding ?_)
 refine wpAny_bind (wpAny_bind (J1.at ?_))
 refine wpAny_pure ?_
 refine wpAny_bind (wpAny_bind (J2.at (J3.at ?_)))
 refine wpAny_pure ?_
 refine wpAny_bind (wpAny_setField (a:=e) he d (show 3<vs.size from ()) ?_)
 have e1:(s1.heap.update e (Obj.mapFields fun y=>y.setIfInBounds 3 (.ref hh))).get? e=some (Obj.mapFields (fun y=>y.setIfInBounds 3 (.ref hh)) oe):=qAK _ he (A5 (A9 d))
 have d1:=A9 (f:=fun y=>y.setIfInBounds 3 (.ref hh)) d
 refine wpAny_bind (wpAny_setField (s:={ s1 with heap:=_ }) (a:=e) e1 d1 (by rw[Array.size_setIfInBounds];exact sz) ?_)
 have e2:=qAK (Obj.mapFields fun y=>y.setIfInBounds 4 (Value.bool true)) e1 (A5 (A9 d1))
 have d2:=A9 (f:=fun y=>y.setIfInBounds 4 (.bool true)) d1
 have oth:∀b,b≠e→((s1.heap.update e (Obj.mapFields fun y=>y.setIfInBounds 3 (.ref hh))).update e (Obj.mapFields fun y=>y.setIfInBounds 4 (.bool true))).get? b=s1.heap.get? b:=fun b hb=>by
  rw[qAU _ _ _ _ hb,qAU _ _ _ _ hb]
 generalize hG:(s1.heap.update e (Obj.mapFields fun y=>y.setIfInBounds 3 (.ref hh))).update e (Obj.mapFields fun y=>y.setIfInBounds 4 (.bool true))=G at e2 oth q ⊢
 have L1:=DF (M:=model prog w) e2 d2
 have cls2:(Obj.mapFields (fun y=>y.setIfInBounds 4 (.bool true)) (Obj.mapFields (fun y=>y.setIfInBounds 3 (.ref hh)) oe)).cls=.ref C:=by rw[Obj.cls_mapFields,Obj.cls_mapFields];exact hcl
 have L2:PySem.W.Looks (model prog w) G (typeOf (.ref e)) (.ref C):=cls2 ▸ (PySem.W.Looks.ld e2).andThen .now
 have neC:C≠e:=fun z=>by
  subst z
  rw[hC] at he
  cases he
  rw[hcC] at hcl
  cases hcl
 have L4:PySem.W.Looks (model prog w) G (typeOf (.ref C)) (.type "type"):=hcC ▸ (PySem.W.Looks.ld ((oth C neC).trans hC)).andThen .now
 refine wpAny_bind (L1.at ?_)
 unfold raisedInstance
 refine wpAny_bind (wpAny_bind (L2.at (wpAny_bind (L4.at ?_))))
 refine wpAny_pure ?_
 refine wpAny_bind ?_
 unfold setFlight
 have v12:((vs.setIfInBounds 3 (.ref hh)).setIfInBounds 4 (.bool true))[1]? = some .none:=by
  rw[Array.getElem?_setIfInBounds,if_neg ∅,Array.getElem?_setIfInBounds,if_neg ∅];exact v1
 refine wpAny_bind (wpAny_field (s:={ s1 with heap:=G }) e2 d2 v12 ?_)
 refine wpAny_pure ?_
 unfold raiseNew
 refine wpAny_bind (wpAny_handled ?_)
 rw[hA]
 have nn:(Value.ref hh != Value.ref e)=true:=by
  simp[bne,ne]
 show wpAny (model prog w) A (if (Value.ref hh != Value.ref e)=true then _ else _) Q E { s1 with heap:=G }
 rw[if_pos nn]
 refine wpAny_bind (wpAny_holding (Kz (s:={ s1 with heap:=G }) ⟨oh,vh,(oth hh ne).trans hoh,dh,v2⟩ ?_))
 refine wpAny_bind (wpAny_setField (s:={ s1 with heap:=G }) (a:=e) e2 d2 (by rw[Array.size_setIfInBounds,Array.size_setIfInBounds];omega) ?_)
 exact wpAny_throw q
end
section
variable {X:Cx}{pins:List (Addr×Obj)}{σ:St}{H:Hp}{s:Shared}{ea C:Addr}{a0:Value}
theorem Me (I:Inv X pins σ H s)(hst:X.stack=X.env::X.outer)(hf:X.env.frame=some X.env.locals)(hex:X.ex=[]){h':Heap}(fl:Heap.FlyingW (PySem.W.hideAll s.heap (frs X.stack)) X.outer ea (.ref C) a0 h')
 (up:∀b,b∈frs X.outer→∀o,s.heap.get? b=some o→(∀vs,o.data≠.fields vs)→∃sl,h'.get? b=some { o with slots:=sl }):Fly X.prog X.w X.outer X.H₀ H X.s₀.heap h' ea C a0 (PySem.W.hideAll s.heap (frs X.stack)):=by
 have hstk:=I.stack
 have hB:∀b o,s.heap.get? b=some o→b∉frs X.stack→(PySem.W.hideAll s.heap (frs X.stack)).get? b=some o:=fun b o e hb=>qBs _ e hb
 have ho:∀b o,(PySem.W.hideAll s.heap (frs X.stack)).get? b=some o→s.heap.get? b=some o:=fun b o e=>qA5 _ e
 have old:∀b o,X.s₀.heap.get? b=some o→b∉frs X.outer→b∉frs X.stack:=fun b o e hb hm=>by
  rw[hst,AB hf] at hm
  rcases qAg.mp hm with rfl|hm
  ·exact absurd (qAk (qAh e) I.ok.above) (qAF _)
  ·exact hb hm
 have nex:∀b:Addr,b∉X.ex:=fun b z=>by rw[hex] at z;cases z
 have tr:∀b o,H b=some o→∃ob,(PySem.W.hideAll s.heap (frs X.stack)).get? b=some ob:=fun b o e=>by
  obtain⟨u,eu⟩:=Bg.there (I.hok b o e)
  exact⟨u,hB b u eu fun hm=>by have:=I.stkFree b hm;rw[e] at this;cases this⟩
 have up_:∀b,b∈frs X.outer→b∈frs X.stack:=fun b hb=>by rw[hst,AB hf];exact qAc _ hb
 refine⟨fl,⟨fun b o e n hb _=>?_,fun b o e n hb _=>?_,fun b o e n _=>I.base.free b o e n (nex b),fun b o e _=>?_,I.base.tups,I.base.frzs,I.base.tbls⟩,Iv I.hok tr ho fl.1,fun b o e n hb=>?_,tr,fun b o e hb=>?_⟩
 ·exact fl.1 b o (hB b o (I.base.keep b o e n hb (nex b)) (old b o e hb))
 ·obtain⟨sl,e1⟩:=I.base.slot b o e n hb (nex b)
  obtain⟨o2,e2,d⟩:=BH hstk (up_ b hb)
  rw[e1] at e2
  cases e2
  obtain⟨sl2,e3⟩:=up b hb _ e1 d
  exact⟨sl2,e3⟩
 ·obtain⟨o1,e1⟩:=I.base.there b o e (nex b)
  by_cases hb:b∈frs X.outer
  ·obtain⟨o2,e2,d⟩:=BH hstk (up_ b hb)
   obtain⟨sl2,e3⟩:=up b hb _ e2 d
   exact⟨_,e3⟩
  ·exact⟨o1,fl.1 b o1 (hB b o1 e1 (old b o e hb))⟩
 ·exact hB b o (I.base.keep b o e n hb (nex b)) (old b o e hb)
 ·obtain⟨o1,e1⟩:=I.base.there b o e (nex b)
  exact⟨o1,hB b o1 e1 (old b o e hb)⟩
end
def XrF (X:Cx)(U:Str→Prop):Prop:=∀(pins:List (Addr×Obj))(σ:St)(H:Hp)(s s6:Shared)(ea C:Addr)(a0:Value)(x:Str),Inv X pins σ H s→AH X.H₀ H→X.mg x=some (.ref C)→U x→s6.os=s.os→AllBare s6.gens →
 Heap.HeldW (PySem.W.hideAll s.heap (frs X.stack)) X.stack ea (.ref C) a0 X.env.locals s6.heap→(∀b,b∈frs X.outer→∀o,s.heap.get? b=some o→(∀vs,o.data≠.fields vs)→∃sl,s6.heap.get? b=some { o with slots:=sl })→X.xe (.ref ea) s6
theorem Nq {P:Program}{w:World}{K:PySem.W.Frag}{mg:Str→Option Value}{base:Heap}{N:List Str}{qual:Str}{scope:Scope}{f:Addr}{cd:Value}{A:Around}{outer:List Env}{s:Shared}{H:Hp}{E:XK}{U:Str→Prop}
 (hE:∀x C H',AH H H'→mg x=some (.ref C)→U x→E (.ref C) none H'):XrF (EK (CXU P w) P w K mg base N qual scope f cd A outer s H E) U :=
 fun pins σ H1 s1 s6 ea C a0 x I hs hm hu ho hg hh up=>by
  have hfr:=I.ok.frames
  refine FP (s:=s6) hfr rfl hh.1 hh.2.1 hh.2.2.1 hh.2.2.2 fun h' fl u=>?_
  refine⟨ea,C,a0,_,H1,rfl,ho.trans I.os,hg,Me I rfl rfl rfl fl fun b hb o e nf=>?_,hE x C H1 hs hm hu⟩
  obtain⟨sl,e1⟩:=up b hb o e nf
  obtain⟨sl2,e2⟩:=u b _ e1 nf
  exact⟨sl2,e2⟩
section
variable {M:Model}{A:Around}{E:Value→Shared→Prop}{s:Shared}{base:Heap}{l:List Env}{e L:Addr}{cls a0:Value}
theorem GZ {Q:Unit→Shared→Prop}(hh:Heap.HeldW base l e cls a0 L s.heap) (hQ:∀h',Heap.HeldW base l e cls a0 L h'→(∀b o,s.heap.get? b=some o→(∀vs,o.data≠.fields vs)→h'.get? b=some o)→Q Unit.unit { s with heap:=h' }) :
 wpAny M A (setFlight (.ref e) (some L)) Q E s:=by
 obtain⟨hkb,hen,hl,oe,vs,T,oT,ts,he,hcls,hd,h1,hnT,hTe,hT,hdT,h3⟩:=hh
 have hsz3:3<ts.size:=(Array.getElem?_eq_some_iff.mp h3).1
 have other:∀b,b≠T→(s.heap.update T (Obj.mapFields (·.setIfInBounds 3 ((some L:Option Addr).elim Value.none fun f=>rawInt f)))).get? b=s.heap.get? b:=fun b hb=>qBh _ _ (Ne.symm hb)
 have noRecord:∀b o,s.heap.get? b=some o→(∀vs,o.data≠.fields vs)→b≠T:=fun b o hb hnf q=>by
  rw[q,hT] at hb;injection hb with hb;subst hb;exact hnf ts hdT
 unfold setFlight
 refine wpAny_bind (wpAny_field he hd h1 ?_)
 rw[if_pos (show(Value.ref T != Value.none)=true from by simp)]
 refine wpAny_setField hT hdT hsz3 (hQ _ ⟨fun b o hbo=>(other b fun q=>by rw[q,hnT] at hbo;cases hbo).trans (hkb b o hbo),hen,
  hl.of_keeps fun b o hb hnf=>⟨o,(other b (noRecord b o hb hnf)).trans hb,rfl⟩,?_⟩ fun b o hb hnf=>(other b (noRecord b o hb hnf)).trans hb)
 exact⟨oe,vs,T,_,_,(other e (Ne.symm hTe)).trans he,hcls,hd,h1,hnT,hTe,qAK _ hT (Obj.isFreed_of_fields (Obj.data_mapFields hdT _)),Obj.data_mapFields hdT _,by simp[hsz3]⟩
theorem EL {Q:Value→Shared→Prop}(hh:Heap.HeldW base l e cls a0 L s.heap) (hQ:∀T,Q (.ref T) s):wpAny M A (field (.ref e) 1) Q E s:=by
 obtain⟨_,_,_,oe,vs,T,oT,ts,he,hcls,hd,h1,_⟩:=hh
 exact wpAny_field he hd h1 (hQ T)
end
theorem FV {h h' base:Heap}:∀{l:List Env},h.FunFrames base l→(∀b,b∈frs l→∃o,h'.get? b=some o∧∀vs,o.data≠.fields vs)→h'.FunFrames base l
 |[],_,_=>trivial
 |env::r,⟨hk,⟨L,o,hf,hn,ho,hd⟩,hr⟩,k=>by
  have e:frs (env::r)=L::frs r:=AB hf
  obtain⟨o2,e2,d2⟩:=k L (by rw[e];exact qAe)
  exact⟨hk,⟨L,o2,hf,hn,e2,d2⟩,FV hr fun b hb=>k b (by rw[e];exact qAc _ hb)⟩
section
variable {X:Cx}{pins:List (Addr×Obj)}{σ:St}{H:Hp}{s:Shared}{ea e2 C:Addr}{a0:Value}{U:Str→Prop}{oe o2:Obj}{n x:Str}{h2:Heap}{vs:Array Value}{hp:Pos}
theorem Jw (xo:XrF X U)(hst:X.stack=X.env::X.outer)(hf:X.env.frame=some X.env.locals)(hkl:X.env.kindOf n=some .local)(I:Inv (DI X ea oe) pins σ H s)(I0:Inv X pins σ H s)(hs:AH X.H₀ H)(hm:X.mg x=some (.ref C))(hu:U x)
 (kp:∀b o,s.heap.get? b=some o→h2.get? b=some o)(nw:s.heap.get? e2=none)(eo:h2.get? e2=some o2)(hcl:o2.cls=.ref C)(d:o2.data=.fields vs)(v0:vs[0]? = some a0)(v1:vs[1]? = some .none) :
 wpAny (model X.prog X.w) (X.A.mark (some (.ref ea))) (noteFrame (.ref e2) X.env) (fun _ s3 =>
  wpAny (model X.prog X.w) (X.A.mark (some (.ref ea))) (do bindName X.env n .none;unbindBehindTheSuite X.env n hp)
   (fun _ s4=>wpAny (model X.prog X.w) (X.A.mark (some (.ref ea))) (PySem.passOn "try.except-as" (.ref e2) X.env:Sem Flow) (fun _ _=>False) (notedBy (model X.prog X.w) (X.A.mark (some (.ref ea))) X.env (cameBackBy (model X.prog X.w) X.A X.env X.xe)) s4)
   (fun y s4=>wpAny (model X.prog X.w) (X.A.mark (some (.ref ea))) (setFlight (.ref e2) none) (fun _ s5=>(notedBy (model X.prog X.w) (X.A.mark (some (.ref ea))) X.env (cameBackBy (model X.prog X.w) X.A X.env X.xe)) y s5) (notedBy (model X.prog X.w) (X.A.mark (some (.ref ea))) X.env (cameBackBy (model X.prog X.w) X.A X.env X.xe)) s4) s3) (notedBy (model X.prog X.w) (X.A.mark (some (.ref ea))) X.env (cameBackBy (model X.prog X.w) X.A X.env X.xe)) { s with heap:=h2 }:=by
 have hfr:(X.A.mark (some (.ref ea))).frames=some (X.env::X.outer):=by rw[←hst];exact I.ok.frames
 have hstk:=I0.stack
 have hin:∀env∈X.stack,∀b,env.frame=some b→b∈frs X.stack:=fun env he b hb=>qBe.mpr ⟨env,he,hb⟩
 have ho:∀b o,(PySem.W.hideAll s.heap (frs X.stack)).get? b=some o→s.heap.get? b=some o:=fun b o e=>qA5 _ e
 have hF2:h2.FunFrames (PySem.W.hideAll s.heap (frs X.stack)) X.stack:=(qCk hstk hin).of_keeps fun b o eb nf=>⟨o,kp b o eb,rfl⟩
 have hno:(PySem.W.hideAll s.heap (frs X.stack)).get? e2=none:=by
  cases q:(PySem.W.hideAll s.heap (frs X.stack)).get? e2 with
  |none=>rfl
  |some o=>have:=ho _ _ q;rw[nw] at this;cases this
 have sz:1<vs.size:=(Array.getElem?_eq_some_iff.mp v1).1
 obtain⟨m,hn,_⟩:=I0.loc
 have Lfr:X.env.locals∈frs X.stack:=by rw[hst,AB hf];exact qAe
 have upf:∀b,b∈frs X.outer→b≠X.env.locals:=fun b hb z=>by
  obtain⟨_,o,e,_⟩:=I0.ok.funs.mem hb
  have:=qAk (qAh e) I0.ok.above
  rw[z] at this
  exact absurd this (qAF _)
 unfold noteFrame
 simp only[hf]
 refine wpAny_bind (wpAny_field (s:={ s with heap:=h2 }) eo d v1 ?_)
 rw[if_neg (show ¬((Value.none != Value.none)=true) from by simp)]
 have hLn:(PySem.W.hideAll s.heap (frs X.stack)).get? X.env.locals=none:=qBL _ Lfr
 have upx:=fun(s6:Shared)=>xo pins σ H s s6 e2 C a0 x I0 hs hm hu
 generalize PySem.W.hideAll s.heap (frs X.stack)=BB at ho hF2 hno hLn upx
 rw[hst] at hF2
 refine wpAny_entryW (s:={ s with heap:=h2 }) hfr hF2 hf eo (fun b o e=>kp b o (ho b o e)) hno d sz v0 fun h3 nt=>?_
 rw[←hst] at nt
 obtain⟨n1,n2,n3,n4⟩:=nt
 have hn3:h3.Ns X.env.locals m:=Heap.UpToSlots.ns (show h2.UpToSlots h3 from n4) (hn.keeps kp)
 have hcls:(X.env.scope.kind == .class||(X.env.scope.kind == .module&&X.env.locals != X.env.globals))=false:=by rw[I0.ok.kind];rfl
 refine wpAny_nameGoes (s:={ s with heap:=h3 }) hkl hn3 hcls fun h4 m' hn4 sb=>?_
 have held4:Heap.HeldW BB X.stack e2 (.ref C) a0 X.env.locals h4:=by
  obtain⟨oe3,vs3,T,oT,ts,he,hc3,hd3,h13,hnT,hTe,hT,hdT,h33⟩:=n3
  obtain⟨oL,esL,epL,hoL,hdL,_⟩:=hn3
  have neE:e2≠X.env.locals:=fun z=>by rw[←z,he] at hoL;cases hoL;rw[hd3] at hdL;cases hdL
  have neT:T≠X.env.locals:=fun z=>by rw[←z,hT] at hoL;cases hoL;rw[hdT] at hdL;cases hdL
  refine⟨fun b o q=>?_,hno,?_,oe3,vs3,T,oT,ts,(sb.2 e2 neE).trans he,hcl ▸ hc3,hd3,h13,hnT,hTe,(sb.2 T neT).trans hT,hdT,h33⟩
  ·have:b≠X.env.locals:=fun z=>by
    rw[z,hLn] at q
    cases q
   exact(sb.2 b this).trans (n1 b o q)
  ·refine FV n2 fun b hb=>?_
   by_cases z:b=X.env.locals
   ·subst z
    obtain⟨oL4,es4,ep4,hoL4,hdL4,_⟩:=hn4
    exact⟨oL4,hoL4,fun v q=>by rw[hdL4] at q;cases q⟩
   ·obtain⟨o,e,dd⟩:=BH n2 hb
    exact⟨o,(sb.2 b z).trans e,dd⟩
 have up4:∀b,b∈frs X.outer→∀o,s.heap.get? b=some o→(∀vs,o.data≠.fields vs)→∃sl,h4.get? b=some { o with slots:=sl }:=fun b hb o e nf=>by
  obtain⟨sl,e3⟩:=n4 b o (kp b o e) nf
  exact⟨sl,(sb.2 b (upf b hb)).trans e3⟩
 unfold PySem.passOn
 refine wpAny_bind (EL (s:={ s with heap:=h4,toks:=s.toks+1 }) held4 fun T=>?_)
 rw[if_neg (show ¬((Value.ref T==Value.none)=true) from by simp)]
 rw[hf]
 refine wpAny_bind (GZ (s:={ s with heap:=h4,toks:=s.toks+1 }) held4 fun h5 held5 k5=>wpAny_throw ?_)
 refine wpAny_noteFrame_againW hf held5.2.2.2 ?_
 show wpAny (model X.prog X.w) X.A _ _ _ _
 refine wpAny_bind (EL (s:={ s with heap:=h5,toks:=s.toks+1 }) held5 fun T=>?_)
 rw[if_neg (show ¬((Value.ref T==Value.none)=true) from by simp)]
 rw[hf]
 refine GZ (s:={ s with heap:=h5,toks:=s.toks+1 }) held5 fun h6 held6 k6=>?_
 refine upx _ rfl I0.bare held6 fun b hb o e nf=>?_
 obtain⟨sl,e4⟩:=up4 b hb o e nf
 exact⟨sl,k6 b _ (k5 b _ e4 nf) nf⟩
end
section
variable {X:Cx}{pins:List (Addr×Obj)}{σ:St}{H H':Hp}{s s':Shared}{ea C:Addr}{oe:Obj}{a0:Value}{B:Heap}
theorem JL {E:Value→Shared→Prop}{Q:Flow→Shared→Prop}{x n:Str}{i:Nat}{Cx:Addr}{np hp:Pos}{b0:Stmt}{suite:List Stmt}{rest:List ExceptHandler}(I:Inv X pins σ H s) (hst:X.stack=X.env::X.outer) (hf:X.env.frame=some X.env.locals)
 (fl:Fly X.prog X.w X.stack H H' s.heap s'.heap ea C a0 B) (cx:Cx1 s'.heap ea) (ho:s'.os=s.os) (hg:AllBare s'.gens) (hgx:Gl X x) (hm:X.mg x=some (.ref Cx)) (hn:HnC X.K Cx) (hb:PySem.W.mroIn X.K C (.ref Cx)=some true) (hd:(x==("__debug__":Str))=false)
 (hN:X.N.Nodup) (hi:X.N[i]? = some n) (hx:Loc X.env.scope n) (hfn:X.fn n=true∨X.env.scope.names.lookup n=some .local)
 (go:∀(s2:Shared)(oe:Obj),CxO oe→ExO oe C→Inv (DI X ea oe) pins (σ.set i (some (.ref ea))) H' s2→Inv X pins (σ.set i (some (.ref ea))) H' s2→wpAny (model X.prog X.w) (X.A.mark (some (.ref ea))) (execs (b0::suite) X.env) (fun f s4=>wpAny (model X.prog X.w) X.A (do bindName X.env n .none;unbindBehindTheSuite X.env n hp) (fun _ s5=>Q f s5) E s4)
  (fun y s3=>wpAny (model X.prog X.w) (X.A.mark (some (.ref ea))) (noteFrame y X.env) (fun _ s3 =>
   wpAny (model X.prog X.w) (X.A.mark (some (.ref ea))) (do bindName X.env n .none;unbindBehindTheSuite X.env n hp)
    (fun _ s4=>wpAny (model X.prog X.w) (X.A.mark (some (.ref ea))) (PySem.passOn "try.except-as" y X.env:Sem Flow) (fun _ _=>False) (notedBy (model X.prog X.w) (X.A.mark (some (.ref ea))) X.env (cameBackBy (model X.prog X.w) X.A X.env E)) s4)
    (fun y' s4=>wpAny (model X.prog X.w) (X.A.mark (some (.ref ea))) (setFlight y none) (fun _ s5=>(notedBy (model X.prog X.w) (X.A.mark (some (.ref ea))) X.env (cameBackBy (model X.prog X.w) X.A X.env E)) y' s5) (notedBy (model X.prog X.w) (X.A.mark (some (.ref ea))) X.env (cameBackBy (model X.prog X.w) X.A X.env E)) s4) s3) (notedBy (model X.prog X.w) (X.A.mark (some (.ref ea))) X.env (cameBackBy (model X.prog X.w) X.A X.env E)) s3) s2) :
 wpAny (model X.prog X.w) X.A (noteFrame (.ref ea) X.env) (fun _ s₂=>wpAny (model X.prog X.w) X.A (setFlight (.ref ea) none) (fun _ s₃ =>
  wpAny (model X.prog X.w) X.A (handleBy (.ref ea) X.env (.ExceptHandler (some (.Name x np)) (some n) (b0::suite) hp::rest)) Q E s₃) E s₂) E s':=by
 have hfr:X.A.frames=some (X.env::X.outer):=by rw[←hst];exact I.ok.frames
 have fl0:=fl.fl
 rw[hst] at fl0
 have n1:=wpAny_looks_onW (M:=model X.prog X.w) (E:=E) (Q:=fun _ s2=>∃h',s2={ s' with heap:=h' }∧B.HeldW (X.env::X.outer) ea (.ref C) a0 X.env.locals h'∧s'.heap.UpToSlots h') hfr hf fl0 fun h4 held up4=>⟨h4,rfl,held,up4⟩
 have n2:=Fz (M:=model X.prog X.w) (E:=fun _ _=>False) hfr fl0.2.2.1 hf fl0.2.2.2 cx.cx0
 refine wpAny_mono (Ci n1 n2) (fun _ s2 z=>?_) fun e s z=>z.2.elim
 obtain⟨⟨h4,rfl,held,up4⟩,cx4⟩:=z
 have m1:=wpAny_landsW (M:=model X.prog X.w) (A:=X.A) (s:={ s' with heap:=h4 }) (E:=E) (Q:=fun _ s2=>∃h',s2={ s' with heap:=h' }∧B.FlyingW (X.env::X.outer) ea (.ref C) a0 h'∧h4.UpToSlots h') held fun h5 fl5 up5=>⟨h5,rfl,fl5,up5⟩
 have m2:=B3 (M:=model X.prog X.w) (A:=X.A) (s:={ s' with heap:=h4 }) (E:=fun _ _=>False) cx4
 refine wpAny_mono (Ci m1 m2) (fun _ s2 z=>?_) fun e s z=>z.2.elim
 obtain⟨⟨h5,rfl,fl5,up5⟩,cx5⟩:=z
 rw[←hst] at fl5
 have f5:=fl.to fl5 (up4.trans up5)
 have I5:Inv X pins σ H' { s' with heap:=h5 }:=Fly.inv (s':={ s' with heap:=h5 }) I f5 ho hg
 refine wpAny_handleBy_cons (codeAny_handlers_test (Cv (X:=hnd X ea) (IL I5 ea) hgx hm ?_ hd)) (by intro q;cases q)
 obtain⟨oe,he,hc⟩:=f5.fl.there
 refine FQ (s:={ s' with heap:=h5 }) I5.kIn hn he hc hb ?_
 refine codeAny_handlers_suite_as ?_
 have k1:=lands_againW (M:=model X.prog X.w) (A:=X.A.mark (some (.ref ea))) (s:={ s' with heap:=h5 }) (E:=fun _ _=>False) (Q:=fun _ s2=>∃h',s2={ s' with heap:=h' }∧B.FlyingW X.stack ea (.ref C) a0 h'∧h5.UpToSlots h') f5.fl fun h6 fl6 up6=>⟨h6,rfl,fl6,up6⟩
 have k2:=B3 (M:=model X.prog X.w) (A:=X.A.mark (some (.ref ea))) (s:={ s' with heap:=h5 }) (E:=fun _ _=>False) cx5
 refine wpAny_mono (Ci k1 k2) (fun _ s2 z=>?_) fun e s z=>z.2.elim
 obtain⟨⟨h6,rfl,fl6,up6⟩,cx6⟩:=z
 have f6:=f5.to fl6 up6
 have I6:Inv X pins σ H' { s' with heap:=h6 }:=Fly.inv (s':={ s' with heap:=h6 }) I f6 ho hg
 obtain⟨oe6,vs6,he6,hc6,hd6,_⟩:=f6.fl.first
 have noF:∀b,b∈frs X.stack→ea≠b:=fun b hbm z=>by
  obtain⟨o,h1,h2⟩:=BH f6.fl.2.2.1 hbm
  rw[←z,he6] at h1
  cases h1
  exact h2 _ hd6
 have hnone:H' ea=none:=by
  cases e:H' ea with
  |none=>rfl
  |some o =>
   obtain⟨ob,eb⟩:=f6.tr _ _ e
   have:=f6.fl.2.1
   rw[eb] at this
   cases this
 have IE:Inv (DI X ea oe6) pins σ H' { s' with heap:=h6 }:=G2 I6 ⟨he6,hnone,noF _ (by rw[hst,AB hf];exact qAe),fun z=>noF _ (by rw[hst,AB hf];exact qAc _ z) rfl,fun v z=>by rw[hd6] at z;cases z⟩
 refine CM (X:=DI X ea oe6) (v:=.ref ea) IE hN hi hx rfl (fun s7 I7=>?_) hfn
 exact go s7 oe6 (L8 cx6 he6) ⟨hc6⟩ I7 (DD I.ok.hd I.ok.frames I7)
end
section
variable {X:Cx}{U:Str→Prop}{e e1:Expr}{es:List Expr}{te:TE3}{tr:TA3}
def NN (sp:Sp3)(tr:TA3)(y0 x2:Str)(U:Str→Prop):TS3:=fun D3 τ=>tr τ fun ss=>sp ss (fun s=>D3.rt s) (fun y=>y=y0∧U x2)
theorem LS {k i:Nat}{f cx n x2:Str}{ps:List Str}{sp:Sp3}{Cx C2:Addr}{pf pc pa np hp pt p2 pe pr cpos:Pos}(xo:XrF X U) (hst:X.stack=X.env::X.outer) (hf:X.env.frame=some X.env.locals)
 (c:Cal X.prog X.w X.K X.mg X.base (F8 X.prog X.w) k f ps sp) (hr:Dr k X.A) (hg:Gl X f) (ha:PA3 X.nox (e::es) tr) (hN:X.N.Nodup) (hi:X.N[i]? = some n) (hx:Loc X.env.scope n) (hkl:X.env.kindOf n=some .local)
 (hgx:Gl X cx) (hm:X.mg cx=some (.ref Cx)) (hn:HnC X.K Cx) (hok:PySem.W.mroIn X.K Cx (.ref Cx)=some true)
 (hg2:Gl X x2) (ec:ExC X.K x2 C2) (hm2:X.mg x2=some (.ref C2)) (hkp:PySem.W.keepIn X.K (.ref C2)=true) (hn2:HnC X.K C2) (he1:∀ea oe,PE3 (DI X.nox ea oe) e1 te) (ht1:∀τ R,(∀s,R s)→te τ R)
 (hdb:(f==("__debug__":Str))=false:=by decide) (hd:(cx==("__debug__":Str))=false:=by decide) (hd2:(x2==("__debug__":Str))=false:=by decide) (hd3:(n==("__debug__":Str))=false:=by decide) (he:starEach (e::es) X.env=(false,eval e X.env)::starEach es X.env:=by exact AV rfl) (hpl:(backTo pc (starEach es X.env)).any (·.1)=false:=by exact AR rfl)
 (hs:starEach [e1] X.env=(false,eval e1 X.env)::starEach [] X.env:=by exact AV rfl) (hplain:(backTo cpos (starEach [] X.env)).any (·.1)=false:=by exact AR rfl) (hfn:X.fn n=true∨X.env.scope.names.lookup n=some .local:=by first|exact .inl rfl|exact .inr rfl|assumption) (hpn:DH X i:=by first|exact CU rfl|exact pin_ne rfl ∅|assumption) (hl:X.lent=none:=by rfl) (hvs:Vis X.env.scope n:=by first|exact Or.inl rfl|exact Or.inr (Or.inl rfl)|exact Or.inr (Or.inr rfl)) :
 PS3 X (.Try [.Return (some (.Call (.Name f pf) (e::es) [] pc)) pa] [.ExceptHandler (some (.Name cx np)) (some n) [.Raise (some (.Call (.Name x2 p2) [e1] [] cpos)) (some (.Name n pe)) pr] hp] [] [] pt) (NN sp tr cx x2 U):=by
 refine⟨?_⟩
 obtain⟨fa,fd,F,hmf,hk,hb⟩:=c.ex
 intro pins s σ H D2 I h
 obtain⟨B,z,τ,D3,r,ht,ct⟩:=h
 refine wpAny_Try_except (wpAny_execs_cons (wpAny_Return_some (thn (IG (X:=X.nox) (Ex:=fun cls _ H'=>∃y,X.mg y=some cls∧(y=cx∧U x2)∧AH H H') (Q:=D2.rt) F hr hg hmf hk hb ha.out (fun e s z=>False.elim z) (I.wish _) ?hx ?h hdb he hpl) fun v s1 ⟨y,H1,I1,r1,q1⟩=>?nx)))
 case hx =>
  intro H1 s1 e' s' I1 hcx
  obtain⟨ea,C,a0,B',H',rfl,ho,hbr,fl,cx1,y,hy,⟨rfl,hu⟩,hsame⟩:=hcx
  have eC:C=Cx:=by
   rw[hm] at hy
   cases hy
   rfl
  subst eC
  refine JL (X:=X) I1.unwish hst hf fl cx1 ho hbr hgx hm hn hok hd hN hi hx hfn fun s2 oe co xoe I2 I3=>?_
  refine wpAny_execs_cons ?_
  rw[arm_exec_Raise]
  refine wpAny_bind (wpAny_standAt ?_)
  have rr:Rep (DI X.nox ea oe) B (τ.set i (some (.d (.ref ea)))) (σ.set i (some (.ref ea))) ⟨H',z⟩:=by
   have r1:=Hk (ea:=ea) (oe:=oe) ((r.mono (Ext.grow r.ext.sub hsame)).setd (.ref ea) hpn)
   exact⟨r1.len,r1.ext,r1.val,r1.own,r1.sep,r1.top,r1.pin⟩
  have I2n:Inv (DI X.nox ea oe) pins (σ.set i (some (.ref ea))) H' s2:=⟨⟨I2.ok.mod,I2.ok.kind,I2.ok.glob,I2.ok.blt,I2.ok.above,I2.ok.inj,I2.ok.has,I2.ok.cab,I2.ok.hd,I2.ok.frames,I2.ok.stk,I2.ok.exf,I2.ok.bs,I2.ok.bsz,I2.ok.noex,I2.ok.exfs,I2.ok.funs,I2.ok.frf,I2.ok.tb⟩,I2.os,I2.bare,I2.base,I2.loc,I2.cell,I2.free,I2.freeC,I2.pin,I2.hok,I2.len⟩
  obtain⟨loose,mb,T⟩:=E6 I2.mod X.prog
  obtain⟨tl,N,nm,q,bs,hdct,sn,sub,ab,col,dd,k0,k1,k2,k3,k5,mN,hC,hN2,hni,TL⟩:=(qB2 I2.mod.kin T ec.ns ec.ex).obj
  have pa:=(AM (he1 ea oe).out BI hs) cpos pins s2 (σ.set i (some (.ref ea))) H' (fun vs H1=>vs.length=1∧AH X.H₀ H1) I2n ⟨B,_,_,_,rr,ht1 _ (fun _=>True) (fun _=>trivial),fun s' v H' e' i' f' h'=>⟨rfl,(rr.all hl).trans e'.hh⟩⟩
  refine Ki (K:=X.K) (C:=C2) (C1:=C) (hh:=ea) rfl hn2.sb hn.sb ?_
  refine wpAny_bind ?_
  refine wpAny_Call_Name_kw (Cv (X:=DI X.nox ea oe) I2n hg2 hm2 ?_ hd2)
  refine qBX (h₀:=X.base) I2.ok.mod.kin hkp (wpAny_mono pa (fun us s3 ⟨vs,H2,I4,rv,hl1,hsame2⟩=>⟨I4.kIn,?_⟩) fun e s z=>False.elim z) hs hplain
  have z1:us.length=1:=by have:=rv.length;omega
  refine wpAny_call_exc_subT (h:=s3.heap) (g:=s3.gens) (d:=s3.drawn) (t:=s3.toks) (os:=s3.os) qBr (TL.keeps I4.bk) (I4.bk _ _ hC) (hN2.keeps I4.bk) hni (fun h' e2 hx2=>?_) (by show us.length≤sizeLine;rw[z1];decide)
  refine wpAny_bind (wpAny_standAt (wpAny_pure ?_))
  obtain⟨t,et,_⟩:=hx2.there
  obtain⟨p1,p2,_,_,_⟩:=I4.pin (ea,oe) (qAP _ qAe)
  obtain⟨vs0,d0,v0⟩:=co
  have ne:ea≠e2:=fun z=>by rw[z,hx2.new] at p1;cases p1
  refine wpAny_bind ?_
  have li:(σ.set i (some (V.ref ea)))[i]? = some (some (.ref ea)):=by
   have:i<σ.length:=by
    have h1:=I2.len
    rw[List.length_set] at h1
    rw[h1]
    exact(qAi.mp hi).1
   rw[qBg this]
  obtain⟨m4,hn4,hl4⟩:=I4.loc
  obtain⟨u,ru,lu⟩:=hl4 i n (.ref ea) hi li hvs
  have eu:u=.ref ea:=ru
  subst eu
  have mu:m4 n=some (.ref ea):=by
   rcases lu with⟨_,hm⟩|⟨hk,_⟩
   ·exact hm
   ·rcases hk with hk|hk<;>(have hk:X.env.kindOf n=_:=hk;rw[hkl] at hk;cases hk)
  refine wpAny_Name (wpAny_loadName_local (s:={ s3 with heap:=h' }) I4.ok.kind hkl (hn4.keeps hx2.keeps) mu ?_) hd3
  refine wpAny_bind (wpAny_standAt (wpAny_pure ?_))
  obtain⟨cls9⟩:=xoe
  refine⟨e2,_,_,_,oe,vs0,rfl,rfl,et,rfl,rfl,rfl,(by show 4<6;decide),I4.kIn.keeps hx2.keeps,hx2.keeps _ _ (I4.bk _ _ hC),rfl,ne,hx2.keeps _ _ p1,cls9,d0,v0,?_⟩
  have I8:Inv (DI X ea oe) pins (σ.set i (some (.ref ea))) H2 s3:=⟨⟨I4.ok.mod,I4.ok.kind,I4.ok.glob,I4.ok.blt,I4.ok.above,I4.ok.inj,I4.ok.has,I4.ok.cab,I4.ok.hd,I4.ok.frames,I4.ok.stk,I4.ok.exf,I4.ok.bs,I4.ok.bsz,I4.ok.noex,I4.ok.exfs,I4.ok.funs,I4.ok.frf,I4.ok.tb⟩,I4.os,I4.bare,I4.base,I4.loc,I4.cell,I4.free,I4.freeC,I4.pin,I4.hok,I4.len⟩
  have kp2:∀(g:Heap)(i:Nat)(x:Value) b o,s3.heap.get? b=some o→g.get? b=some o→(g.update e2 (Obj.mapFields fun y=>y.setIfInBounds i x)).get? b=some o:=fun g i x b o e e'=>by
   have:b≠e2:=fun z=>by rw[z,hx2.new] at e;cases e
   rw[qAU _ _ _ _ this]
   exact e'
  exact Jw (s:=s3) (a0:=.ref t) xo hst hf hkl I8 (DD I.ok.hd I.ok.frames I8) hsame2 hm2 hu (fun b o e=>kp2 _ _ _ b o e (kp2 _ _ _ b o e (kp2 _ _ _ b o e (hx2.keeps b o e)))) hx2.new (qAK _ (qAK _ (qAK _ et rfl) rfl) rfl) rfl rfl rfl rfl
 case h =>
  have rn:Rep X.nox B τ σ ⟨H,z⟩:=⟨r.len,r.ext,r.val,r.own,r.sep,r.top,r.pin⟩
  refine⟨B,_,τ,_,rn,ht,fun ss vs H1 e1 i1 h1=>⟨H1.z,ss,_,_,e1.sub,i1,h1,fun s v H2 e2 i2 f2 h2=>?_,fun y C H2 e2 hy hu=>⟨y,hy,hu,e1.hh.trans e2⟩⟩⟩
  exact ct.rt s v H2 (r.ext.trans (e1.trans e2)) i2 (EB r.ext (EB e1 f2)) h2
 case nx =>
  exact⟨y,σ,H1,I1.unwish,r1,q1⟩
end
section
variable {P:Program}{w:World}{K:PySem.W.Frag}{mg:Str→Option Value}{base:Heap}
theorem QH {x qual:Str}{st:Stmt}{f:Addr}{fd:FuncData}{N ps:List Str}{k:Nat}{sp:Sp3}(F:Fun K x qual st f fd) (Sc:Ah N ps (Ab st)) (len:∀ss R U,sp ss R U→ss.length=ps.length)
 (hbody:∀(cdv:Value)(A:Around)(outer:List Env)(s:Shared)(H:Hp)(E:XK)(ss:List S)(R:S→Prop)(U:Str→Prop),Dr k (A.deeper (envOfC qual (Ab st) s.heap.objs.size f cdv))→sp ss R U →
  Mz (EK (CXU P w) P w K mg base N qual (Ab st) f cdv A outer s H E) U→XlC (EK (CXU P w) P w K mg base N qual (Ab st) f cdv A outer s H E) U→XrF (EK (CXU P w) P w K mg base N qual (Ab st) f cdv A outer s H E) U →
  ∃t,DJ (EK (CXU P w) P w K mg base N qual (Ab st) f cdv A outer s H E) (Bf st) t∧t { nx:=fun _=>R (.d .non),rt:=R } (Cq N ss)):AS P w K mg base (CXU P w) (k+1) f fd ps (Ak K mg sp):=by
 obtain⟨oc,od,kV,doc,pm,an,cdv,ct,osl,rfl,lk,hcd⟩:=F.ex
 refine Kq lk hcd Sc (fun vs H Q E hh=>by obtain⟨z,ss,R,U,hz,ha,h3,_⟩:=hh;exact ha.1.trans (len ss R U h3)) fun A outer s H vs Q E hr hh9=>?_
 obtain⟨z,ss,R,U,hz,ha,h3,q,qe⟩:=hh9
 obtain⟨t,ht,hq⟩:=hbody cdv A outer s H E ss R U hr h3 (Jd qe) (M8 qe) (Nq qe)
 exact⟨_,ht.out,⟨H,z⟩,z,Cq N ss,_,Dc ha hz (AH.refl H),hq,⟨fun τ σ p r h=>q (.d .non) _ p r.ext Is.non Ce h,fun _ _ _ _ z=>z.elim,fun _ _ _ _ z=>z.elim,fun s v p e i f h=>q s v p e i f h⟩⟩
end
end L3
namespace L3
open PySem PySem.Spec PyProof.Rows L2 PySem.Builtin PySem.Builtin.Str
section
variable {X:Cx}{k x y z:Str}{j j1 j2 j3:Nat}{pc px ap p3 p4 cp pos:Pos}
theorem JJ (hN:X.N[j]? = some x)(hv:Vis X.env.scope x)(hyz:(y==z)=false)(hzl:z.length≤10)(hkl:k.length≤10)(hd:(x==("__debug__":Str))=false:=by decide)(hcd:(x==("__classdict__":Str))=false:=by decide)
 (hbase:attributeBase (.Name x px) "replace" X.env (eval (.Name x px) X.env)=eval (.Name x px) X.env:=by rfl)
 (hfew:((backTo cp (starEach [.Constant (.str y) j2 p3,.Constant (.str z) j3 p4] X.env)).all (fun x=>!x.1)&&(backToKw cp (keywordEach [] X.env)).all (fun x=>x.1.isSome)&&decide ([Expr.Constant (.str y) j2 p3,.Constant (.str z) j3 p4].length+([]:List Keyword).length+(if ([]:List Keyword).isEmpty then 0 else 1)<30))=true:=by rfl)
 (hline:(ap.endLine==cp.line)=true:=by rfl) :
 PE X (.BinOp (.Constant (.str k) j1 pc) .Add (.Call (.Attribute (.Name x px) "replace" ap) [.Constant (.str y) j2 p3,.Constant (.str z) j3 p4] [] cp) pos)
  (fun σ H Q=>∃w,σ[j]? = some (some (.str w))∧w.length≤1000∧(Txt.replace w y z).length≤20000∧Q (.str (k++Txt.replace w y z)) H):=by
 intro pins s σ H Q I h
 obtain⟨w,hw,hl,hr,q⟩:=h
 refine wpAny_BinOp (Calls.Constant_str ?_)
 have I3:=I.tok (s.toks+1)
 obtain⟨m,hn,hlk⟩:=I3.loc
 obtain⟨u,r,l⟩:=hlk j x (.str w) hN hw hv
 obtain⟨tw,rfl⟩:=r
 have call:∀(s3:Shared),s3={ s with toks:=s.toks+1 }→MethodOn X.prog X.w X.A "replace" cp (.str w tw) (backTo cp (starEach [.Constant (.str y) j2 p3,.Constant (.str z) j3 p4] X.env)) (fun r s'=>wpAny (model X.prog X.w) X.A (binaryOp .Add (.str k s.toks) r) (EP X pins σ Q) X.xe s') X.xe s3:=fun s3 e=>by
  subst e
  refine⟨"str","str.replace",qA4,PySem.F.slot_str_replace,PySem.F.type_str_replace,typeIs_str _ _ _,(fun _ e=>nomatch e),?_⟩
  refine Calls.callWith_builtin rfl (Calls.evalArgs_plain ?_)
  refine Calls.spliced_cons (Calls.Constant_str (k:=j2) (pos:=p3) (Calls.spliced_cons (Calls.Constant_str (k:=j3) (pos:=p4) (Calls.spliced_nil ?_))))
  refine PySem.SC.replace (Nat.succ_ne_zero _) (Nat.succ_ne_zero _) (qAu (qB4 _)) hyz ?_ fun t' k'=>?_
  ·have h1:(w.length+1)*z.length≤(w.length+1)*10:=Nat.mul_le_mul_left _ hzl
   omega
  ·refine ES pins _ σ H (.str k) (.str _) _ _ Q (I.tok _) ⟨_,rfl⟩ ⟨_,rfl⟩ ⟨_,_,rfl,rfl,?_,q⟩
   have:(20010:Nat)≤sizeLine:=∅
   omega
 refine wpAny_Call_method_late hbase hfew hline rfl ?_
 rcases l with⟨hk,hmm⟩|⟨hk,cc,hc,hcell⟩
 ·exact wpAny_Name (wpAny_loadName_local I3.ok.kind hk hn hmm (call _ rfl)) hd
 ·rcases hk with hk|hk
  ·exact wpAny_Name (wpAny_loadName_cell I3.ok.kind hk hc hcell (call _ rfl)) hd
  ·exact wpAny_Name (wpAny_loadName_free I3.ok.kind hk hc hcell (call _ rfl) hcd) hd
def IW (k:Str)(j:Nat)(y z:Str):TE3:=fun τ R=>match τ[j]? with
 |some (some (.d (.str w)))=>w.length≤1000∧(Txt.replace w y z).length≤20000∧R (.d (.str (k++Txt.replace w y z)))
 |_=>False
theorem JQ {e:Expr}(h:PE X e (fun σ H Q=>∃w,σ[j]? = some (some (.str w))∧w.length≤1000∧(Txt.replace w y z).length≤20000∧Q (.str (k++Txt.replace w y z)) H)):PE3 X e (IW k j y z):=⟨Ax h fun σ H Q hh=>by
 obtain⟨B,zz,τ,R,r,ht,c⟩:=hh
 unfold IW at ht
 split at ht
 ·rename_i w hw
  obtain⟨v',hv1,hv2⟩:=r.val j _ hw
  cases Is.str_inv hv2
  exact⟨w,hv1,ht.1,ht.2.1,c (.d _) _ ⟨H,zz⟩ (Ext.refl r.ext.sub) (Is.str _) Ce ht.2.2⟩
 ·exact ht.elim⟩
end
end L3
namespace CL
open PySem L2 L3 CH
def F2:D→Bool
 |.ty _=>false
 |.ref _=>false
 |_=>true
def isT:D→Bool
 |.str _=>true
 |_=>false
theorem OL (l:List Nat):((mkS l).length:Int)=(l.length:Int):=by rw[mkS_len]
theorem Pc (c:Nat):(!inS ⟨#[c]⟩ (Str.ofString "0123456789"))=decide (¬(48≤c∧c≤57)):=by
 rw[Mw,Il]
 by_cases h:48≤c∧c≤57
 ·rw[decide_eq_false (not_not_intro h),decide_eq_true]
  ·rfl
  ·have:c=48∨c=49∨c=50∨c=51∨c=52∨c=53∨c=54∨c=55∨c=56∨c=57:=()
   rcases this with rfl|rfl|rfl|rfl|rfl|rfl|rfl|rfl|rfl|rfl<;>decide
 ·rw[decide_eq_true h,decide_eq_false]
  ·rfl
  ·intro z
   simp only[qAg,qB6,or_false] at z
   omega
theorem Cb {cs:Cs}{i:Nat}(h:i<cs.length):tt cs i=cs[i].1∧vv cs i=cs[i].2:=by
 unfold tt vv
 rw[qAB,qAb h]
 exact⟨rfl,rfl⟩
structure QS (q:Rat):Prop where
 n0:0≤q.num
 z:Sz 199 q
theorem QS.sz {q:Rat}(h:QS q):Sz 1000 q:=h.z.mono ∅
theorem QS.rd {q:Rat}(h:QS q):rdR (DT q.num.toNat q.den)=some (q.num.toNat,q.den):=by
 have b:(2:Nat)^199<10^60:=by decide +kernel
 obtain⟨h0,h1,h2⟩:=h
 refine PZ h0 ?_ (qAJ h2 b)
 have:q.num.natAbs<10^60:=qAJ h1 b
 omega
theorem QS.len {q:Rat}(h:QS q):(DT q.num.toNat q.den).length≤121:=by
 have b:(2:Nat)^199<10^60:=by decide +kernel
 obtain⟨h0,h1,h2⟩:=h
 have e:q.num.toNat=q.num.natAbs:=()
 have l1:=DB (m:=q.num.toNat) (k:=60) ∅ (by rw[e];exact qAJ h1 b)
 have l2:=DB (m:=q.den) (k:=60) ∅ (qAJ h2 b)
 unfold DT
 split
 ·omega
 ·rw[qAd,qAl]
  omega
def shq (q:Rat):List Nat:=DT q.num.toNat q.den
def shc (a b:Rat):List Nat:=shq a++58::shq b
def shm (m:Rat):List Nat:=43::shq m
def wds (cs:Cs)(m:Rat):List (List Nat):=(cs.map fun c=>shc c.1 c.2)++[shm m]
def shC (cs:Cs)(m:Rat):List Nat:=joinC 32 (wds cs m)
theorem BU (q:Rat){c:Nat}(h:c<47∨57<c):c∉shq q:=by
 unfold shq DT
 intro z
 split at z
 ·exact Ep _ () z
 ·rcases qAq.mp z with z|z
  ·exact Ep _ () z
  ·rcases qAg.mp z with z|z
   ·omega
   ·exact Ep _ () z
theorem Ls (a b:Rat):32∉shc a b:=by
 unfold shc
 intro z
 rcases qAq.mp z with z|z
 ·exact BU _ ∅ z
 ·rcases qAg.mp z with z|z
  ·exact absurd z ∅
  ·exact BU _ ∅ z
theorem Lw (m:Rat):32∉shm m:=by
 unfold shm
 intro z
 rcases qAg.mp z with z|z
 ·exact absurd z ∅
 ·exact BU _ ∅ z
theorem Nv (cs:Cs)(m:Rat):∀p∈wds cs m,32∉p:=by
 intro p hp
 unfold wds at hp
 rcases qAq.mp hp with z|z
 ·obtain⟨c,_,rfl⟩:=qA9.mp z
  exact Ls _ _
 ·have:p=shm m:=by simpa using z
  subst this
  exact Lw _
theorem Gw (cs:Cs)(m:Rat):(wds cs m).length=cs.length+1:=by unfold wds;simp
theorem IH (cs:Cs)(m:Rat):cutAt 32 (shC cs m)=wds cs m:=EX (fun z=>by have:=Gw cs m;rw[z] at this;simp at this) (Nv cs m)
theorem QS.of {q:Rat}(h:0≤q) (z:Sz 150 q):QS q:=⟨by have:=qCn.mpr h;exact this,z.mono ∅⟩
theorem Er {cs:Cs}(o:Ord cs):∀i,i<cs.length→0≤tt cs i∧0≤vv cs i
 |0,h=>by rw[o.t0];exact⟨Rat.le_refl,o.v0⟩
 |i+1,h=>by
  have ih:=Er o i ()
  exact⟨Rat.le_trans ih.1 (qCs (o.up i h)),Rat.le_trans ih.2 (o.vu i h)⟩
theorem Jb {a b:Rat}(ha:QS a) (hb:QS b):(shc a b).length≤243:=by
 unfold shc shq
 have:=ha.len
 have:=hb.len
 rw[qAd,qAl]
 omega
theorem IT {a:Rat}(ha:QS a):(shm a).length≤122:=by
 unfold shm shq
 have:=ha.len
 rw[qAl]
 omega
theorem Js {l:List (List Nat)}{b:Nat}(h:∀p∈l,p.length≤b):(l.map (·.length)).sum≤l.length*b:=by
 induction l with
 |nil=>simp
 |cons p r ih =>
  have h1:=h p (qAe ..)
  have h2:=ih fun p hp=>h p (qAc _ hp)
  simp only[qA1,qBF,qAl,Nat.succ_mul]
  omega
theorem K4 {cs:Cs}{c:Rat×Rat}(h:c∈cs):∃i,i<cs.length∧c.1=tt cs i∧c.2=vv cs i:=by
 obtain⟨i,hi,e⟩:=List.mem_iff_getElem.mp h
 exact⟨i,hi,by rw[(Cb hi).1,e],by rw[(Cb hi).2,e]⟩
theorem NR {cs:Cs}{m:Rat}(h:∀i,i+1<cs.length→slp cs m i≠slp cs m (i+1)):∀n,n<cs.length→kp cs m n=cs.take (n+1)
 |0,hn=>by
  cases cs with
  |nil=>cases hn
  |cons c r=>rfl
 |n+1,hn=>by
  rw[Mi (h n hn),NR h n (),qA0 (i:=n+1),qAb hn,(Cb hn).1,(Cb hn).2]
  rfl
theorem Gv:Str.ofString ":"=⟨#[58]⟩:=by decide +kernel
theorem BW:Str.ofString " "=⟨#[32]⟩:=by decide +kernel
theorem Gb:Str.ofString "+"=⟨#[43]⟩:=by decide +kernel
theorem KQ (q:Rat):sh q=mkS (shq q):=rfl
theorem Gs:(Str.ofString ":").length=1∧(Str.ofString "+").length=1:=by rw[Gv,Gb];exact⟨rfl,rfl⟩
theorem QS.ln {q:Rat}(h:QS q):(sh q).length≤121:=by rw[KQ,mkS_len];exact h.len
theorem NJ (a b:Rat):sh a++Str.ofString ":" ++ sh b=mkS (shc a b):=by rw[Gv,KQ,KQ,C7,Au,Au,qAI];rfl
theorem L6 (m:Rat):Str.ofString "+" ++ sh m=mkS (shm m):=by rw[Gb,KQ,C7,Au];rfl
theorem NO {α:Type}{f:α→D}{xs:List α}(h:1<xs.length):A3 (xs.map f) none (some (-1))=xs.dropLast.map f:=by
 have e:HT.sIx (xs.map f).length (xs.map f).length (some (-1))=xs.length-1:=by
  unfold HT.sIx
  rw[qAa]
  simp
  omega
 unfold A3
 rw[e]
 show((xs.map f).drop 0).take (xs.length-1-0)=_
 rw[qBB,Nat.sub_zero,List.dropLast_eq_take,List.map_take]
theorem IB {xs:List D}{x:D}:atI (xs++[x]) (-1)=some x:=by
 unfold atI ixN
 rw[if_neg ∅,qAd,qBl,if_pos ()]
 show(xs++[x])[_]? = _
 rw[show((-1:Int)+((xs.length+1:Nat):Int)).toNat=xs.length from ()]
 simp
theorem Ge {a b:Nat}(hb:0<b):(qd (Rat.divInt a b)=.tup [.int (a:Int),.int (b:Int)]) ↔ Nat.gcd a b=1:=by
 have hp:=Dj (a:=(a:Int)) (b:=(b:Int)) ()
 have e:cm (a:Int) (b:Int)=g a b:=if_neg ()
 have eg:g (a:Int) (b:Int)=((Nat.gcd a b:Nat):Int):=rfl
 have gp:0<Nat.gcd a b:=Nat.gcd_pos_of_pos_right a hb
 rw[e,eg] at hp
 unfold qd
 constructor
 ·intro h
  have h2:(((Rat.divInt a b).den:Nat):Int)=(b:Int):=by
   injection h with h
   injection h with _ h
   injection h with h _
   injection h
  rw[←hp.2,qBq _ ()] at h2
  have d:=Nat.gcd_dvd_right a b
  obtain⟨m,hm⟩:=d
  have h3:(b:Int)/((Nat.gcd a b:Nat):Int)=(m:Int):=by
   have:(b:Int)=((Nat.gcd a b:Nat):Int)*(m:Int):=by exact_mod_cast hm
   rw[this,Int.mul_ediv_cancel_left _ ()]
  rw[h3] at h2
  have hmb:m=b:=()
  rw[hmb] at hm
  exact Nat.eq_of_mul_eq_mul_right hb (by rw[←hm];omega)
 ·intro h
  rw[h] at hp
  rw[←hp.1,←hp.2]
  simp
theorem Im {α:Type}{f:α→D}{xs:List α}{h:Nat}(hh:h≤xs.length):A3 (xs.map f) none (some (h:Int))=(xs.take h).map f:=by
 unfold A3
 rw[HT.sIx_nat,qAa,qCb hh]
 show((xs.map f).drop 0).take (h-0)=_
 rw[qBB,Nat.sub_zero,List.map_take]
theorem Hx {α:Type}{f:α→D}{xs:List α}{h:Nat}(hh:h≤xs.length):A3 (xs.map f) (some (h:Int)) none=(xs.drop h).map f:=by
 unfold A3
 rw[HT.sIx_nat,qAa,qCb hh]
 show((xs.map f).drop h).take (xs.length-h)=_
 rw[←List.map_drop,qBj (by rw[qAa,qAv];exact qAj _)]
theorem MO:∀(l:List Nat)(acc:Nat),(∀c∈l,c≤57)→l.foldl (fun acc c=>acc*10+(c-48)) acc<(acc+1)*10^l.length
 |[],acc,_=>by simp
 |c::r,acc,h=>by
  have h1:=h c (qAe ..)
  have ih:=MO r (acc*10+(c-48)) fun d hd=>h d (qAc _ hd)
  rw[List.foldl_cons,qAl,qCq]
  refine qAk ih ?_
  have h2:acc*10+(c-48)+1≤(acc+1)*10:=()
  calc (acc*10+(c-48)+1)*10^r.length≤(acc+1)*10*10^r.length:=qBp _ h2
   _=(acc+1)*(10^r.length*10):=by rw[Nat.mul_assoc,Nat.mul_comm 10]
theorem HW {l:List Nat}{n:Nat}(h:fig l=some n):n<10^60:=by
 unfold fig at h
 split at h
 ·rename_i c
  cases h
  have:=MO l 0 fun d hd=>(c.2.2.1 d hd).2
  rw[Nat.zero_add,Nat.one_mul] at this
  exact qAk this (qBP ∅ c.2.1)
 ·cases h
def Ff (z:List Nat):List (List Nat)→List Nat
 |[]=>[]
 |[x]=>x
 |x::y::r=>x++z++Ff z (y::r)
theorem G5 (z:List Nat):∀ls:List (List Nat),Str.join (mkS z) (ls.map mkS)=mkS (Ff z ls)
 |[]=>rfl
 |[x]=>rfl
 |x::y::r=>by
  have:=G5 z (y::r)
  show mkS x++mkS z++Str.join (mkS z) ((y::r).map mkS)=_
  rw[this,Au,Au,Ff]
def rdQ (l:List Nat):Option Rat:=(rdR l).map fun p=>Rat.divInt (p.1:Int) (p.2:Int)
def rdC (l:List Nat):Option (Rat×Rat):=match cutAt 58 l with
 |[p,q]=>match rdQ p,rdQ q with
  |some a,some b=>some (a,b)
  |_,_=>none
 |_=>none
def rdL (l:List Nat):Option Rat:=match l with
 |[]=>none
 |c::r=>if c=43 then rdQ r else none
theorem Le {l:List Nat}{a b:Nat}(h:rdR l=some (a,b)):0<b∧Nat.gcd a b=1∧a<10^60∧b<10^60:=by
 unfold rdR at h
 split at h
 ·rename_i p _
  cases e:fig p with
  |none=>rw[e] at h;cases h
  |some n =>
   rw[e] at h
   cases h
   exact⟨∅,Nat.gcd_one_right _,HW e,∅⟩
 ·split at h
  ·rename_i e1 e2
   split at h
   ·rename_i c
    cases h
    exact⟨(),c.2,HW e1,HW e2⟩
   ·cases h
  ·cases h
 ·cases h
theorem Mb {ss:List S}{R:S→Prop}{U:Str→Prop}{l:List Nat}(e:ss=[.d (.str (mkS l))]) (b:l.length≤100000) (a:∀c∈l,c<128) (r:∀q0,rdQ l=some q0→R (.d (qd q0))) (u:rdQ l=none→U "NoText"):∃x:D,ss=[.d x]∧F2 x=true∧(isT x=false→U "NoText")∧(∀l,x=.str (mkS l)→l.length≤100000∧(∀c∈l,c<128)∧(∀a b:Nat,rdR l=some (a,b)→R (.d (.tup [.int a,.int b])))∧(rdR l=none→U "NoText")):=by
 refine⟨_,e,rfl,fun z=>(by cases z),fun l' el=>?_⟩
 have e':l=l':=Gp (D.str.inj el)
 subst e'
 refine⟨b,a,fun x y hxy=>?_,fun z=>u (by unfold rdQ;rw[z];rfl)⟩
 have ok:=Le hxy
 rw[←(Ge ok.1).mpr ok.2.1]
 exact r _ (by unfold rdQ;rw[hxy];rfl)
theorem Iy {l:List Nat}{q:Rat}(h:rdQ l=some q):Sz 200 q:=by
 unfold rdQ at h
 cases e:rdR l with
 |none=>rw[e] at h;cases h
 |some p =>
  rw[e] at h
  cases h
  obtain⟨h1,_,h3,h4⟩:=Le (show rdR l=some (p.1,p.2) from e)
  have b:(10:Nat)^60<2^200:=by decide +kernel
  exact GI () (by rw[qA7];omega) (by rw[qA7];omega)
theorem Oq {l:List Nat}{a b:Rat}(h:rdC l=some (a,b)):Sz 200 a∧Sz 200 b:=by
 unfold rdC at h
 split at h
 ·split at h
  ·rename_i e1 e2
   cases h
   exact⟨Iy e1,Iy e2⟩
  ·cases h
 ·cases h
theorem OH {l:List Nat}{m:Rat}(h:rdL l=some m):Sz 200 m:=by
 cases l with
 |nil=>cases h
 |cons d r =>
  have h:(if d=43 then rdQ r else none)=some m:=h
  split at h
  ·exact Iy h
  ·cases h
theorem IF (ws:List (List Nat))(w:List Nat):A3 ((ws++[w]).map fun p=>D.str (mkS p)) none (some (-1))=ws.map fun p=>D.str (mkS p):=by
 by_cases c:ws=[]
 ·subst c;rfl
 ·rw[NO (by rw[qAd,qBl];have:=List.length_pos_iff.mpr c;omega),List.dropLast_concat]
theorem HY {q:Rat}(h:QS q):rdQ (shq q)=some q:=by
 unfold rdQ shq
 rw[h.rd]
 have e:((q.num.toNat:Nat):Int)=q.num:=by have:=h.n0;omega
 show some (Rat.divInt ((q.num.toNat:Nat):Int) (q.den:Int))=some q
 rw[e,qBZ]
theorem Ld {a b:Rat}(ha:QS a) (hb:QS b):rdC (shc a b)=some (a,b):=by
 have ec:cutAt 58 (shc a b)=[shq a,shq b]:=by
  unfold shc
  rw[BO (BU a ∅),cut_no (BU b ∅)]
 unfold rdC
 rw[ec]
 simp only
 rw[HY ha,HY hb]
theorem GO {m:Rat}(h:QS m):rdL (shm m)=some m:=by
 show(if (43:Nat)=43 then rdQ (shq m) else none)=_
 rw[if_pos rfl,HY h]
theorem EU (c:Nat):∀(l:List Nat){d:Nat},d∈l→d≠c→∃p∈cutAt c l,d∈p
 |[],_,h,_=>by cases h
 |x::r,d,h,n=>by
  obtain⟨p,ps,e⟩:=Bn c r
  rw[cutAt]
  rcases qAg.mp h with z|z
  ·subst z
   rw[if_neg n,e]
   exact⟨_,qAe,qAe⟩
  ·obtain⟨q,h1,h2⟩:=EU c r z n
   split
   ·exact⟨q,qAc _ h1,h2⟩
   ·rw[e] at h1 ⊢
    rcases qAg.mp h1 with y|y
    ·exact⟨_,qAe,qAc _ (y ▸ h2)⟩
    ·exact⟨q,qAc _ y,h2⟩
theorem Lc (c:Nat):∀l:List Nat,(cutAt c l).length≤l.length+1
 |[]=>by simp[cutAt]
 |d::r=>by
  have ih:=Lc c r
  obtain⟨p,ps,e⟩:=Bn c r
  rw[cutAt]
  split
  ·simp only[qAl];omega
  ·rw[e] at ih ⊢
   simp only[qAl] at ih ⊢
   omega
theorem H8 {l:List Nat}{c:Nat}(h:c∈l) (h1:¬(48≤c∧c≤57)) (h2:c≠47):rdQ l=none:=by
 obtain⟨p,hp,hc⟩:=EU 47 l h h2
 have f:=Jk hc h1
 have:rdR l=none:=by
  unfold rdR
  split
  ·rename_i p' e
   rw[e] at hp
   rw[←qAx.mp hp,f]
   rfl
  ·rename_i p' q' e
   rw[e] at hp
   rcases qAg.mp hp with z|z
   ·subst z
    rw[f]
   ·rw[←qAx.mp z,f]
    cases fig p'<;>rfl
  ·rfl
 unfold rdQ
 rw[this]
 rfl
theorem ET {l p:List Nat}(h:p∈cutAt 58 l) (n:rdQ p=none):rdC l=none:=by
 unfold rdC
 split
 ·rename_i a b e
  rw[e] at h
  rcases qAg.mp h with z|z
  ·subst z
   rw[n]
  ·rw[←qAx.mp z,n]
   cases rdQ a<;>rfl
 ·rfl
theorem Mn {l:List Nat}{c:Nat}(h:c∈l) (h1:¬(48≤c∧c≤57)) (h2:c≠47) (h3:c≠58):rdC l=none:=by
 obtain⟨p,hp,hc⟩:=EU 58 l h h3
 exact ET hp (H8 hc h1 h2)
theorem LB {l:List Nat}(h:58∉l):rdC l=none:=by
 unfold rdC
 rw[cut_no h]
theorem IP {l:List Nat}{c:Nat}(h:c∈l) (h1:¬(48≤c∧c≤57)) (h2:c≠47) (h3:c≠43):rdL l=none:=by
 cases l with
 |nil=>rfl
 |cons d r =>
  show(if d=43 then rdQ r else none)=none
  split
  ·rename_i e
   rcases qAg.mp h with z|z
   ·exact absurd (z.trans e) h3
   ·exact H8 z h1 h2
  ·rfl
def TL (l:List Nat):Prop:=l.length≤90000∧∀c∈l,c<128
def LD (l:List Nat):Prop:=TL l∧∃ws w,cutAt 32 l=ws++[w]∧((∃p∈ws,rdC p=none)∨rdL w=none∨∃(cs:Cs)(m:Rat),ws.map rdC=cs.map some∧rdL w=some m∧¬(Ord cs∧0≤m))
def Bad (x:D):Prop:=F2 x=true∧∀l,x=.str (mkS l)→LD l
theorem Bad.text {l:List Nat}(h:LD l):Bad (.str (mkS l)):=⟨rfl,fun l' e=>by
 have:=Gp (D.str.inj e)
 subst this
 exact h⟩
theorem Bad.other {x:D}(h:F2 x=true) (n:isT x=false):Bad x:=⟨h,fun l e=>by subst e;cases n⟩
theorem LD.no {l:List Nat}(h:LD l){ws:List (List Nat)}{w:List Nat}{cs:Cs}{m:Rat}(e:cutAt 32 l=ws++[w]) (h1:ws.map rdC=cs.map some) (h2:rdL w=some m):¬(Ord cs∧0≤m):=by
 obtain⟨_,ws',w',e',h⟩:=h
 rw[e] at e'
 obtain⟨rfl,e2⟩:=List.append_inj' e' rfl
 have e2:w=w':=(List.cons.inj e2).1
 subst e2
 rcases h with⟨p,hp,hn⟩|hn|⟨cs',m',h3,h4,h5⟩
 ·exfalso
  have:rdC p∈ws.map rdC:=qA9.mpr ⟨p,hp,rfl⟩
  rw[h1,hn] at this
  obtain⟨c,_,hc⟩:=qA9.mp this
  cases hc
 ·rw[hn] at h2;cases h2
 ·rw[h1] at h3
  rw[h2] at h4
  cases h4
  have:cs=cs':=by
   have:=congrArg (List.filterMap id) h3
   simpa using this
  subst this
  exact h5
structure WO (p:List Nat):Prop where
 len:p.length≤600
 asc:∀c∈p,c<128
 bl:32∉p
theorem G9 {ws:List (List Nat)}{w:List Nat}(o:∀p∈ws++[w],WO p) (ln:ws.length≤100) (h:(∃p∈ws,rdC p=none)∨rdL w=none∨∃(cs:Cs)(m:Rat),ws.map rdC=cs.map some∧rdL w=some m∧¬(Ord cs∧0≤m)):LD (joinC 32 (ws++[w])):=by
 refine⟨⟨?_,fun c hc=>?_⟩,ws,w,EX (by simp) fun p hp=>(o p hp).bl,h⟩
 ·have a:=join_len (c:=32) (ws++[w])
  have b:=Js (l:=ws++[w]) (b:=600) fun p hp=>(o p hp).len
  have e:(ws++[w]).length=ws.length+1:=by simp
  rw[e] at a b
  have:(ws.length+1)*600≤101*600:=qBp _ ()
  omega
 ·rcases DU hc with z|⟨p,hp,hd⟩
  ·omega
  ·exact(o p hp).asc c hd
theorem Kw {l:List Nat}{c:Nat}(t:TL l) (h:c∈l) (h1:¬(48≤c∧c≤57)) (h2:c≠47∧c≠58∧c≠43∧c≠32):LD l:=by
 obtain⟨p,hp,hc⟩:=EU 32 l h h2.2.2.2
 obtain⟨a,as,e⟩:=Bn 32 l
 obtain⟨ws,w,e2⟩:∃ws w,cutAt 32 l=ws++[w]:=⟨_,_,(qBm (by rw[e];simp)).symm⟩
 refine⟨t,ws,w,e2,?_⟩
 rw[e2] at hp
 rcases qAq.mp hp with z|z
 ·exact .inl ⟨p,z,Mn hc h1 h2.1 h2.2.1⟩
 ·have:=qAx.mp z
  subst this
  exact .inr (.inl (IP hc h1 h2.1 h2.2.2.1))
structure CQ (cs:Cs)(m:Rat):Prop where
 q:∀{i:Nat},i<cs.length→QS (tt cs i)∧QS (vv cs i)
 qm:QS m
 len:cs.length≤61
theorem CQ.mem {cs:Cs}{m:Rat}(h:CQ cs m){c:Rat×Rat}(hc:c∈cs):QS c.1∧QS c.2:=by
 obtain⟨i,hi,e1,e2⟩:=K4 hc
 rw[e1,e2]
 exact h.q hi
theorem CQ.of {cs:Cs}{m:Rat}(h:∀c∈cs,QS c.1∧QS c.2) (hm:QS m) (l:cs.length≤61):CQ cs m:=⟨fun {i} hi=>by
 rw[(Cb hi).1,(Cb hi).2]
 exact h _ (qA3 hi),hm,l⟩
theorem Nk {a b:Rat}(ha:QS a) (hb:QS b):WO (shc a b):=⟨qAr (Jb ha hb) ∅,fun c hc=>by
 unfold shc shq at hc
 rcases qAq.mp hc with z|z
 ·exact Ef c z
 ·rcases qAg.mp z with z|z
  ·omega
  ·exact Ef c z,Ls a b⟩
theorem FI {a:Rat}(ha:QS a):WO (shm a):=⟨qAr (IT ha) ∅,fun c hc=>by
 unfold shm shq at hc
 rcases qAg.mp hc with z|z
 ·omega
 ·exact Ef c z,Lw a⟩
theorem CQ.wo {cs:Cs}{m:Rat}(h:CQ cs m):∀p∈wds cs m,WO p:=fun p hp=>by
 unfold wds at hp
 rcases qAq.mp hp with z|z
 ·obtain⟨c,hc,rfl⟩:=qA9.mp z
  exact Nk (h.mem hc).1 (h.mem hc).2
 ·rw[qAx.mp z]
  exact FI h.qm
theorem CQ.wl {cs:Cs}{m:Rat}(h:CQ cs m):∀p∈wds cs m,p.length≤243:=fun p hp=>by
 unfold wds at hp
 rcases qAq.mp hp with z|z
 ·obtain⟨c,hc,rfl⟩:=qA9.mp z
  exact Jb (h.mem hc).1 (h.mem hc).2
 ·rw[qAx.mp z]
  exact qAr (IT h.qm) ∅
theorem CQ.wds {cs:Cs}{m:Rat}(h:CQ cs m):((CL.wds cs m).map (·.length)).sum+(CL.wds cs m).length≤50000:=by
 have:=Js (l:=CL.wds cs m) (b:=600) fun p hp=>(h.wo p hp).len
 have l:=Gw cs m
 have hl:=h.len
 have e:(cs.length+1)*600≤62*600:=qBp _ ()
 rw[l] at this ⊢
 omega
theorem CQ.rd {cs:Cs}{m:Rat}(h:CQ cs m):(cs.map fun c=>shc c.1 c.2).map rdC=cs.map some:=by
 rw[qA8]
 exact qBu fun c hc=>Ld (h.mem hc).1 (h.mem hc).2
theorem CQ.bad {cs:Cs}{m:Rat}(h:CQ cs m) (n:¬Ord cs):LD (shC cs m):=by
 refine G9 (w:=shm m) h.wo (by rw[qAa];have:=h.len;omega) (.inr (.inr ⟨cs,m,h.rd,GO h.qm,fun z=>n z.1⟩))
theorem LY {a:Rat}(h:0≤a.num):qd (a+1)=.tup [.int (a.num+a.den),.int a.den]:=by
 obtain⟨n,hn⟩:=qAM h
 have d0:(a.den:Int)≠0:=by have:=a.den_pos;omega
 have e:a+1=Rat.divInt ((n+a.den:Nat):Int) (a.den:Int):=by
  have h:=qBZ a
  have d1:((a.den:Int):Rat)≠0:=fun z=>d0 (qCc.mp z)
  rw[hn] at h
  rw[qAS] at h ⊢
  rw[Int.natCast_add,qB9]
  grind
 have c:Nat.gcd (n+a.den) a.den=1:=by
  have r:=a.reduced
  rw[hn,qA7] at r
  rw[Nat.gcd_add_self_left]
  exact r
 rw[e,(Ge a.den_pos).mpr c,hn,Int.natCast_add]
theorem mid {A B:Cs}{x y:Rat×Rat}:tt (A++x::y::B) A.length=x.1∧vv (A++x::y::B) A.length=x.2∧tt (A++x::y::B) (A.length+1)=y.1∧vv (A++x::y::B) (A.length+1)=y.2:=by
 unfold tt vv
 simp only[qAB]
 rw[qAy (qAj _),qAy (qCj _),Nat.sub_self,show A.length+1-A.length=1 from ()]
 exact⟨rfl,rfl,rfl,rfl⟩
theorem Jt {A B:Cs}{x y:Rat×Rat}(h:¬(x.1<y.1∧x.2≤y.2)):¬Ord (A++x::y::B):=fun o=>h (by
 have l:A.length+1<(A++x::y::B).length:=by rw[qAd];simp only[qAl];omega
 have a:=o.up A.length l
 have b:=o.vu A.length l
 obtain⟨e1,e2,e3,e4⟩:=mid (A:=A) (B:=B) (x:=x) (y:=y)
 rw[e1,e3] at a
 rw[e2,e4] at b
 exact⟨a,b⟩)
theorem QS.more {q:Rat}(h:0≤q) (z:Sz 150 q):QS (q+1):=⟨qCn.mpr ⋯,(z.add (show Sz 1 1 from ⟨∅,∅⟩)).mono ∅⟩
theorem Gh (cs:Cs)(m:Rat):Bx 4 (crv cs m)=true:=by
 have h:(cs.map cd).all (Bx 2)=true:=by
  rw[qAs]
  intro x hx
  obtain⟨c,_,rfl⟩:=qA9.mp hx
  rfl
 show((cs.map cd).all (Bx 2)&&(Bx 3 (qd m)&&true))=true
 rw[h]
 rfl
theorem Hl (c:Nat):∀(l:List Nat),∀p∈cutAt c l,c∉p
 |[],p,h=>by
  have:p=[]:=by simpa [cutAt] using h
  subst this
  simp
 |d::r,p,h=>by
  have ih:=Hl c r
  obtain⟨a,ps,e⟩:=Bn c r
  rw[cutAt,e] at h
  rw[e] at ih
  split at h
  ·rcases qAg.mp h with h|h
   ·subst h;simp
   ·exact ih p h
  ·rename_i n
   rcases qAg.mp h with h|h
   ·subst h
    intro z
    rcases qAg.mp z with z|z
    ·exact n z.symm
    ·exact ih a qAe z
   ·exact ih p (qAc _ h)
theorem D4:∀(ps:List (List Nat)){c:Nat},c∈Ff [] ps→∃p∈ps,c∈p
 |[],_,h=>by cases h
 |[x],_,h=>⟨x,qAe,h⟩
 |x::y::r,c,h=>by
  rw[Ff] at h
  rcases qAq.mp h with z|z
  ·rcases qAq.mp z with z|z
   ·exact⟨x,qAe,z⟩
   ·cases z
  ·obtain⟨p,h1,h2⟩:=D4 (y::r) z
   exact⟨p,qAc _ h1,h2⟩
theorem GQ:∀(ps:List (List Nat)),(Ff [] ps).length≤(ps.map (·.length)).sum
 |[]=>qBd _
 |[x]=>by simp[Ff]
 |x::y::r=>by
  have:=GQ (y::r)
  rw[Ff]
  simp only[qAd,qBS,qA1,qBF] at this ⊢
  omega
theorem GV (c:Nat):∀l:List Nat,((cutAt c l).map (·.length)).sum+(cutAt c l).length≤l.length+1
 |[]=>by simp[cutAt]
 |d::r=>by
  have ih:=GV c r
  obtain⟨p,ps,e⟩:=Bn c r
  rw[cutAt]
  rw[e] at ih ⊢
  split
  ·simp only[qA1,qBF,qAl,qBS] at ih ⊢
   omega
  ·simp only[qA1,qBF,qAl] at ih ⊢
   omega
theorem NL (l:List Nat):∃l',Txt.replace (mkS l) (Str.ofString ":") (Str.ofString "")=mkS l'∧58∉l'∧(∀c∈l',c∈l)∧l'.length≤l.length+1:=by
 have e0:Str.ofString ""=mkS []:=by decide +kernel
 rw[e0,Gv]
 unfold Txt.replace
 split
 ·rename_i h
  rw[occ_is,mkS_list] at h
  refine⟨l,rfl,?_,fun c h=>h,qCj _⟩
  rcases Bool.or_eq_true _ _ |>.mp h with h|h
  ·exact pos_nil (List.isEmpty_iff.mp h)
  ·exact absurd h ∅
 ·refine⟨Ff [] (cutAt 58 l),?_,fun z=>?_,fun c hc=>?_,?_⟩
  ·rw[occ_is,show(⟨#[58]⟩:Str).length=1 from rfl,parts_cut,mkS_list,StrLaws.glued_eq_join,G5]
  ·obtain⟨p,h1,h2⟩:=D4 _ z
   exact Hl 58 l p h1 h2
  ·obtain⟨p,h1,h2⟩:=D4 _ hc
   exact(D8 58 l p h1).2 c h2
  ·have a:=GQ (cutAt 58 l)
   have b:=GV 58 l
   omega
theorem Na (m:Rat):58∉shm m:=fun z=>by
 unfold shm at z
 rcases qAg.mp z with z|z
 ·exact absurd z ∅
 ·exact BU m ∅ z
theorem FK {m:Rat}(h:QS m):WO (shq m):=by
 have a:=FI h
 exact⟨by have:=a.len;unfold shm at this;rw[qAl] at this;omega,fun c hc=>a.asc c (qAc _ hc),fun z=>a.bl (qAc _ z)⟩
theorem Mh (m:Rat):rdL (shq m)=none:=by
 have h:=BU m (c:=43) ∅
 cases e:shq m with
 |nil=>rfl
 |cons d r =>
  rw[e] at h
  show(if d=43 then rdQ r else none)=none
  rw[if_neg fun z=>h (by rw[z];exact qAe)]
theorem Hq {a b x y:List Nat}(ha:58∉a) (hx:58∉x) (h:a++58::b=x++58::y):x=a∧y=b:=by
 have e:=congrArg (cutAt 58) h
 rw[BO ha,BO hx] at e
 have e1:=(List.cons.inj e).1
 subst e1
 exact⟨rfl,((List.cons.inj (List.append_cancel_left h)).2).symm⟩
theorem Lp {a b:List Nat}(ha:WO a) (hb:WO b) (l:a.length+b.length+1≤600):WO (a++58::b):=by
 refine⟨by rw[qAd,qAl];omega,fun c hc=>?_,fun z=>?_⟩
 ·rcases qAq.mp hc with z|z
  ·exact ha.asc c z
  ·rcases qAg.mp z with z|z
   ·omega
   ·exact hb.asc c z
 ·rcases qAq.mp z with z|z
  ·exact ha.bl z
  ·rcases qAg.mp z with z|z
   ·omega
   ·exact hb.bl z
theorem MG {cs:Cs}{m:Rat}{j:Nat}(h:j<cs.length) (hl:j<(wds cs m).length):(wds cs m)[j]=shc (tt cs j) (vv cs j):=by
 have e:(wds cs m)[j]? = some (shc (tt cs j) (vv cs j)):=by
  unfold wds
  rw[qAC (by rw[qAa];exact h),qAo,qAb h,(Cb h).1,(Cb h).2]
  rfl
 rw[qAb hl] at e
 exact qAn e
theorem MB {cs:Cs}{m:Rat}{j:Nat}(h:j=cs.length) (hl:j<(wds cs m).length):(wds cs m)[j]=shm m:=by
 have e:(wds cs m)[j]? = some (shm m):=by
  unfold wds
  rw[h,qAy (by rw[qAa];exact qAj _),qAa,Nat.sub_self]
  rfl
 rw[qAb hl] at e
 exact qAn e
structure OD (o:List Nat):Prop where
 wo:WO o
 len:o.length+1≤600
 l100:o.length≤100
 co:58∉o
 rd:rdQ o=none
theorem OD.plus {o:List Nat}(h:OD o):WO (43::o):=by
 refine⟨by rw[qAl];exact h.len,fun c hc=>(qAg.mp hc).elim (fun z=>()) (h.wo.asc c),fun z=>(qAg.mp z).elim (fun y=>()) h.wo.bl⟩
theorem DE {o:List Nat}(h:(o.all fun c=>decide (c<128∧c≠32∧c≠58))=true) (l:o.length≤100) (r:rdR o=none):OD o:=by
 have h:∀c∈o,c<128∧c≠32∧c≠58:=fun c hc=>of_decide_eq_true (qAs.mp h c hc)
 exact⟨⟨(),fun c hc=>(h c hc).1,fun z=>(h _ z).2.1 rfl⟩,(),l,fun z=>(h _ z).2.2 rfl,by unfold rdQ;rw[r];rfl⟩
theorem Oh:OD (num (10^60)):=by
 have no:=fun {c:Nat}(h:c<48∨57<c)=>Ep (10^60) h
 have hd:=D7 (10^60)
 have lg:=DB (m:=10^60) (k:=61) ∅ (by decide +kernel)
 have f:fig (num (10^60))=none:=Gx (.inr (Nat.lt_of_not_le fun z=>by
  have:=MO (num (10^60)) 0 fun d hd'=>(hd d hd').2
  rw[Nat.zero_add,Nat.one_mul] at this
  have e:(num (10^60)).foldl (fun acc c=>acc*10+(c-48)) 0=10^60:=H4 (10^60)
  rw[e] at this
  exact absurd (qAk this (qBP ∅ z)) (qAF _)))
 refine⟨⟨(),fun c hc=>by have:=hd c hc;omega,no ∅⟩,(),(),no ∅,?_⟩
 unfold rdQ rdR
 rw[cut_no (no ∅)]
 simp only
 rw[f]
 rfl
theorem NP {T:Str}(hT:T=mkS (num (10^60))){i:Int}(h0:0≤i) (h1:i<14):∃o,atI ([D.str (Str.ofString "2/4"),.str (Str.ofString "6/3"),.str (Str.ofString "5/1"),.str (Str.ofString "0/2"),.str (Str.ofString "00"),.str (Str.ofString "07"),.str (Str.ofString "3/06"),.str (Str.ofString "3/0"),.str (Str.ofString ""),.str (Str.ofString "/2"),.str (Str.ofString "3/")]++[.str T,.str (Str.ofString "+3"),.str (Str.ofString "+0")]) i=some (.str (mkS o))∧OD o:=by
 obtain⟨k,rfl⟩:=qAM h0
 have hk:k<14:=()
 match k,hk with
 |0,_=>exact⟨[50,47,52],by show some (D.str (Str.ofString "2/4"))=_;rw[show Str.ofString "2/4"=mkS [50,47,52] by decide +kernel],DE (by decide +kernel) ∅ (by decide +kernel)⟩
 |1,_=>exact⟨[54,47,51],by show some (D.str (Str.ofString "6/3"))=_;rw[show Str.ofString "6/3"=mkS [54,47,51] by decide +kernel],DE (by decide +kernel) ∅ (by decide +kernel)⟩
 |2,_=>exact⟨[53,47,49],by show some (D.str (Str.ofString "5/1"))=_;rw[show Str.ofString "5/1"=mkS [53,47,49] by decide +kernel],DE (by decide +kernel) ∅ (by decide +kernel)⟩
 |3,_=>exact⟨[48,47,50],by show some (D.str (Str.ofString "0/2"))=_;rw[show Str.ofString "0/2"=mkS [48,47,50] by decide +kernel],DE (by decide +kernel) ∅ (by decide +kernel)⟩
 |4,_=>exact⟨[48,48],by show some (D.str (Str.ofString "00"))=_;rw[show Str.ofString "00"=mkS [48,48] by decide +kernel],DE (by decide +kernel) ∅ (by decide +kernel)⟩
 |5,_=>exact⟨[48,55],by show some (D.str (Str.ofString "07"))=_;rw[show Str.ofString "07"=mkS [48,55] by decide +kernel],DE (by decide +kernel) ∅ (by decide +kernel)⟩
 |6,_=>exact⟨[51,47,48,54],by show some (D.str (Str.ofString "3/06"))=_;rw[show Str.ofString "3/06"=mkS [51,47,48,54] by decide +kernel],DE (by decide +kernel) ∅ (by decide +kernel)⟩
 |7,_=>exact⟨[51,47,48],by show some (D.str (Str.ofString "3/0"))=_;rw[show Str.ofString "3/0"=mkS [51,47,48] by decide +kernel],DE (by decide +kernel) ∅ (by decide +kernel)⟩
 |8,_=>exact⟨[],by show some (D.str (Str.ofString ""))=_;rw[show Str.ofString ""=mkS [] by decide +kernel],DE (by decide +kernel) ∅ (by decide +kernel)⟩
 |9,_=>exact⟨[47,50],by show some (D.str (Str.ofString "/2"))=_;rw[show Str.ofString "/2"=mkS [47,50] by decide +kernel],DE (by decide +kernel) ∅ (by decide +kernel)⟩
 |10,_=>exact⟨[51,47],by show some (D.str (Str.ofString "3/"))=_;rw[show Str.ofString "3/"=mkS [51,47] by decide +kernel],DE (by decide +kernel) ∅ (by decide +kernel)⟩
 |11,_=>exact⟨num (10^60),by show some (D.str T)=_;rw[hT],Oh⟩
 |12,_=>exact⟨[43,51],by show some (D.str (Str.ofString "+3"))=_;rw[show Str.ofString "+3"=mkS [43,51] by decide +kernel],DE (by decide +kernel) ∅ (by decide +kernel)⟩
 |13,_=>exact⟨[43,48],by show some (D.str (Str.ofString "+0"))=_;rw[show Str.ofString "+0"=mkS [43,48] by decide +kernel],DE (by decide +kernel) ∅ (by decide +kernel)⟩
 |k+14,h=>omega
theorem Jg {A B:List (List Nat)}{p:List Nat}(o:∀q∈A++p::B,WO q) (ln:(A++p::B).length≤100) (hB:B≠[]) (h:rdC p=none):LD (joinC 32 (A++p::B)):=by
 have e:A++p::B=(A++p::B.dropLast)++[B.getLast hB]:=by
  rw[qAI,qBG,qBm hB]
 rw[e] at o ln ⊢
 exact G9 o (by rw[qAd] at ln;omega) (.inl ⟨p,qAp _ qAe,h⟩)
theorem J5 (a b d:List Nat)(ha:58∉a)(hb:58∉b):rdC (a++58::b++58::d)=none:=by
 obtain⟨p,ps,e⟩:=Bn 58 d
 have:cutAt 58 (a++58::b++58::d)=a::b::p::ps:=by
  rw[qAI,qBG,BO ha,BO hb,e]
 unfold rdC
 rw[this]
theorem Nw {sm:Str}{i:Int}(h0:0≤i) (h1:i<(sm.length:Int)) (ha:(sm.cps.toList.all fun c=>decide (c<128∧¬(48≤c∧c≤57)∧c≠47∧c≠58∧c≠43∧c≠32))=true):∃c,atI sm.cps.toList i=some c∧c<128∧¬(48≤c∧c≤57)∧c≠47∧c≠58∧c≠43∧c≠32:=by
 obtain⟨k,rfl⟩:=qAM h0
 have hn:sm.cps.toList.length=sm.length:=Array.length_toList
 have hk:k<sm.cps.toList.length:=by rw[hn];omega
 exact⟨sm.cps.toList[k],Cz (qAb hk),of_decide_eq_true (qAs.mp ha _ (qA3 hk))⟩
structure DC (cs:Cs)(m:Rat):Prop where
 o:Ord cs
 m0:0≤m
 z:SzC 150 cs
 zm:Sz 150 m
 len:cs.length≤4
 bend:∀i,i+1<cs.length→slp cs m i≠slp cs m (i+1)
theorem MJ {r g lo hi va at_:Int}(l0:0<lo) (h0:0<hi):Rat.divInt (va+r*g) hi-Rat.divInt va hi=Rat.divInt (r*lo) hi*(Rat.divInt (at_+g) lo-Rat.divInt at_ lo):=by
 have l1:(lo:Rat)≠0:=fun z=>by have:=qCc.mp (show(lo:Rat)=((0:Int):Rat) from z);omega
 have h1:(hi:Rat)≠0:=fun z=>by have:=qCc.mp (show(hi:Rat)=((0:Int):Rat) from z);omega
 simp only[qAS,qB9,qAT]
 grind
def Rs (lo hi:Int)(cs:Cs):Prop:=∀k,k+1<cs.length→∃r:Int,13*k+1≤r∧r≤13*k+12∧vv cs (k+1)-vv cs k=Rat.divInt (r*lo) hi*(tt cs (k+1)-tt cs k)
theorem Rs.snoc {lo hi r:Int}{cs:Cs}{c:Rat×Rat}(h:Rs lo hi cs) (n:0<cs.length) (r0:13*((cs.length-1:Nat):Int)+1≤r) (r1:r≤13*((cs.length-1:Nat):Int)+12) (e:c.2-vv cs (cs.length-1)=Rat.divInt (r*lo) hi*(c.1-tt cs (cs.length-1))):Rs lo hi (cs++[c]):=fun k hk=>by
 rw[Dh] at hk
 by_cases z:k+1<cs.length
 ·obtain⟨r',h1,h2,h3⟩:=h k z
  exact⟨r',h1,h2,by rw[K1 z,Lf z,K1 (),Lf ()];exact h3⟩
 ·have:k+1=cs.length:=()
  have e0:k=cs.length-1:=()
  exact⟨r,(),(),by rw[this,OQ,OR,K1 (),Lf (),e0];exact e⟩
theorem Rs.bend {lo hi:Int}{cs:Cs}{m:Rat}(h:Rs lo hi cs) (o:Ord cs) (l0:0<lo) (h0:0<hi) (n:cs.length≤4) (hm:m=0∨∃M:Int,100≤M∧m=Rat.divInt (M*lo) hi):∀i,i+1<cs.length→slp cs m i≠slp cs m (i+1):=fun i hi'=>by
 obtain⟨r,h1,h2,h3⟩:=h i hi'
 have e1:slp cs m i=Rat.divInt (r*lo) hi:=by
  rw[Ig hi']
  exact K6 h3 (by have:=o.up i hi';grind)
 have lt:∀r':Int,r<r'→Rat.divInt (r*lo) hi<Rat.divInt (r'*lo) hi:=fun r' hr=>Cg h0 (Int.mul_lt_mul_of_pos_right hr l0)
 by_cases z:i+1+1<cs.length
 ·obtain⟨r',g1,g2,g3⟩:=h (i+1) z
  have e2:slp cs m (i+1)=Rat.divInt (r'*lo) hi:=by
   rw[Ig z]
   exact K6 g3 (by have:=o.up (i+1) z;grind)
  rw[e1,e2]
  have:=lt r' ()
  grind
 ·rw[e1,JD z]
  rcases hm with rfl|⟨M,hM,rfl⟩
  ·have:=Cg h0 (show(0:Int)<r*lo from Int.mul_pos () l0)
   rw[qCd] at this
   grind
  ·have:=lt M ()
   grind
theorem DC.q {cs:Cs}{m:Rat}(h:DC cs m){i:Nat}(hi:i<cs.length):QS (tt cs i)∧QS (vv cs i) :=
 ⟨QS.of (Er h.o i hi).1 (h.z i hi).1,QS.of (Er h.o i hi).2 (h.z i hi).2⟩
theorem DC.mem {cs:Cs}{m:Rat}(h:DC cs m){c:Rat×Rat}(hc:c∈cs):QS c.1∧QS c.2∧0≤c.1∧Sz 150 c.1∧0≤c.2∧Sz 150 c.2:=by
 obtain⟨i,hi,e1,e2⟩:=K4 hc
 rw[e1,e2]
 exact⟨(h.q hi).1,(h.q hi).2,(Er h.o i hi).1,(h.z i hi).1,(Er h.o i hi).2,(h.z i hi).2⟩
theorem DC.cq {cs:Cs}{m:Rat}(h:DC cs m):CQ cs m:=⟨fun hi=>h.q hi,QS.of h.m0 h.zm,by have:=h.len;omega⟩
inductive Eg (ss:List S)(R:S→Prop)(U_:Str→Prop):Prop
 |mk (a:Int)(_:ss=[.d (.int a)])(_:R (.d (.bl true)))
inductive EM (ss:List S)(R:S→Prop)(U_:Str→Prop):Prop
 |mk (a b:Int)(_:ss=[.d (.int a),.d (.int b)])(_:R (.d (.int (g a b))))
inductive G4 (ss:List S)(R:S→Prop)(U_:Str→Prop):Prop
 |mk (a b:Int)(_:ss=[.d (.int a),.d (.int b)])(_:b≠0)(_:a.natAbs<2^13000)(_:b.natAbs<2^13000)(_:R (.d (qd (Rat.divInt a b))))
inductive G6 (ss:List S)(R:S→Prop)(U_:Str→Prop):Prop
 |mk (p q:Rat)(k l:Nat)(_:ss=[.d (qd p),.d (qd q)])(_:Sz k p)(_:Sz l q)(_:k+l+1≤13000)(_:R (.d (qd (p-q))))
inductive JB (ss:List S)(R:S→Prop)(U_:Str→Prop):Prop
 |mk (p q:Rat)(k l:Nat)(_:ss=[.d (qd p),.d (qd q)])(_:Sz k p)(_:Sz l q)(_:k+l≤13000)(_:q≠0)(_:R (.d (qd (p/q))))
inductive GK (ss:List S)(R:S→Prop)(U_:Str→Prop):Prop
 |mk (p q:Rat)(k l:Nat)(_:ss=[.d (qd p),.d (qd q)])(_:Sz k p)(_:Sz l q)(_:k+l≤30000)(_:R (.d (.bl (decide (p<q)))))
inductive Hi (ss:List S)(R:S→Prop)(U:Str→Prop):Prop
 |mk (x:S)(cs:Cs)(m:Rat)(_:ss=[x,.d (qd m)])(_:(x=.r (cs.map cd)∨False))(_:SzK 2000 cs m)(_:(Ord cs∧0≤m→R (.d (crv (kp cs m (cs.length-1)) m))))(_:(¬(Ord cs∧0≤m)→U "NoCurve"))
inductive CT (ss:List S)(R:S→Prop)(U:Str→Prop):Prop
 |mk (x:S)(cs:Cs)(_:ss=[x])(_:(x=.r (cs.map cd)∨False))(_:cs.length≤100000)(_:SzC 2000 cs)(_:(Bgn cs→R (.d .non)))(_:(¬Bgn cs→U "NoCurve"))
inductive Dt (ss:List S)(R:S→Prop)(U:Str→Prop):Prop
 |mk (x:S)(cs:Cs)(_:ss=[x])(_:(x=.r (cs.map cd)∨False))(_:0<cs.length)(_:cs.length≤100000)(_:SzC 2000 cs)(_:(Ris cs cs.length→R (.d .non)))(_:(¬Ris cs cs.length→U "NoCurve"))
inductive B9 (ss:List S)(R:S→Prop)(U_:Str→Prop):Prop
 |mk (a b c d:Rat)(n:Nat)(_:ss=[.d (.tup [qd a,qd b]),.d (.tup [qd c,qd d])])(_:n≤3200)(_:Sz n a)(_:Sz n b)(_:Sz n c)(_:Sz n d)(_:c-a≠0)(_:R (.d (qd ((d-b)/(c-a)))))
inductive Ca (ss:List S)(R:S→Prop)(U_:Str→Prop):Prop
 |mk (x:S)(cs:Cs)(m:Rat)(_:ss=[x,.d (qd m)])(_:(x=.r (cs.map cd)∨False))(_:0<cs.length)(_:cs.length≤100000)(_:SzC 3200 cs)(_:Up cs)(_:R (.l ((K0 cs m).map qd)))
inductive Df (ss:List S)(R:S→Prop)(U:Str→Prop):Prop
 |mk (l:List Nat)(_:ss=[.d (.str (mkS l))])(_:l.length≤100000)(_:(∀c∈l,c<128))(_:(∀q0,rdQ l=some q0→R (.d (qd q0))))(_:(rdQ l=none→U "NoText"))
inductive Dq (ss:List S)(R:S→Prop)(U:Str→Prop):Prop
 |mk (x:D)(_:ss=[.d x])(_:F2 x=true)(_:(isT x=true→R (.d .non)))(_:(isT x=false→U "NoText"))
inductive Ck (ss:List S)(R:S→Prop)(U:Str→Prop):Prop
 |mk (l:List Nat)(_:ss=[.d (.str (mkS l))])(_:l.length≤100000)(_:(∀c∈l,c<128))(_:(∀n,fig l=some n→R (.d (.int n))))(_:(fig l=none→U "NoText"))
inductive De (ss:List S)(R:S→Prop)(U:Str→Prop):Prop
 |mk (x:D)(_:ss=[.d x])(_:F2 x=true)(_:(isT x=false→U "NoText"))(_:∀l,x=.str (mkS l)→TL l∧∀ws w,cutAt 32 l=ws++[w]→((∃p∈ws,rdC p=none)→U "NoText")∧(rdL w=none→U "NoText")∧∀(cs:Cs)(m:Rat),ws.map rdC=cs.map some→rdL w=some m→(Ord cs∧0≤m→R (.d (crv (kp cs m (cs.length-1)) m)))∧(¬(Ord cs∧0≤m)→U "NoText"))
inductive CW (ss:List S)(R:S→Prop)(U:Str→Prop):Prop
 |mk (l:List Nat)(_:ss=[.d (.str (mkS l))])(_:l.length≤100000)(_:(∀c∈l,c<128))(_:(∀a b,rdC l=some (a,b)→R (.d (.tup [qd a,qd b]))))(_:(rdC l=none→U "NoText"))
inductive DK (ss:List S)(R:S→Prop)(U:Str→Prop):Prop
 |mk (l:List Nat)(_:ss=[.d (.str (mkS l))])(_:l.length≤100000)(_:(∀c∈l,c<128))(_:(∀m,rdL l=some m→R (.d (qd m))))(_:(rdL l=none→U "NoText"))
inductive CA (ss:List S)(R:S→Prop)(U_:Str→Prop):Prop
 |mk (ns:List Int)(k:Int)(_:ss=[.r (ns.map D.int),.d (.int k)])(_:0≤k)(_:k≤1000)(_:(∀c:Int,R (.d (.int c))))
inductive CZ (ss:List S)(R:S→Prop)(U_:Str→Prop):Prop
 |mk (a b:Int)(_:ss=[.d (.int a),.d (.int b)])(_:0<b)(_:a.natAbs<2^13000)(_:b.natAbs<2^13000)(_:R (.d (qd (Rat.divInt a b))))
inductive C9 (ss:List S)(R:S→Prop)(U_:Str→Prop):Prop
 |mk (q0:Rat)(_:ss=[.d (qd q0)])(_:0≤q0.num)(_:Sz 1000 q0)(_:R (.d (.str (sh q0))))
inductive Bc (ss:List S)(R:S→Prop)(U_:Str→Prop):Prop
 |mk (x:S)(cs:Cs)(m:Rat)(_:ss=[x,.d (qd m)])(_:(x=.r (cs.map cd)∨x=.d (.lst (cs.map cd))))(_:CQ cs m)(_:R (.d (.str (mkS (shC cs m)))))
inductive B8 (ss:List S)(R:S→Prop)(U_:Str→Prop):Prop
 |mk (ns:List Int)(_:ss=[.r (ns.map D.int)])(_:∀(cs:Cs)(m:Rat),DC cs m→R (.d (.tup [.lst (cs.map cd),qd m])))
inductive DM (ss:List S)(R:S→Prop)(U_:Str→Prop):Prop
 |mk (a:Rat)(_:ss=[.d (qd a)])(_:0≤a.num)(_:R (.d (qd (a+1))))
inductive AZ (ss:List S)(R:S→Prop)(U_:Str→Prop):Prop
 |mk (cs:Cs)(m:Rat)(w p:Int)(_:ss=[.d (.lst (cs.map cd)),.d (.int w),.d (.int p)])(_:DC cs m)(_:∀cs2:Cs,CQ cs2 m→¬Ord cs2→R (.l (cs2.map cd)))
inductive Bl (ss:List S)(R:S→Prop)(U_:Str→Prop):Prop
 |mk (cs:Cs)(m:Rat)(w p s:Int)(_:ss=[.d (.lst ((wds cs m).map fun z=>D.str (mkS z))),.d (.int w),.d (.int p),.d (.int s)])(_:DC cs m)(_:∀x:D,Bad x→R (.d x))
inductive Cr (ss:List S)(R:S→Prop)(U_:Str→Prop):Prop
 |mk (x:D)(_:ss=[.d x])(_:Bad x)(_:R (.d (.bl true)))
abbrev NZ:Sp3:=G7
section
variable {P:Program}{w:World}{K:PySem.W.Frag}{mg:Str→Option Value}{base:Heap}{f:Addr}{fd:FuncData}
variable {K_CurveError K_NoRatio K_NoCurve K_NoTime K_NoHouse K_NoWay K_NoText K_NoName K_NoEnd K_NoRow:Addr}
theorem Gz:Ah ["thing"] ["thing"] (Ab Dx):=scN
variable (Ae:mg "isinstance"=none)
variable (Gf:mg "int"=none)
variable (G0:mg "bool"=none)
include Ae Gf G0 in
theorem Gr (F:Fun K "is_whole" "is_whole" Dx f fd):AS P w K mg base CX0 1 f fd ["thing"] (Ak K mg Eg):=by
 refine fn3 F Gz (fun ss R U h=>?_) (fun cdv A outer s H E ss R U hr h=>?_)
 ·obtain⟨a,rfl,_⟩:=h;rfl
 obtain⟨a,rfl,q⟩:=h
 refine⟨_,(BV (Oz (Mx .int (vN 0) rfl Ae rfl Gf qCo) (Ox (PJ (Mx .bool (vN 0) rfl Ae rfl G0 PyProof.Rows.boot_bool))))),?_⟩
 refine⟨trivial,⟨trivial,?_⟩⟩
 exact q
variable (BR:Cal P w K mg base (CXU P w) 1 "is_whole" ["thing"] Eg)
theorem Bt:Ah ["one","other","great","small","rest"] ["one","other"] (Ab D9):=scN
variable (FW:mg "abs"=none)
include FW in
theorem HC (F:Fun K "divisor" "divisor" D9 f fd):AS P w K mg base CX0 1 f fd ["one","other"] (Ak K mg EM):=by
 refine fn3 F Bt (fun ss R U h=>?_) (fun cdv A outer s H E ss R U hr h=>?_)
 ·obtain⟨a,b,rfl,_⟩:=h;rfl
 obtain⟨a,b,rfl,q⟩:=h
 refine⟨_,(Aa (A8 2 Bt (B4 LL rfl FW qBJ (a1 (vN 0))))
  (Aa (A8 3 Bt (B4 LL rfl FW qBJ (a1 (vN 1))))
  (Aa (JC PassesOwn.never (B2 PV (vN 3) Ac) (Aa (A8 4 Bt (Ay Br (vN 2) (vN 3)))
  (Aa (A8 2 Bt (vN 3))
  (Aq (A8 3 Bt (vN 4))))))
  (Aq (LF (pv 2)))))),?_⟩
 refine⟨fun m τ=>∃x y z,τ=[I a,I b,I x,I y,z]∧0≤x∧0≤y∧g x y=g a b∧m=y.toNat,⟨_,_,_,_,rfl,?_,?_,OB a b,rfl⟩,?_⟩
 ·exact Ib a
 ·exact Ib b
 rintro m τ ⟨x,y,z,rfl,h1,h2,h3,rfl⟩
 refine NB (fun c=>?_) (fun c=>?_)
 ·refine⟨c,(x.fmod y).toNat,?_,_,_,_,rfl,h2,?_,?_,rfl⟩
  ·have:=qBx x (show 0<y from ())
   omega
  ·exact qBi x ()
  ·rw[←h3,qB1 x h2]
   exact K9 ()
 ·subst c
  rw[Nd h1] at h3
  subst h3
  exact q
variable (BC:Cal P w K mg base (CXU P w) 1 "divisor" ["one","other"] EM)
theorem E9:Ah ["top","bottom","common"] ["top","bottom"] (Ab Gm):=scN
include BR BC in
theorem KS (F:Fun K "ratio" "ratio" Gm f fd):AS P w K mg base CX0 2 f fd ["top","bottom"] (Ak K mg G4):=by
 refine fn3 F E9 (fun ss R U h=>?_) (fun cdv A outer s H E ss R U hr h=>?_)
 ·obtain⟨a,b,rfl,_⟩:=h;rfl
 obtain⟨a,b,rfl,hb,h1,h2,q⟩:=h
 refine⟨_,(LO (BZ (PW3.pt (JN (w_not (CI (BQ hr BR (a1 (vN 0))))) (HB (w_not (CI (BQ hr BR (a1 (vN 1)))))))) (Aq IJ) Am)
  (Aa (BZ (B2 DX (vN 1) Ac) (Aq IJ) Am)
  (Aa (A8 2 E9 (BQ hr BC (a2 (vN 0) (vN 1))))
  (Di (BZ (B2 MZ (vN 1) Ac) (Aq (A8 2 E9 (GA (vN 2)))) Am)
  (BV (BE (a2 (Ay Dg (vN 0) (vN 2)) (Ay Dg (vN 1) (vN 2))))))))),?_⟩
 have hp:=Dj (a:=a) hb
 have hc:=HK (a:=a) hb
 refine⟨⟨a,rfl,⟨b,rfl,rfl⟩⟩,?_⟩
 refine Cc (fun e=>absurd e hb) (fun _=>?_)
 refine⟨a,b,rfl,?_⟩
 refine⟨fun τ=>τ=[I a,I b,I (cm a b)],?_,?_⟩
 ·refine Cc (fun e=>?_) (fun e=>?_)
  ·have e':cm a b=-(g a b):=if_pos e
   rw[e']
   rfl
  ·have e':cm a b=g a b:=if_neg e
   rw[e']
   rfl
 rintro τ rfl
 refine⟨⟨hc,OS h1⟩,⟨hc,OS h2⟩,(by show 2≤1000;decide),?_⟩
 show R (.d (.tup [.int (a.fdiv (cm a b)),.int (b.fdiv (cm a b))]))
 rw[hp.1,hp.2]
 exact q
variable (C5:Cal P w K mg base (CXU P w) 2 "ratio" ["top","bottom"] G4)
theorem J7:Ah ["one","other"] ["one","other"] (Ab Gj):=scN
include C5 in
theorem Kj (F:Fun K "minus" "minus" Gj f fd):AS P w K mg base CX0 3 f fd ["one","other"] (Ak K mg G6):=by
 refine fn3 F J7 (fun ss R U h=>?_) (fun cdv A outer s H E ss R U hr h=>?_)
 ·obtain⟨p,q,k,l,rfl,_⟩:=h;rfl
 obtain⟨q1,q2,k,l,rfl,h1,h2,hk,q⟩:=h
 refine⟨_,(BV (BQ hr C5 (a2 (Ay JT (Ay Dw (vK 0) (vK 1)) (Ay Dw (vK 1) (vK 0))) (Ay Dw (vK 0) (vK 1))))),?_⟩
 have m1:=CD h1.1 (AL h2)
 have m2:=CD h2.1 (AL h1)
 have m3:=CD (AL h1) (AL h2)
 rw[qCr l k] at m2
 refine⟨Ew h1.1 (AL h2) (),Ew h2.1 (AL h1) (),Ew (AL h1) (AL h2) (),_,_,rfl,MT q1 q2,Bh (Lo m1 m2) (),Bh m3 (),?_⟩
 rw[GR q1 q2]
 exact q
variable (Ek:Cal P w K mg base (CXU P w) 3 "minus" ["one","other"] G6)
theorem LI:Ah ["one","other"] ["one","other"] (Ab Ip):=scN
include C5 in
theorem MF (F:Fun K "over" "over" Ip f fd):AS P w K mg base CX0 3 f fd ["one","other"] (Ak K mg JB):=by
 refine fn3 F LI (fun ss R U h=>?_) (fun cdv A outer s H E ss R U hr h=>?_)
 ·obtain⟨p,q,k,l,rfl,_⟩:=h;rfl
 obtain⟨q1,q2,k,l,rfl,h1,h2,hk,h0,q⟩:=h
 refine⟨_,(BV (BQ hr C5 (a2 (Ay Dw (vK 0) (vK 1)) (Ay Dw (vK 0) (vK 1))))),?_⟩
 refine⟨Ew h1.1 (AL h2) (),Ew (AL h1) h2.1 (),_,_,rfl,Sz.den_ne (k:=0) h0,Bh (CD h1.1 (AL h2)) (),Bh (CD (AL h1) h2.1) (),?_⟩
 rw[LX q1 q2 h0]
 exact q
variable (G1:Cal P w K mg base (CXU P w) 3 "over" ["one","other"] JB)
theorem JZ:Ah ["one","other"] ["one","other"] (Ab Gy):=scN
theorem Kt (F:Fun K "under" "under" Gy f fd):AS P w K mg base CX0 1 f fd ["one","other"] (Ak K mg GK):=by
 refine fn3 F JZ (fun ss R U h=>?_) (fun cdv A outer s H E ss R U hr h=>?_)
 ·obtain⟨p,q,k,l,rfl,_⟩:=h;rfl
 obtain⟨q1,q2,k,l,rfl,h1,h2,hk,q⟩:=h
 refine⟨_,(BV (NC MZ (Ay Dw (vK 0) (vK 1)) (Ay Dw (vK 1) (vK 0)) (IA _))),?_⟩
 refine⟨Ew h1.1 (AL h2) (),Ew h2.1 (AL h1) (),?_⟩
 have e:decide (q1.num*(q2.den:Int)<q2.num*(q1.den:Int))=decide (q1<q2):=decide_eq_decide.mpr (lt_iff q1 q2)
 show R (.d (.bl (decide (q1.num*(q2.den:Int)<q2.num*(q1.den:Int)))))
 rw[e]
 exact q
variable (Bw:Cal P w K mg base (CXU P w) 1 "under" ["one","other"] GK)
theorem Ez:Ah ["corners"] ["corners"] (Ab B1):=scN
variable (AF:mg "len"=none)
variable (gc_NOUGHT:GC K mg "NOUGHT" (.tup [(.int 0),(.int 1)]))
variable (ec_NoCurve:ExC K "NoCurve" K_NoCurve)
variable (m_NoCurve:mg "NoCurve"=some (.ref K_NoCurve))
include Bw AF gc_NOUGHT ec_NoCurve m_NoCurve in
theorem Ey (F:Fun K "check_begin" "check_begin" B1 f fd):AS P w K mg base (F8 P w) 2 f fd ["corners"] (Ak K mg CT):=by
 refine fnV F Ez (fun ss R U h=>?_) (fun cdv A outer s H E ss R U hr h xo=>?_)
 ·obtain⟨x,cs,rfl,_⟩:=h;rfl
 obtain⟨x,cs,rfl,hx,hl,hz,q,qu⟩:=h
 refine⟨_,(Aa (BZ (B2 DX (Du AF (vN 0)) Ac) (Aq (CK xo rfl Ao rfl ec_NoCurve m_NoCurve)) Am)
  (Aa (BZ (B2 (NA 1 (hu_ hr ∅)) (Cf (vK 0) Ac) (Ol rfl gc_NOUGHT)) (Aq (CK xo rfl Ao rfl ec_NoCurve m_NoCurve)) Am)
  (Aq (BZ (CI (BQ hr Bw (a2 (Cf (vK 0) Ac) (Ol rfl gc_NOUGHT)))) (Aq (CK xo rfl Ao rfl ec_NoCurve m_NoCurve)) Am)))),?_⟩
 rcases hx with rfl|hx
 ·refine Cc (fun c=>?_) (fun c=>?_)
  ·exact qu (fun z=>by have:=z.1;rw[qAa] at c;omega)
  have c0:0<cs.length:=by rw[qAa] at c;omega
  have a0:=CV (cs:=cs) (i:=0) 0 rfl c0
  have z0:=hz 0 c0
  refine atR a0 ?_
  refine⟨rfl,rfl,neT (tt cs 0) 0 (fun c=>qu (fun z=>c z.2.1)) (fun e0=>?_)⟩
  refine atR a0 ?_
  refine⟨_,0,_,_,rfl,z0.2,Sz.zero,∅,?_⟩
  refine Cc (fun c=>qu (fun z=>absurd c (qBT.mpr z.2.2))) (fun c=>?_)
  exact q ⟨c0,e0,qBT.mp c⟩
 exact hx.elim
variable (Bp:Cal P w K mg base (F8 P w) 2 "check_begin" ["corners"] CT)
theorem Bo:Ah ["corners","number","ahead","corner"] ["corners"] (Ab Cu):=scN
variable (A6:mg "range"=none)
include Bw AF ec_NoCurve m_NoCurve A6 in
theorem Fb (F:Fun K "check_rise" "check_rise" Cu f fd):AS P w K mg base (F8 P w) 2 f fd ["corners"] (Ak K mg Dt):=by
 refine fnV F Bo (fun ss R U h=>?_) (fun cdv A outer s H E ss R U hr h xo=>?_)
 ·obtain⟨x,cs,rfl,_⟩:=h;rfl
 obtain⟨x,cs,rfl,hx,c0,hl,hz,q,qu⟩:=h
 refine⟨_,(Aq (Lh (Hd PassesOwn.leaving rfl (Ec rfl A6 (PA3.out (a2 Ac (Du AF (vN 0))))) (EY (i:=1) Bo.nd rfl (Or.inl rfl)) (DJ.out (Aa (A8 2 Bo (Cf (vN 0) (Ay JT (vN 1) Ac)))
  (Aa (A8 3 Bo (Cf (vN 0) (vN 1)))
  (Aa (BZ (w_not (CI (BQ hr Bw (a2 (vK 2) (vK 3))))) (Aq (CK xo rfl Ao rfl ec_NoCurve m_NoCurve)) Am)
  (Aq (BZ (CI (BQ hr Bw (a2 (vK 3) (vK 2)))) (Aq (CK xo rfl Ao rfl ec_NoCurve m_NoCurve)) Am))))))))),?_⟩
 rcases hx with rfl|hx
 ·refine⟨⟨∅,∅,by rw[qAa];omega,by rw[qAa];omega⟩,?_⟩
  refine⟨fun n τ=>∃y0 y1 y2,τ=[some (.r (cs.map cd)),y0,y1,y2]∧Ris cs n,⟨_,_,_,rfl,fun k hk=>absurd hk (qCe k)⟩,?_,?_⟩
  ·rintro n τ hn ⟨y0,y1,y2,rfl,hr⟩
   rw[qAa] at hn
   have n1:n+1<cs.length:=()
   have z0:=hz n ()
   have z1:=hz (n+1) n1
   refine atR (CV (cs:=cs) n () ()) ?_
   refine atR (CV (cs:=cs) (n+1) () n1) ?_
   refine⟨_,_,_,_,rfl,z0.1,z1.1,∅,?_⟩
   refine NB (fun c=>qu (fun z=>c (z n () n1).1)) (fun lt=>?_)
   refine⟨_,_,_,_,rfl,z1.2,z0.2,∅,?_⟩
   refine Cc (fun c=>qu (fun z=>absurd c (qBT.mpr (z n () n1).2))) (fun c=>?_)
   refine⟨_,_,_,rfl,fun k hk k1=>?_⟩
   by_cases e:k<n
   ·exact hr k e k1
   ·have e':k=n:=()
    subst e'
    exact⟨lt,qBT.mp c⟩
  rintro τ ⟨y0,y1,y2,rfl,hr⟩
  rw[qAa,show((cs.length:Int)-1).toNat=cs.length-1 from ()] at hr
  exact q (fun k hk k1=>hr k () k1)
 exact hx.elim
variable (BG:Cal P w K mg base (F8 P w) 2 "check_rise" ["corners"] Dt)
theorem DP:Ah ["one","other"] ["one","other"] (Ab Bz):=scN
include Ek G1 in
theorem DO (F:Fun K "slope_between" "slope_between" Bz f fd):AS P w K mg base CX0 4 f fd ["one","other"] (Ak K mg B9):=by
 refine fn3 F DP (fun ss R U h=>?_) (fun cdv A outer s H E ss R U hr h=>?_)
 ·obtain⟨a,b,c,d,n,rfl,_⟩:=h;rfl
 obtain⟨a,b,c,d,n,rfl,hn,ha,hb,hc,hd,h0,q⟩:=h
 refine⟨_,(BV (BQ hr G1 (a2 (BQ hr Ek (a2 (vK 1) (vK 0))) (BQ hr Ek (a2 (vK 1) (vK 0)))))),?_⟩
 refine⟨d,b,n,n,rfl,hd,hb,(),?_⟩
 refine⟨c,a,n,n,rfl,hc,ha,(),?_⟩
 exact⟨d-b,c-a,_,_,rfl,hd.sub hb,hc.sub ha,(),h0,q⟩
variable (AW:Cal P w K mg base (CXU P w) 4 "slope_between" ["one","other"] B9)
theorem B7:Ah ["points","last","slopes"] ["points","last"] (Ab A0):=scN
include AF A6 AW in
theorem DN (F:Fun K "slopes_behind" "slopes_behind" A0 f fd):AS P w K mg base CX0 5 f fd ["points","last"] (Ak K mg Ca):=by
 refine fn3 F B7 (fun ss R U h=>?_) (fun cdv A outer s H E ss R U hr h=>?_)
 ·obtain⟨x,cs,m,rfl,_⟩:=h;rfl
 obtain⟨x,cs,m,rfl,hx,c0,hl,hz,up,q⟩:=h
 refine⟨_,(Aa (Jz (i:=2) (N:=["number","points"]) (idx:=[0]) (Bk.mk' (Ab A0) ["points","last","slopes"] rfl rfl (by decide +kernel)) rfl (Ec rfl A6 (PA3.out (a2 Ac (Du AF (vN 0))))) KL (fun cl C s₀ H₀ fp=>D0) (fun cl C s₀ H₀ fp=>(BQ hr AW (a2 (Cf (vN 1) (Ay JT (vN 0) Ac)) (Cf (vN 1) (vN 0))))) B7.nd rfl (Or.inl rfl))
  (Aa (MA (Fc (F9 qBD qBy qBz Cw (pv 2) (AM (PE3.out (vN 1)) BI))))
  (Aq (LF (pv 2))))),?_⟩
 rcases hx with rfl|hx
 ·refine⟨⟨∅,∅,by rw[qAa];omega,by rw[qAa];omega⟩,?_⟩
  have eN:((((cs.map cd).length:Nat):Int)-1).toNat=cs.length-1:=by rw[qAa];omega
  refine⟨(List.range (cs.length-1)).map fun i=>some (qd (slp cs m i)),by rw[Ds,eN,qAa,qBE],?_,?_,?_⟩
  ·intro n x hx
   obtain⟨hn,rfl⟩:=Iw hx
   rw[eN] at hn
   have n1:n+1<cs.length:=()
   have z0:=hz n ()
   have z1:=hz (n+1) n1
   refine atR (CV (cs:=cs) n () ()) ?_
   refine atR (CV (cs:=cs) (n+1) () n1) ?_
   refine⟨tt cs n,vv cs n,tt cs (n+1),vv cs (n+1),3200,rfl,∅,z0.1,z0.2,z1.1,z1.2,NH (up n n1),?_⟩
   show((List.range (cs.length-1)).map _)[n]? = _
   rw[qAo,qBV ()]
   show some (some (qd (slp cs m n)))=_
   rw[Ig n1]
  ·rw[Ds,eN];omega
  refine⟨?_,?_⟩
  ·have:=qB5 id ((List.range (cs.length-1)).map fun i=>some (qd (slp cs m i)))
   rw[qAa,qBE] at this
   omega
  show R (.l (_++[qd m]))
  rw[Kk cs m c0]
  exact q
 exact hx.elim
variable (AX:Cal P w K mg base (CXU P w) 5 "slopes_behind" ["points","last"] Ca)
theorem DZ:Ah ["corners","last","slopes","kept","number"] ["corners","last"] (Ab GH):=scN
variable (BK:mg "tuple"=none)
include Bw AF gc_NOUGHT ec_NoCurve m_NoCurve Bp A6 BG AX BK in
theorem Kp (F:Fun K "curve" "curve" GH f fd):AS P w K mg base (F8 P w) 6 f fd ["corners","last"] (Ak K mg Hi):=by
 refine fnV F DZ (fun ss R U h=>?_) (fun cdv A outer s H E ss R U hr h xo=>?_)
 ·obtain⟨x,cs,m,rfl,_⟩:=h;rfl
 obtain⟨x,cs,m,rfl,hx,hz,q,qu⟩:=h
 refine⟨_,(Aa (G3 (Nb xo hr Bp (a1 (vN 0))))
  (Aa (G3 (Nb xo hr BG (a1 (vN 0))))
  (Aa (BZ (CI (BQ hr Bw (a2 (vN 1) (Ol rfl gc_NOUGHT)))) (Aq (CK xo rfl Ao rfl ec_NoCurve m_NoCurve)) Am)
  (Aa (A8 2 DZ (BQ hr AX (a2 (vN 0) (vN 1))))
  (Aa (A8 3 DZ (CP (a1 (vK 0))))
  (Aa (Lh (Hd PassesOwn.leaving rfl (Ec rfl A6 (PA3.out (a2 Ac (Du AF (vN 0))))) (EY (i:=4) DZ.nd rfl (Or.inl rfl)) (DJ.out (Aq (BZ (B2 (NA 1 (hu_ hr ∅)) (Cf (vN 2) (vN 4)) (Cf (vN 2) (Ay JT (vN 4) Ac))) (Aq (MA (Fc (F9 qBD qBy qBz Cw (pv 3) (AM (PE3.out (Cf (vN 0) (vN 4))) BI))))) Am)))))
  (BV (BE (a2 (Gu (vN 3) rfl BK) (vN 1)))))))))),?_⟩
 rcases hx with rfl|hx
 ·have hl:=hz.len
  refine⟨_,cs,rfl,Or.inl rfl,hl,hz.cs,fun hb=>?_,fun nb=>qu (fun z=>nb ⟨z.1.ne,z.1.t0,z.1.v0⟩)⟩
  refine⟨_,cs,rfl,Or.inl rfl,hb.1,hl,hz.cs,fun hr=>?_,fun nr=>qu (fun z=>nr (fun k _ k1=>⟨z.1.up k k1,z.1.vu k k1⟩))⟩
  refine⟨m,0,_,_,rfl,hz.m,Sz.zero,∅,?_⟩
  refine Cc (fun c=>qu (fun z=>absurd c (qBT.mpr z.2))) (fun c=>?_)
  have hm:0≤m:=qBT.mp c
  have c0:=hb.1
  have ho:Ord cs:=⟨hb.1,hb.2.1,hb.2.2,fun k k1=>(hr k () k1).1,fun k k1=>(hr k () k1).2⟩
  refine⟨_,cs,m,rfl,Or.inl rfl,c0,hl,hz.cs.mono ∅,ho.up,?_⟩
  refine atR (CV (cs:=cs) (i:=0) 0 rfl c0) ?_
  refine⟨(by show 1≤1000;decide),?_⟩
  refine⟨⟨∅,∅,by rw[qAa];omega,by rw[qAa];omega⟩,?_⟩
  refine⟨fun n τ=>∃y,τ=[some (.r (cs.map cd)),some (.d (qd m)),some (.l ((K0 cs m).map qd)),some (.l ((kp cs m n).map cd)),y],⟨_,rfl⟩,?_,?_⟩
  ·rintro n τ hn ⟨y,rfl⟩
   rw[qAa] at hn
   have n1:n+1<cs.length:=()
   refine atR (N3 (n+1) () n1) ?_
   refine atR (N3 n () ()) ?_
   refine⟨rfl,rfl,neT (slp cs m (n+1)) (slp cs m n) (fun c=>?_) (fun c=>?_)⟩
   ·refine atR (CV (cs:=cs) (n+1) () n1) ?_
    refine⟨?_,some (.d (.int (1+n*1))),?_⟩
    ·rw[qAa]
     have:=K3 cs m n
     omega
    ·rw[Mi (fun z=>c z.symm),qAE]
     rfl
   ·refine⟨some (.d (.int (1+n*1))),?_⟩
    rw[II c.symm]
    rfl
  rintro τ ⟨y,rfl⟩
  rw[qAa,show((cs.length:Int)-1).toNat=cs.length-1 from ()]
  exact⟨(by show 2≤1000;decide),q ⟨ho,hm⟩⟩
 exact hx.elim
variable (EV:Cal P w K mg base (F8 P w) 6 "curve" ["corners","last"] Hi)
theorem Fo:Ah ["thing"] ["thing"] (Ab CF):=scN
variable (DA:mg "str"=none)
variable (ec_NoText:ExC K "NoText" K_NoText)
variable (m_NoText:mg "NoText"=some (.ref K_NoText))
include Ae DA ec_NoText m_NoText in
theorem E3 (F:Fun K "check_text" "check_text" CF f fd):AS P w K mg base (CXU P w) 1 f fd ["thing"] (Ak K mg Dq):=by
 refine fnU F Fo (fun ss R U h=>?_) (fun cdv A outer s H E ss R U hr h xo=>?_)
 ·obtain⟨x,rfl,_⟩:=h;rfl
 obtain⟨x,rfl,px,q1,q2⟩:=h
 refine⟨_,(Aq (BZ (w_not (CI (Mx .str (vN 0) rfl Ae rfl DA qAW))) (Aq (CC xo rfl Ao rfl ec_NoText m_NoText)) Am)),?_⟩
 cases x with
 |str y=>exact⟨trivial,q1 rfl⟩
 |int y=>exact⟨trivial,q2 rfl⟩
 |bl y=>exact⟨trivial,q2 rfl⟩
 |non=>exact⟨trivial,q2 rfl⟩
 |tup y=>exact⟨trivial,q2 rfl⟩
 |lst y=>exact⟨trivial,q2 rfl⟩
 |ty y=>cases px
 |ref y=>cases px
variable (AK:Cal P w K mg base (CXU P w) 1 "check_text" ["thing"] Dq)
theorem Ct:Ah ["text","sign"] ["text"] (Ab BL):=scN
variable (gc_FIGURES:GC K mg "FIGURES" (.str "0123456789"))
variable (gc_MOST_FIGURES:GC K mg "MOST_FIGURES" (.int 60))
include Gf AF ec_NoText m_NoText gc_FIGURES gc_MOST_FIGURES in
theorem D1 (F:Fun K "read_figures" "read_figures" BL f fd):AS P w K mg base (CXU P w) 1 f fd ["text"] (Ak K mg Ck):=by
 refine fnU F Ct (fun ss R U h=>?_) (fun cdv A outer s H E ss R U hr h xo=>?_)
 ·obtain⟨l,rfl,_⟩:=h;rfl
 obtain⟨l,rfl,hl,ha,q1,q2⟩:=h
 refine⟨_,(Mf (BZ (PW3.pt (JN (B2 DX (B4 Fx rfl AF PySem.boot_len (a1 (vN 0))) Ac) (HB (B2 OU (B4 Fx rfl AF PySem.boot_len (a1 (vN 0))) (Ol rfl gc_MOST_FIGURES))))) (Aq (CC xo rfl Ao rfl ec_NoText m_NoText)) Am)
  (Aa (NX (Hd PassesOwn.leaving rfl (OG (pv 0)) (EY (i:=1) Ct.nd rfl (Or.inl rfl)) (DJ.out (Aq (BZ (N6 KO (vN 1) (Ol rfl gc_FIGURES) rfl) (Aq (CC xo rfl Ao rfl ec_NoText m_NoText)) Am)))))
  (Mf (BZ (PW3.pt (HE (B2 DX (Od (vN 0) Ac (fun _ _=>rfl)) Ao) (Fv (B2 OU (B4 Fx rfl AF PySem.boot_len (a1 (vN 0))) Ac)))) (Aq (CC xo rfl Ao rfl ec_NoText m_NoText)) Am)
  (BV (CJ Po rfl Gf qCo (a1 (vN 0))))))),?_⟩
 have hL:(mkS l).length≤1000000:=by rw[mkS_len];omega
 refine⟨¬(l=[]∨60<l.length),?_,fun hg=>?_⟩
 ·refine⟨hL,?_⟩
  rw[OL]
  refine Cc (fun e=>q2 (Gx (.inl (qAG ())))) (fun e=>?_)
  refine⟨hL,?_⟩
  rw[OL]
  refine Cc (fun e2=>q2 (Gx (.inr ()))) (fun e2=>⟨rfl,fun z=>?_⟩)
  rcases z with z|z
  ·subst z;exact e rfl
  ·omega
 refine⟨MU ha,fun n τ=>∃z,τ=[some (.d (.str (mkS l))),z]∧∀i c,i<n→l[i]? = some c→48≤c∧c≤57,⟨_,rfl,fun i c h=>absurd h (qCe _)⟩,?_,?_⟩
 ·rintro n τ x hx ⟨z,rfl,hd⟩
  rw[mkS_list,qAo] at hx
  cases hc:l[n]? with
  |none=>rw[hc] at hx;cases hx
  |some c =>
   rw[hc] at hx
   cases hx
   show if (!inS ⟨#[c]⟩ (Str.ofString "0123456789"))=true then _ else _
   rw[Pc]
   refine Cc (fun e=>q2 (Jk (qAw hc) e)) (fun e=>⟨_,rfl,fun i d hi he=>?_⟩)
   by_cases y:i<n
   ·exact hd i d y he
   ·have:i=n:=()
    subst this
    rw[hc] at he
    cases he
    omega
 rintro τ ⟨z,rfl,hd⟩
 rw[mkS_list,qAa] at hd
 have hall:∀c∈l,48≤c∧c≤57:=fun c hc=>by
  obtain⟨i,hi,e⟩:=List.mem_iff_getElem.mp hc
  exact hd i c hi (by rw[qAb hi,e])
 refine⟨¬(l.head? = some 48∧1<l.length),?_,fun hh=>?_⟩
 ·cases l with
  |nil=>exact absurd (.inl rfl) hg
  |cons a r =>
   refine⟨hL,a,(show atI (a::r) ((0:Nat):Int)=some a from Cz rfl),?_⟩
   show if decide ((⟨#[a]⟩:Str)=Str.ofString "0")=true then _ else _
   refine Cc (fun e=>?_) (fun e=>⟨rfl,fun w=>e (Iu.mpr (by simpa using w.1))⟩)
   refine⟨hL,?_⟩
   rw[OL]
   refine Cc (fun e2=>q2 (Kd ⟨by simpa using Iu.mp e,()⟩)) (fun e2=>⟨rfl,fun w=>()⟩)
 have hf:=KY hg hall hh
 exact⟨_,LM hf,by rw[mkS_len];omega,q1 _ hf⟩
variable (AN:Cal P w K mg base (CXU P w) 1 "read_figures" ["text"] Ck)
theorem Bq:Ah ["text","parts","top","bottom"] ["text"] (Ab CG):=scN
include BC AF ec_NoText m_NoText AK AN in
theorem Fd (F:Fun K "read_ratio" "read_ratio" CG f fd):AS P w K mg base (CXU P w) 2 f fd ["text"] (Ak K mg Df):=by
 refine fnU F Bq (fun ss R U h=>?_) (fun cdv A outer s H E ss R U hr h xo=>?_)
 ·obtain⟨l,rfl,_⟩:=h;rfl
 obtain⟨l9,e9,b9,a9,r9,u9⟩:=h;obtain⟨x,rfl,px,q0,q1⟩:=Mb e9 b9 a9 r9 u9
 refine⟨_,(Aa (G3 (JS xo hr AK (a1 (vN 0))))
  (Aa (A8 1 Bq (Fj (vN 0) Ao))
  (Aa (BZ (B2 OU (Du AF (vN 1)) Ac) (Aq (CC xo rfl Ao rfl ec_NoText m_NoText)) Am)
  (Aa (A8 2 Bq (JS xo hr AN (a1 (vK 1))))
  (Aa (BZ (B2 DX (Du AF (vN 1)) Ac) (BV (BE (a2 (vN 2) Ac))) Am)
  (Aa (A8 3 Bq (JS xo hr AN (a1 (vK 1))))
  (Mf (BZ (PW3.pt (JN (B2 MZ (vN 3) Ac) (HB (B2 PV (JS xo hr BC (a2 (vN 2) (vN 3))) Ac)))) (Aq (CC xo rfl Ao rfl ec_NoText m_NoText)) Am)
  (BV (BE (a2 (vN 2) (vN 3))))))))))),?_⟩
 cases hx:isT x with
 |false=>exact⟨x,rfl,px,fun z=>absurd (hx.symm.trans z) qAf,fun _=>q0 hx⟩
 |true =>
  cases x with
  |str y =>
   obtain⟨l,rfl⟩:∃l,y=mkS l:=⟨_,(mkS_of y).symm⟩
   obtain⟨hl,ha,q2,q3⟩:=q1 l rfl
   refine⟨_,rfl,rfl,fun _=>?_,fun z=>by cases z⟩
   refine⟨47,Jj,∅,by rw[mkS_len];exact hl,?_⟩
   rw[mkS_list]
   obtain⟨p,ps,e⟩:=Bn 47 l
   have sub:=D8 47 l
   rw[e] at sub
   have sp:=sub p (qAe ..)
   have r0:∀z,cutAt 47 l=z→rdR l=(match z with
    |[p]=>(fig p).map (·,1)
    |[p,q]=>match fig p,fig q with
     |some a,some b=>if 2≤b∧Nat.gcd a b=1 then some (a,b) else none
     |_,_=>none
    |_=>none):=fun z hz=>by subst hz;rfl
   have r1:=r0 _ e
   rw[e]
   cases ps with
   |nil =>
    simp only at r1
    refine⟨p,rfl,(),fun d hd=>ha d (sp.2 d hd),fun n hn=>?_,fun hn=>q3 (by rw[r1,hn];rfl)⟩
    exact⟨qBb rfl,q2 n 1 (by rw[r1,hn];rfl)⟩
   |cons p2 ps =>
    have sp2:=sub p2 (qAc _ (qAe ..))
    cases ps with
    |cons p3 ps =>
     simp only at r1
     refine Cc (fun c=>q3 r1) (fun c=>absurd (show(2:Int)<((p::p2::p3::ps).map fun p=>D.str (mkS p)).length by rw[qAa];simp only[qAl];omega) c)
    |nil =>
     simp only at r1
     refine⟨p,rfl,(),fun d hd=>ha d (sp.2 d hd),fun n hn=>?_,fun hn=>q3 (by rw[r1,hn])⟩
     refine⟨p2,rfl,(),fun d hd=>ha d (sp2.2 d hd),fun k hk=>?_,fun hk=>q3 (by rw[r1,hn,hk])⟩
     rw[hn,hk] at r1
     simp only at r1
     refine⟨2≤k∧Nat.gcd n k=1,?_,fun hh=>⟨qBb rfl,q2 n k (by rw[r1,if_pos hh])⟩⟩
     refine Cc (fun c=>q3 (by rw[r1,if_neg (fun z=>())])) (fun c=>?_)
     refine⟨n,k,rfl,?_⟩
     have eg:g (n:Int) (k:Int)=((Nat.gcd n k:Nat):Int):=rfl
     rw[eg]
     refine NB (fun c2=>q3 (by rw[r1,if_neg (fun z=>c2 (by rw[z.2];rfl))])) (fun c2=>⟨rfl,(),()⟩)
  |_=>cases hx
variable (AD:Cal P w K mg base (CXU P w) 2 "read_ratio" ["text"] Df)
theorem FN:Ah ["word"] ["word"] (Ab C4):=scN
include ec_NoText m_NoText AD in
theorem FU (F:Fun K "read_last" "read_last" C4 f fd):AS P w K mg base (CXU P w) 3 f fd ["word"] (Ak K mg DK):=by
 refine fnU F FN (fun ss R U h=>?_) (fun cdv A outer s H E ss R U hr h xo=>?_)
 ·obtain⟨l,rfl,_⟩:=h;rfl
 obtain⟨l,rfl,hl,ha,q,u⟩:=h
 refine⟨_,(Aa (BZ (w_not (CI (Pq (vN 0) Ao))) (Aq (CC xo rfl Ao rfl ec_NoText m_NoText)) Am)
  (BV (JS xo hr AD (a1 (Ka (vN 0) (Bm Ac) DV))))),?_⟩
 refine⟨l,43,rfl,Gb,?_⟩
 cases l with
 |nil=>exact u rfl
 |cons d r =>
  have e0:rdL (d::r)=if d=43 then rdQ r else none:=rfl
  refine NB (fun c=>u ?_) (fun c=>?_)
  ·rw[e0,if_neg fun z=>c (by rw[z];rfl)]
  ·have d43:d=43:=by simpa using c
   rw[e0,if_pos d43] at q u
   have es:Txt.slice (mkS (d::r)) (some 1) none=mkS r:=Dz (d::r) 1
   refine⟨by rw[mkS_len];omega,?_⟩
   refine⟨r,congrArg (fun z=>[S.d (.str z)]) es,by rw[qAl] at hl;omega,fun c hc=>ha c (qAc _ hc),q,u⟩
variable (B0:Cal P w K mg base (CXU P w) 3 "read_last" ["word"] DK)
theorem CY:Ah ["word","parts"] ["word"] (Ab B6):=scN
include AF ec_NoText m_NoText AD in
theorem EC (F:Fun K "read_corner" "read_corner" B6 f fd):AS P w K mg base (CXU P w) 3 f fd ["word"] (Ak K mg CW):=by
 refine fnU F CY (fun ss R U h=>?_) (fun cdv A outer s H E ss R U hr h xo=>?_)
 ·obtain⟨l,rfl,_⟩:=h;rfl
 obtain⟨l,rfl,hl,ha,q,u⟩:=h
 refine⟨_,(Aa (A8 1 CY (Fj (vN 0) Ao))
  (Aa (BZ (B2 PV (Du AF (vN 1)) Ac) (Aq (CC xo rfl Ao rfl ec_NoText m_NoText)) Am)
  (BV (BE (a2 (JS xo hr AD (a1 (vK 1))) (JS xo hr AD (a1 (vK 1)))))))),?_⟩
 refine⟨58,Gv,∅,by rw[mkS_len];exact hl,?_⟩
 rw[mkS_list]
 have sub:=D8 58 l
 have r0:∀z,cutAt 58 l=z→rdC l=(match z with
  |[p,q]=>match rdQ p,rdQ q with
   |some a,some b=>some (a,b)
   |_,_=>none
  |_=>none):=fun z hz=>by subst hz;rfl
 generalize e:cutAt 58 l=z at sub ⊢
 have r1:=r0 _ e
 match z,r1,sub with
 |[],r1,sub=>exact u r1
 |[p],r1,sub=>exact u r1
 |p::p2::p3::ps,r1,sub =>
  exact u r1
 |[p,p2],r1,sub =>
  have s1:=sub p qAe
  have s2:=sub p2 (qAc _ qAe)
  simp only at r1
  refine⟨p,rfl,(),fun d hd=>ha d (s1.2 d hd),fun a e1=>?_,fun n=>u (by rw[r1,n])⟩
  refine⟨p2,rfl,(),fun d hd=>ha d (s2.2 d hd),fun b e2=>?_,fun n=>u (by rw[r1,e1,n])⟩
  exact⟨(by show 2≤1000;decide),q a b (by rw[r1,e1,e2])⟩
variable (Bs:Cal P w K mg base (CXU P w) 3 "read_corner" ["word"] CW)
theorem AY:Ah ["text","words","corners","last","e"] ["text"] (Ab BJ):=scN
variable (hn_NoCurve:HnC K K_NoCurve)
variable (mr_NoCurve_NoCurve:PySem.W.mroIn K K_NoCurve (.ref K_NoCurve)=some true)
variable (kp_NoText:PySem.W.keepIn K (.ref K_NoText)=true)
variable (hn_NoText:HnC K K_NoText)
include m_NoCurve EV ec_NoText m_NoText AK B0 Bs hn_NoCurve mr_NoCurve_NoCurve kp_NoText hn_NoText in
theorem Fn (F:Fun K "read_curve" "read_curve" BJ f fd):AS P w K mg base (CXU P w) 7 f fd ["text"] (Ak K mg De):=by
 refine QH F AY (fun ss R U h=>?_) (fun cdv A outer s H E ss R U hr h xo xl xf=>?_)
 ·obtain⟨x,rfl,_⟩:=h;rfl
 obtain⟨x,rfl,px,q0,q1⟩:=h
 refine⟨_,(Aa (G3 (JS xo hr AK (a1 (vN 0))))
  (Aa (A8 1 AY (Fj (vN 0) Ao))
  (Aa (Mm (i:=2) (N:=["word"]) (idx:=[]) (Bk.mk' (Ab BJ) ["text","words","corners","last","e"] rfl rfl (by decide +kernel)) rfl (GW (PE3.out (EO (vN 1) DV (Bm (GA Ac))))) E5 (fun cl C s₀ H₀ fp=>D0) (fun cl C s₀ H₀ fp xp=>(Ms xp Bs (hr.mono ∅) rfl (a1 (vN 0)))) xl rfl rfl AY.nd rfl (Or.inl rfl))
  (Aa (A8 3 AY (JS xo hr B0 (a1 (Cf (vN 1) (GA Ac)))))
  (Aq (LS (i:=4) xf rfl rfl EV (hr.mono ∅) rfl (a2 (vN 2) (vN 3)) AY.nd rfl (Or.inl rfl) rfl rfl m_NoCurve hn_NoCurve mr_NoCurve_NoCurve rfl ec_NoText m_NoText kp_NoText hn_NoText (fun ea oe=>Ao) (fun _ _ h=>h _))))))),?_⟩
 cases hx:isT x with
 |false=>exact⟨x,rfl,px,fun z=>absurd (hx.symm.trans z) qAf,fun _=>q0 hx⟩
 |true =>
  cases x with
  |str y =>
   obtain⟨l,rfl⟩:∃l,y=mkS l:=⟨_,(mkS_of y).symm⟩
   obtain⟨⟨hl,ha⟩,q2⟩:=q1 l rfl
   refine⟨_,rfl,rfl,fun _=>?_,fun z=>by cases z⟩
   refine⟨32,BW,∅,by rw[mkS_len];omega,?_⟩
   rw[mkS_list]
   obtain⟨a,as,e⟩:=Bn 32 l
   obtain⟨ws,w,e2⟩:∃ws w,cutAt 32 l=ws++[w]:=⟨_,_,(qBm (by rw[e];simp)).symm⟩
   have sub:=D8 32 l
   have cl:=Lc 32 l
   obtain⟨u1,u2,u3⟩:=q2 ws w e2
   rw[e2] at sub cl ⊢
   rw[qAd,qBl] at cl
   have ec:A3 ((ws++[w]).map fun p=>D.str (mkS p)) none (some (-1))=ws.map fun p=>D.str (mkS p):=IF ws w
   have el:atI ((ws++[w]).map fun p=>D.str (mkS p)) (-1)=some (.str (mkS w)):=by
    rw[qAE]
    exact IB
   show ∃J:Nat→List D→Prop,_
   rw[ec]
   refine⟨fun n ds=>∃cs:Cs,ds=cs.map cd∧(ws.take n).map rdC=cs.map some∧SzC 200 cs,⟨[],rfl,rfl,fun i hi=>absurd hi (qCe i)⟩,fun n ds ⟨cs,e,h,_⟩=>?_,?_,?_,?_⟩
   ·have:=congrArg List.length h
    rw[qAa,qAa,qAz] at this
    rw[e,qAa]
    omega
   ·rintro n x ds hx ⟨cs,rfl,h,zc⟩
    obtain⟨p,hp,rfl⟩:=Fl hx
    have sp:=sub p (qAP _ (qAw hp))
    refine⟨p,rfl,(),fun d hd=>ha d (sp.2 d hd),fun a b e1=>?_,fun n=>u1 ⟨p,qAw hp,n⟩⟩
    refine⟨cs++[(a,b)],by rw[qAE];rfl,?_,?_⟩
    ·rw[qA0,hp,qAE,h,qAE]
     show _++[rdC p]=_
     rw[e1]
     rfl
    ·obtain⟨z1,z2⟩:=Oq e1
     exact zc.snoc z1 z2
   ·rw[qAa];omega
   rintro ds ⟨cs,rfl,h,zc⟩
   rw[qAa,qBH] at h
   refine atR el ?_
   have sw:=sub w (qAp _ qAe)
   refine⟨w,rfl,(),fun d hd=>ha d (sw.2 d hd),fun m em=>?_,u2⟩
   obtain⟨r1,r2⟩:=u3 cs m h em
   have lc:cs.length≤100000:=by
    have:=congrArg List.length h
    rw[qAa,qAa] at this
    omega
   exact⟨_,cs,m,rfl,Or.inl rfl,⟨lc,fun i hi=>⟨(zc i hi).1.mono ∅,(zc i hi).2.mono ∅⟩,(OH em).mono ∅⟩,r1,fun z=>⟨rfl,r2 z⟩⟩
  |_=>cases hx
variable (AJ:Cal P w K mg base (CXU P w) 7 "read_curve" ["text"] De)
theorem Eh:Ah ["_law_script","_law_k"] ["_law_script","_law_k"] (Ab BP):=scN
include AF in
theorem Eb (F:Fun K "_law_cell_at" "_law_cell_at" BP f fd):AS P w K mg base CX0 1 f fd ["_law_script","_law_k"] (Ak K mg CA):=by
 refine fn3 F Eh (fun ss R U h=>?_) (fun cdv A outer s H E ss R U hr h=>?_)
 ·obtain⟨ns,k,rfl,_⟩:=h;rfl
 obtain⟨ns,k,rfl,k0,k1,q⟩:=h
 refine⟨_,(Aa (BZ (B2 MZ (vN 1) (Du AF (vN 0))) (BV (Cf (vN 0) (vN 1))) Am)
  (BV (Ay Bj (Ay Dw Ac (vN 1)) Ac))),?_⟩
 refine Cc (fun c=>?_) (fun c=>?_)
 ·rw[qAa] at c
  refine atR (Ky k0 c) ?_
  exact q _
 ·exact⟨Ew (m:=10) (n:=20) ∅ () ∅,q _⟩
variable (Ag:Cal P w K mg base (CXU P w) 1 "_law_cell_at" ["_law_script","_law_k"] CA)
theorem AI:Ah ["_law_top","_law_bottom","_law_one","_law_other","_law_rest"] ["_law_top","_law_bottom"] (Ab BY):=scN
include FW in
theorem Eu (F:Fun K "_law_lowest" "_law_lowest" BY f fd):AS P w K mg base CX0 1 f fd ["_law_top","_law_bottom"] (Ak K mg CZ):=by
 refine fn3 F AI (fun ss R U h=>?_) (fun cdv A outer s H E ss R U hr h=>?_)
 ·obtain⟨a,b,rfl,_⟩:=h;rfl
 obtain⟨a,b,rfl,hb,h1,h2,q⟩:=h
 refine⟨_,(Aa (A8 2 AI (B4 LL rfl FW qBJ (a1 (vN 0))))
  (Aa (A8 3 AI (vN 1))
  (Aa (JC PassesOwn.never (B2 OU (vN 3) Ac) (Aa (A8 4 AI (Ay Br (vN 2) (vN 3)))
  (Aa (A8 2 AI (vN 3))
  (Aq (A8 3 AI (vN 4))))))
  (BV (BE (a2 (Ay Dg (vN 0) (vN 2)) (Ay Dg (vN 1) (vN 2)))))))),?_⟩
 have hb0:b≠0:=by clear h1 h2;omega
 have hp:=Dj (a:=a) hb0
 have hc:=HK (a:=a) hb0
 have e:cm a b=g a b:=if_neg (by clear h1 h2;omega)
 rw[e] at hp hc
 have ga:=OB a b
 rw[if_neg (show ¬b<0 by clear h1 h2;omega)] at ga
 refine⟨fun m τ=>∃x y z,τ=[I a,I b,I x,I y,z]∧0≤x∧0≤y∧g x y=g a b∧m=y.toNat,⟨_,_,_,_,rfl,Ib a,Int.le_of_lt hb,ga,rfl⟩,?_⟩
 rintro m τ ⟨x,y,z,rfl,k1,k2,k3,rfl⟩
 refine Cc (fun c=>?_) (fun c=>?_)
 ·clear h1 h2
  have c:0<y:=c
  refine⟨(),(x.fmod y).toNat,?_,_,_,_,rfl,k2,?_,?_,rfl⟩
  ·have:=qBx x (show 0<y from ())
   omega
  ·exact qBi x ()
  ·rw[←k3,qB1 x k2]
   exact K9 ()
 ·have c:y=0:=by have:¬0<y:=c;omega
  subst c
  rw[Nd k1] at k3
  subst k3
  refine⟨⟨hc,OS h1⟩,⟨hc,OS h2⟩,(by show 2≤1000;decide),?_⟩
  show R (.d (.tup [.int (a.fdiv (g a b)),.int (b.fdiv (g a b))]))
  rw[hp.1,hp.2]
  exact q
variable (Ap:Cal P w K mg base (CXU P w) 1 "_law_lowest" ["_law_top","_law_bottom"] CZ)
theorem Fi:Ah ["_law_one"] ["_law_one"] (Ab Cn):=scN
include DA in
theorem EW (F:Fun K "_law_shown" "_law_shown" Cn f fd):AS P w K mg base CX0 1 f fd ["_law_one"] (Ak K mg C9):=by
 refine fn3 F Fi (fun ss R U h=>?_) (fun cdv A outer s H E ss R U hr h=>?_)
 ·obtain⟨q0,rfl,_⟩:=h;rfl
 obtain⟨q0,rfl,h0,hz,q⟩:=h
 refine⟨_,(Aa (BZ (B2 DX (vK 0) Ac) (BV (CJ Iq rfl DA qAW (a1 (vK 0)))) Am)
  (BV (Ay BF (Ay BF (CJ Iq rfl DA qAW (a1 (vK 0))) Ao) (CJ Iq rfl DA qAW (a1 (vK 0)))))),?_⟩
 have hn:q0.num=((q0.num.toNat:Nat):Int):=()
 have z1:q0.num.toNat<2^1000:=by have:=hz.1;omega
 have lg1:=EF hz.1
 have lg2:=EF (AL hz)
 have big:(2:Nat)^1000<10^302:=by decide +kernel
 have tn:Str.ofString (toString q0.num)=mkS (num q0.num.toNat):=by
  have:=Hg q0.num.toNat
  rw[←hn] at this
  exact this
 have td:Str.ofString (toString ((q0.den:Nat):Int))=mkS (num q0.den):=Hg q0.den
 have ln1:(Str.ofString (toString q0.num)).length≤302:=by rw[tn,mkS_len];exact DB ∅ (qAJ z1 big)
 have ln2:(Str.ofString (toString ((q0.den:Nat):Int))).length≤302:=by rw[td,mkS_len];exact DB ∅ (qAJ hz.2 big)
 unfold sh DT at q
 clear big z1
 refine Cc (fun e=>?_) (fun e=>?_)
 ·have e':q0.den=1:=()
  rw[if_pos e'] at q
  refine⟨lg1,?_⟩
  rw[tn]
  exact q
 ·have e':¬q0.den=1:=()
  rw[if_neg e'] at q
  refine⟨lg1,?_⟩
  refine⟨qAr (show(Str.ofString (toString q0.num)).length+(Str.ofString "/").length≤303 by rw[Jj,mkS_len];exact Nat.succ_le_succ ln1) ∅,lg2,?_⟩
  rw[tn,td,Jj,Au]
  refine⟨?_,?_⟩
  rotate_left
  ·show R (.d (.str (mkS _++mkS _)))
   rw[Au,qAI]
   exact q
  rw[tn] at ln1
  rw[td] at ln2
  rw[mkS_len] at ln1 ln2 ⊢
  rw[mkS_len,qAd]
  simp only[qAl,qBS]
  omega
variable (AQ:Cal P w K mg base (CXU P w) 1 "_law_shown" ["_law_one"] C9)
theorem Bd:Ah ["_law_corners","_law_last","_law_words"] ["_law_corners","_law_last"] (Ab AA):=scN
include AQ in
theorem Cj (F:Fun K "_law_shown_corners" "_law_shown_corners" AA f fd):AS P w K mg base CX0 2 f fd ["_law_corners","_law_last"] (Ak K mg Bc):=by
 refine fn3 F Bd (fun ss R U h=>?_) (fun cdv A outer s H E ss R U hr h=>?_)
 ·obtain⟨x,cs,m,rfl,_⟩:=h;rfl
 obtain⟨x,cs,m,rfl,hx,hc,q⟩:=h
 refine⟨_,(Aa (Jz (i:=2) (N:=["_law_corner"]) (idx:=[]) (Bk.mk' (Ab AA) ["_law_corners","_law_last","_law_words"] rfl rfl (by decide +kernel)) rfl (GW (PE3.out (vN 0))) E5 (fun cl C s₀ H₀ fp=>D0) (fun cl C s₀ H₀ fp=>(Ay BF (Ay BF (BQ hr AQ (a1 (vK 0))) Ao) (BQ hr AQ (a1 (vK 0))))) Bd.nd rfl (Or.inl rfl))
  (JF 2 (BV (Dn Ao (Pz PQ (vN 2) (CP (a1 (Ay BF Ao (BQ hr AQ (a1 (vN 1))))))))))),?_⟩
 rcases hx with rfl|rfl
 all_goals
  refine⟨cs.map fun c=>some (D.str (mkS (shc c.1 c.2))),by rw[qAa,qAa],?_,by rw[qAa];have:=hc.len;omega,?_⟩
  ·intro n x hx
   obtain⟨hn,rfl⟩:=Mt hx
   have hq:=hc.q hn
   have l1:=hq.1.ln
   have l2:=hq.2.ln
   refine⟨_,rfl,hq.1.n0,hq.1.sz,?_⟩
   refine⟨by rw[Gs.1];omega,?_⟩
   refine⟨_,rfl,hq.2.n0,hq.2.sz,?_⟩
   refine⟨by rw[strLen_append,Gs.1];omega,?_⟩
   show(cs.map _)[n]? = _
   rw[NJ,qAo,qAb hn,(Cb hn).1,(Cb hn).2]
   rfl
  rw[Et]
  have hm:=hc.qm.ln
  refine⟨m,rfl,hc.qm.n0,hc.qm.sz,?_⟩
  refine⟨?_,(by show 1≤1000;decide),?_⟩
  ·rw[Gs.2]
   omega
  rw[L6]
  refine⟨by rw[qAa];have:=hc.len;show cs.length+1≤100000;omega,?_⟩
  refine⟨wds cs m,32,BW,?_,(fun z=>by cases z),qAr hc.wds (show 50000≤1000000 from ∅),q⟩
  unfold wds
  rw[qAE,qA8]
  rfl
variable (As:Cal P w K mg base (CXU P w) 2 "_law_shown_corners" ["_law_corners","_law_last"] Bc)
theorem Af:Ah ["_law_script","_law_low","_law_high","_law_at","_law_value","_law_corners","_law_k","_law_cell","_law_gap","_law_rise"] ["_law_script"] (Ab BA):=scN
include A6 Ag Ap in
theorem DS (F:Fun K "_law_curve_by" "_law_curve_by" BA f fd):AS P w K mg base CX0 2 f fd ["_law_script"] (Ak K mg B8):=by
 refine fn3 F Af (fun ss R U h=>?_) (fun cdv A outer s H E ss R U hr h=>?_)
 ·obtain⟨ns,rfl,_⟩:=h;rfl
 obtain⟨ns,rfl,q⟩:=h
 refine⟨_,(Aa (A8 1 Af (Ay Bj Ac (Ay Br (BQ hr Ag (a2 (vN 0) Ac)) Ac)))
  (Aa (A8 2 Af (Ay Bj Ac (Ay Br (BQ hr Ag (a2 (vN 0) Ac)) Ac)))
  (Aa (A8 3 Af Ac)
  (Aa (A8 4 Af (Ay Br (BQ hr Ag (a2 (vN 0) Ac)) Ac))
  (Aa (A8 5 Af (CP (a1 (BE (a2 (BE (a2 Ac Ac)) (BQ hr Ap (a2 (vN 4) (vN 2))))))))
  (Aa (Oa (Hd PassesOwn.never rfl (Ii rfl A6 (PA3.out (a1 (Ay Br (Ay Dg (BQ hr Ag (a2 (vN 0) Ac)) Ac) Ac)))) (EY (i:=6) Af.nd rfl (Or.inl rfl)) (DJ.out (Aa (A8 7 Af (BQ hr Ag (a2 (vN 0) (Ay Bj Ac (vN 6)))))
  (Aa (A8 8 Af (Ay Bj Ac (Ay Br (vN 7) Ac)))
  (Di (BZ (B2 DX (Ay Br (vN 7) Ac) Ac) (Aq (A8 8 Af (Ay Bj Ac (Ay Br (Ay Dg (vN 7) Ac) (Ay LP Ac Ac))))) Am)
  (Aa (A8 9 Af (Ay Bj (Ay Bj Ac (Ay Dw Ac (vN 6))) (Ay Br (Ay Dg (vN 7) Ac) Ac)))
  (Aa (A8 3 Af (Ay Bj (vN 3) (vN 8)))
  (Aa (A8 4 Af (Ay Bj (vN 4) (Ay Dw (vN 9) (vN 8))))
  (Aq (MA (Fc (F9 qBD qBy qBz Cw (pv 5) (AM (PE3.out (BE (a2 (BQ hr Ap (a2 (vN 3) (vN 1))) (BQ hr Ap (a2 (vN 4) (vN 2)))))) BI))))))))))))))
  (Aa (BZ (B2 DX (Ay Br (BQ hr Ag (a2 (vN 0) Ac)) Ac) Ac) (JF 5 (BV (BE (a2 (vN 5) (BE (a2 Ac Ac)))))) Am)
  (JF 5 (BV (BE (a2 (vN 5) (BQ hr Ap (a2 (Ay Dw (Ay Bj Ac (Ay Br (BQ hr Ag (a2 (vN 0) Ac)) (Ay LP Ac Ac))) (vN 1)) (vN 2)))))))))))))),?_⟩
 have p12:(10:Int)^(12:Int).toNat=1000000000000:=∅
 refine⟨ns,1,rfl,∅,∅,fun c1=>?_⟩
 refine⟨∅,ns,2,rfl,∅,∅,fun c2=>?_⟩
 have f1:=fm (a:=c1) (show(0:Int)<12 from ∅)
 have f2:=fm (a:=c2) (show(0:Int)<12 from ∅)
 generalize elo:1+c1.fmod 12=lo
 have l0:0<lo∧lo≤12:=()
 refine⟨∅,ns,3,rfl,∅,∅,fun c3=>?_⟩
 generalize ehi:1+c2.fmod 12=hi
 have h0:0<hi∧hi≤12:=()
 have f3:=fm (a:=c3) (show(0:Int)<5 from ∅)
 refine⟨∅,(by show 2≤1000;decide),?_⟩
 generalize c3.fmod 5=v0 at f3 ⊢
 have lb:lo.natAbs<2^149:=Bh (show lo.natAbs<2^4 from ()) ∅
 have hb:hi.natAbs<2^149:=Bh (show hi.natAbs<2^4 from ()) ∅
 have u13:∀{x n:Nat},x<2^n→n≤200→x<2^13000:=fun h l=>Bh h ()
 refine⟨v0,hi,rfl,h0.1,u13 (show v0.natAbs<2^3 from ()) ∅,u13 hb ∅,(by show 2≤1000;decide),(by show 1≤1000;decide),?_⟩
 refine⟨ns,4,rfl,∅,∅,fun c4=>?_⟩
 have f4:=fm (a:=c4.fdiv 3) (show(0:Int)<4 from ∅)
 refine⟨⟨∅,Ja ∅⟩,∅,?_⟩
 generalize (c4.fdiv 3).fmod 4=nn at f4 ⊢
 refine⟨⟨(),()⟩,?_⟩
 refine⟨fun n τ=>∃(ti va:Int)(cs:Cs)(y6 y7 y8 y9:Option S),τ=[some (.r (ns.map D.int)),I lo,I hi,I ti,I va,some (.l (cs.map cd)),y6,y7,y8,y9]∧Ord cs∧cs.length=n+1∧tt cs n=Rat.divInt ti lo∧vv cs n=Rat.divInt va hi∧0≤ti∧ti≤n*1000000000001∧0≤va∧va≤5+n*60000000000060∧SzC 150 cs∧Rs lo hi cs,⟨0,v0,[(0,Rat.divInt v0 hi)],_,_,_,_,rfl,Ord.one (Ee h0.1 f3.1),rfl,by rw[qCd];rfl,rfl,∅,∅,f3.1,(),?_,fun k hk=>by have:k+1<1:=hk;omega⟩,?_,?_⟩
 ·intro i hi'
  have:i=0:=by have:i<1:=hi';omega
  subst this
  exact⟨Sz.zero.mono ∅,GI h0.1 (Bh (show v0.natAbs<2^3 from ()) ∅) (Bh hb ∅)⟩
 ·rintro n τ hn ⟨ti,va,cs,y6,y7,y8,y9,rfl,oc,ln,et,ev,t0,t1,w0,w1,zc,rs⟩
  have nl:n<4:=()
  refine⟨ns,_,rfl,(),(),fun c=>?_⟩
  have g12:=fm (a:=c) (show(0:Int)<12 from ∅)
  refine⟨∅,?_⟩
  refine⟨fun τ=>∃g:Int,τ=[some (.r (ns.map D.int)),I lo,I hi,I ti,I va,some (.l (cs.map cd)),I (0+(n:Int)*1),I c,I g,y9]∧0<g∧g≤1000000000000,?_,?_⟩
  ·refine⟨∅,?_⟩
   refine Cc (fun _=>?_) (fun _=>⟨_,rfl,(),()⟩)
   have f9:=fm (a:=c.fdiv 5) (show(0:Int)<10^(12:Int).toNat from ∅)
   exact⟨⟨∅,Ja ∅⟩,⟨∅,∅,∅⟩,∅,_,rfl,(),by rw[p12] at f9 ⊢;omega⟩
  rintro τ ⟨g,rfl,g0,g1⟩
  have r12:=fm (a:=c.fdiv 12) (show(0:Int)<12 from ∅)
  refine⟨PySem.IntMulOk.of_left ∅,⟨∅,Ja ∅⟩,∅,?_⟩
  generalize er:1+13*(0+(n:Int)*1)+(c.fdiv 12).fmod 12=r
  have r0:13*(n:Int)+1≤r∧r≤13*(n:Int)+12:=()
  have rg0:0≤r*g:=Int.mul_nonneg () ()
  have rg1:r*g≤60*1000000000000:=Int.mul_le_mul () g1 () ∅
  refine⟨Ew (m:=6) (n:=41) () () ∅,?_⟩
  have tb:(ti+g).natAbs<2^149:=Bh (show(ti+g).natAbs<2^60 from ()) ∅
  have vb:(va+r*g).natAbs<2^149:=Bh (show(va+r*g).natAbs<2^60 from ()) ∅
  refine⟨ti+g,lo,rfl,l0.1,u13 tb ∅,u13 lb ∅,va+r*g,hi,by rw[←er];rfl,h0.1,u13 vb ∅,u13 hb ∅,(by show 2≤1000;decide),by rw[qAa];omega,?_⟩
  have e1:cs.length-1=n:=()
  have st:=MJ (r:=r) (g:=g) (va:=va) (at_:=ti) l0.1 h0.1
  refine⟨ti+g,va+r*g,cs++[(Rat.divInt (ti+g) lo,Rat.divInt (va+r*g) hi)],_,_,_,_,by rw[qAE,←er];rfl,oc.snoc (by rw[e1,et];exact Cg l0.1 ()) (by rw[e1,ev];exact Ia h0.1 ()),by rw[Dh,ln],?_,?_,(),(),(),(),zc.snoc (GI l0.1 (Bh tb ∅) (Bh lb ∅)) (GI h0.1 (Bh vb ∅) (Bh hb ∅)),rs.snoc (r:=r) () (by rw[e1];exact r0.1) (by rw[e1];exact r0.2) (by rw[e1,et,ev];exact st)⟩
  ·rw[←ln,OQ]
  ·rw[←ln,OR]
 rintro τ ⟨ti,va,cs,y6,y7,y8,y9,rfl,oc,ln,et,ev,t0,t1,w0,w1,zc,rs⟩
 have lc:cs.length≤4:=by rw[ln];omega
 refine⟨ns,4,rfl,∅,∅,fun c4'=>?_⟩
 refine⟨∅,?_⟩
 refine Cc (fun _=>?_) (fun _=>?_)
 ·exact⟨(by show 2≤1000;decide),(by show 2≤1000;decide),q cs 0 ⟨oc,Rat.le_refl,zc,Sz.zero.mono ∅,lc,rs.bend oc l0.1 h0.1 lc (.inl rfl)⟩⟩
 refine⟨ns,6,rfl,∅,∅,fun c6=>?_⟩
 have f9:=fm (a:=c6) (show(0:Int)<10^(12:Int).toNat from ∅)
 rw[p12] at f9
 refine⟨⟨∅,∅,∅⟩,∅,?_⟩
 rw[p12]
 generalize eM:100+c6.fmod 1000000000000=M
 have m1:100≤M∧M≤1000000000100:=()
 have ml:M*lo≤1000000000100*12:=Int.mul_le_mul m1.2 l0.2 () ∅
 have ml0:0≤M*lo:=Int.mul_nonneg () ()
 have mb:(M*lo).natAbs<2^149:=Bh (show(M*lo).natAbs<2^60 from ()) ∅
 refine⟨Ew (m:=60) (n:=4) () () ∅,M*lo,hi,by rw[←eM];rfl,h0.1,u13 mb ∅,u13 hb ∅,(by show 2≤1000;decide),?_⟩
 exact q cs _ ⟨oc,Ee h0.1 ml0,zc,GI h0.1 (Bh mb ∅) (Bh hb ∅),lc,rs.bend oc l0.1 h0.1 lc (.inr ⟨M,m1.1,rfl⟩)⟩
variable (A2:Cal P w K mg base (CXU P w) 2 "_law_curve_by" ["_law_script"] B8)
theorem FO:Ah ["_law_one"] ["_law_one"] (Ab C3):=scN
theorem F1 (F:Fun K "_law_more" "_law_more" C3 f fd):AS P w K mg base CX0 1 f fd ["_law_one"] (Ak K mg DM):=by
 refine fn3 F FO (fun ss R U h=>?_) (fun cdv A outer s H E ss R U hr h=>?_)
 ·obtain⟨a,rfl,_⟩:=h;rfl
 obtain⟨a,rfl,a0,q⟩:=h
 refine⟨_,(BV (BE (a2 (Ay Bj (vK 0) (vK 0)) (vK 0)))),?_⟩
 refine⟨(by show 2≤1000;decide),?_⟩
 rw[LY a0] at q
 exact q
variable (A4:Cal P w K mg base (CXU P w) 1 "_law_more" ["_law_one"] DM)
theorem Aj:Ah ["_law_corners","_law_way","_law_place","_law_at","_law_later","_law_here","_law_there","_law_begin"] ["_law_corners","_law_way","_law_place"] (Ab An):=scN
include AF Ap A4 in
theorem BX (F:Fun K "_law_corners_spoiled" "_law_corners_spoiled" An f fd):AS P w K mg base CX0 2 f fd ["_law_corners","_law_way","_law_place"] (Ak K mg AZ):=by
 refine fn3 F Aj (fun ss R U h=>?_) (fun cdv A outer s H E ss R U hr h=>?_)
 ·obtain⟨cs,m,w,p,rfl,_⟩:=h;rfl
 obtain⟨cs,m,w,p,rfl,dc,q⟩:=h
 refine⟨_,(Aa (A8 3 Aj (Ay Br (vN 2) (Du AF (vN 0))))
  (Aa (BZ (B2 DX (vN 1) Ac) (Aa (A8 7 Aj (BE (a2 (BE (a2 Ac (Ay Bj Ac (Ay Br (vN 2) Ac)))) (Cf (vK 0) Ac))))
  (BV (A1 (CP (a1 (vN 7))) (Ny (N:=["_law_row"]) (idx:=[]) (Bk.mk' (Ab An) ["_law_corners","_law_way","_law_place","_law_at","_law_later","_law_here","_law_there","_law_begin"] rfl rfl (by decide +kernel)) rfl (GW (PE3.out (EO (vN 0) (Bm Ac) DV))) E5 (fun cl C s₀ H₀ fp=>D0) (fun cl C s₀ H₀ fp=>(BE (a2 (BQ hr A4 (a1 (vK 0))) (vK 0)))))))) Am)
  (Di (BZ (PW3.pt (HE (B2 DX (vN 1) Ac) (HE (B2 DX (Ay Br (Ay Dg (vN 2) Ac) Ac) Ac) (Fv (B2 MZ (Ay Bj (vN 3) Ac) (Du AF (vN 0))))))) (BV (A1 (A1 (EO (vN 0) DV (Bm (vN 3))) (CP (a2 (Cf (vN 0) (Ay Bj (vN 3) Ac)) (Cf (vN 0) (vN 3))))) (EO (vN 0) (Bm (Ay Bj (vN 3) Ac)) DV))) Am)
  (Aa (BZ (B2 DX (vN 1) Ac) (BV (A1 (EO (vN 0) DV (Bm (Ay Bj (vN 3) Ac))) (EO (vN 0) (Bm (vN 3)) DV))) Am)
  (Aa (Jz (i:=4) (N:=["_law_row"]) (idx:=[]) (Bk.mk' (Ab An) ["_law_corners","_law_way","_law_place","_law_at","_law_later","_law_here","_law_there","_law_begin"] rfl rfl (by decide +kernel)) rfl (GW (PE3.out (EO (vN 0) (Bm (Ay Bj (vN 3) Ac)) DV))) E5 (fun cl C s₀ H₀ fp=>D0) (fun cl C s₀ H₀ fp=>(BE (a2 (BQ hr A4 (a1 (vK 0))) (vK 0)))) Aj.nd rfl (Or.inl rfl))
  (Aa (A8 5 Aj (BE (a2 (Cf (Cf (vN 0) (vN 3)) Ac) (BQ hr A4 (a1 (Cf (Cf (vN 0) (vN 3)) Ac))))))
  (Aa (A8 6 Aj (BE (a2 (BE (a2 (Ay Bj (Ay Dw Ac (Cf (Cf (Cf (vN 0) (vN 3)) Ac) Ac)) Ac) (Ay Dw Ac (Cf (Cf (Cf (vN 0) (vN 3)) Ac) Ac)))) (Cf (Cf (vN 0) (vN 3)) Ac))))
  (BV (A1 (A1 (EO (vN 0) DV (Bm (vN 3))) (CP (a2 (vN 5) (BE (a2 (BQ hr Ap (a2 (Cf (vK 6) Ac) (Cf (vK 6) Ac))) (vK 6)))))) (vN 4)))))))))),?_⟩
 have n0:=dc.o.ne
 have n4:=dc.len
 have qm:=dc.cq.qm
 have lI:(((cs.map cd).length:Nat):Int)=(cs.length:Int):=by rw[qAa]
 refine⟨by rw[lI];omega,?_⟩
 have f:=fm (a:=p) (show(0:Int)<(cs.length:Int) from ())
 rw[lI]
 obtain⟨j,hj⟩:=qAM f.1
 rw[hj] at f ⊢
 have jl:j<cs.length:=()
 have fin:∀cs2:Cs,(∀c∈cs2,QS c.1∧QS c.2)→cs2.length≤61→¬Ord cs2→R (.l (cs2.map cd)):=fun cs2 h1 h2 h3=>q cs2 (CQ.of h1 qm h2) h3
 have mm:∀c∈cs,QS c.1∧QS c.2:=fun c hc=>⟨(dc.mem hc).1,(dc.mem hc).2.1⟩
 have a0:=CV (cs:=cs) (i:=0) 0 rfl n0
 have aj:=CV (cs:=cs) (i:=(j:Int)) j rfl jl
 have mdrop:∀k:Nat,∀c∈(cs.drop k).map (fun c=>((c.1+1,c.2):Rat×Rat)),QS c.1∧QS c.2:=fun k c hc=>by
  obtain⟨d,hd,rfl⟩:=qA9.mp hc
  have hm:=dc.mem (qAR hd)
  exact⟨QS.more hm.2.2.1 hm.2.2.2.1,hm.2.1⟩
 refine Cc (fun _=>?_) (fun _=>?_)
 ·have f9:=fm (a:=p) (show(0:Int)<1000 from ∅)
  obtain⟨b,hb⟩:=qAM f9.1
  have eb:(.tup [.int 1,.int (1+p.fmod 1000)]:D)=qd (Rat.divInt ((1:Nat):Int) ((1+b:Nat):Int)):=by
   rw[(Ge ()).mpr (Nat.gcd_one_left _),hb]
   rfl
  refine⟨∅,(by show 2≤1000;decide),?_⟩
  refine atR a0 ?_
  refine⟨(by show 2≤1000;decide),(by show 1≤1000;decide),?_⟩
  show ∃os:List (Option D),os.length=(A3 (cs.map cd) (some 1) none).length∧_
  rw[show A3 (cs.map cd) (some 1) none=(cs.drop 1).map cd from Hx (h:=1) ()]
  refine⟨(cs.drop 1).map fun c=>some (cd (c.1+1,c.2)),by rw[qAa,qAa],?_,by rw[qAa,qAv];omega,?_⟩
  ·intro n x hx
   obtain⟨c,hc,rfl⟩:=Fl hx
   have hm:=dc.mem (qAR (qAw hc))
   refine⟨c.1,rfl,hm.1.n0,(by show 2≤1000;decide),?_⟩
   show((cs.drop 1).map _)[n]? = _
   rw[qAo,hc]
   rfl
  rw[Et (cs.drop 1) (fun c=>cd (c.1+1,c.2))]
  have em:(cs.drop 1).map (fun c=>cd (c.1+1,c.2))=((cs.drop 1).map fun c=>(c.1+1,c.2)).map cd:=by rw[qA8];rfl
  rw[em]
  refine⟨by rw[qAa,qAa,qAv];show 1+_≤_;omega,?_⟩
  have zb:Sz 150 (Rat.divInt ((1:Nat):Int) ((1+b:Nat):Int)):=GI () ∅ (Bh (show(((1+b:Nat):Int)).natAbs<2^10 from ()) ∅)
  have pb:0<Rat.divInt ((1:Nat):Int) ((1+b:Nat):Int):=by
   have:=Cg (a:=0) (b:=((1:Nat):Int)) (c:=((1+b:Nat):Int)) () ∅
   rw[qCd] at this
   exact this
  have F:=fin ((Rat.divInt ((1:Nat):Int) ((1+b:Nat):Int),vv cs 0)::(cs.drop 1).map fun c=>(c.1+1,c.2)) (fun c hc=>?_) (by rw[qAl,qAa,qAv];omega) (fun o=>by have:=o.t0;have:Rat.divInt ((1:Nat):Int) ((1+b:Nat):Int)=0:=this;grind)
  ·rw[qA1] at F
   have ec:cd (Rat.divInt ((1:Nat):Int) ((1+b:Nat):Int),vv cs 0)=.tup [.tup [.int 1,.int (1+p.fmod 1000)],qd (vv cs 0)]:=by rw[eb];rfl
   rw[ec] at F
   exact F
  ·rcases qAg.mp hc with z|z
   ·rw[z]
    exact⟨QS.of (qCs pb) zb,(dc.q n0).2⟩
   ·exact mdrop 1 c z
 refine⟨fun τ=>τ=[some (.d (.lst (cs.map cd))),I w,I p,I (j:Int),none,none,none,none],?_,?_⟩
 ·refine Cc (fun _=>?_) (fun _=>rfl)
  refine⟨⟨∅,Ja ∅⟩,∅,?_⟩
  refine Cc (fun _=>?_) (fun _=>rfl)
  refine Cc (fun c=>?_) (fun _=>rfl)
  have j1:j+1<cs.length:=by rw[lI] at c;omega
  refine atR (CV (cs:=cs) (i:=(j:Int)+1) (j+1) rfl j1) ?_
  refine atR aj ?_
  have e1:A3 (cs.map cd) none (some (j:Int))=(cs.take j).map cd:=Im ()
  have e2:A3 (cs.map cd) (some ((j:Int)+2)) none=(cs.drop (j+2)).map cd:=Hx (h:=j+2) ()
  rw[e1]
  refine⟨(by show 2≤1000;decide),by rw[qAa,qAz];show _+2≤_;omega,?_⟩
  show(_:List D).length+(A3 (cs.map cd) (some ((j:Int)+2)) none).length≤100000∧R (.l (_++A3 (cs.map cd) (some ((j:Int)+2)) none))
  rw[e2]
  refine⟨by rw[qAd,qAa,qAz,qAa,qAv];show _+2+_≤_;omega,?_⟩
  have F:=fin (cs.take j++(tt cs (j+1),vv cs (j+1))::(tt cs j,vv cs j)::cs.drop (j+2)) (fun c hc=>?_) (by rw[qAd,qAz];simp only[qAl,qAv];omega) (Jt fun z=>by have:=dc.o.up j j1;have:=z.1;grind)
  ·rw[qAE] at F
   show R (.l (_++[_,_]++_))
   rw[qAI]
   exact F
  ·rcases qAq.mp hc with z|z
   ·exact mm c (qBc z)
   ·rcases qAg.mp z with z|z
    ·rw[z];exact dc.q j1
    ·rcases qAg.mp z with z|z
     ·rw[z];exact dc.q jl
     ·exact mm c (qAR z)
 rintro τ rfl
 refine Cc (fun _=>?_) (fun _=>?_)
 ·have e1:A3 (cs.map cd) none (some ((j:Int)+1))=(cs.take (j+1)).map cd:=Im (h:=j+1) ()
  have e2:A3 (cs.map cd) (some (j:Int)) none=(cs.drop j).map cd:=Hx ()
  show(A3 (cs.map cd) none (some ((j:Int)+1))).length+(A3 (cs.map cd) (some (j:Int)) none).length≤100000∧R (.l (A3 (cs.map cd) none (some ((j:Int)+1))++A3 (cs.map cd) (some (j:Int)) none))
  rw[e1,e2]
  refine⟨by rw[qAa,qAz,qAa,qAv];omega,?_⟩
  have es:cs.take (j+1)++cs.drop j=cs.take j++(tt cs j,vv cs j)::(tt cs j,vv cs j)::cs.drop (j+1):=by
   rw[qA0,qAb jl,qAQ jl,(Cb jl).1,(Cb jl).2,qAI]
   rfl
  have F:=fin (cs.take (j+1)++cs.drop j) (fun c hc=>?_) (by rw[qAd,qAz,qAv];omega) (by rw[es];exact Jt fun z=>by have:=z.1;grind)
  ·rw[qAE] at F
   exact F
  ·rcases qAq.mp hc with z|z
   ·exact mm c (qBc z)
   ·exact mm c (qAR z)
 show ∃os:List (Option D),os.length=(A3 (cs.map cd) (some ((j:Int)+1)) none).length∧_
 rw[show A3 (cs.map cd) (some ((j:Int)+1)) none=(cs.drop (j+1)).map cd from Hx (h:=(j+1)) ()]
 refine⟨(cs.drop (j+1)).map fun c=>some (cd (c.1+1,c.2)),by rw[qAa,qAa],?_,by rw[qAa,qAv];omega,?_⟩
 ·intro n x hx
  obtain⟨c,hc,rfl⟩:=Fl hx
  have hm:=dc.mem (qAR (qAw hc))
  refine⟨c.1,rfl,hm.1.n0,(by show 2≤1000;decide),?_⟩
  show((cs.drop (j+1)).map _)[n]? = _
  rw[qAo,hc]
  rfl
 rw[Et (cs.drop (j+1)) (fun c=>cd (c.1+1,c.2))]
 have em:(cs.drop (j+1)).map (fun c=>cd (c.1+1,c.2))=((cs.drop (j+1)).map fun c=>(c.1+1,c.2)).map cd:=by rw[qA8];rfl
 rw[em]
 refine atR aj ?_
 refine atR aj ?_
 have zt:=(dc.z j jl).1
 have zv:=(dc.z j jl).2
 have t0:=(Er dc.o j jl).1
 have v0:=(Er dc.o j jl).2
 refine⟨vv cs j,rfl,(dc.q jl).2.n0,(by show 2≤1000;decide),?_⟩
 refine atR aj ?_
 refine⟨PySem.IntMulOk.of_left ∅,?_⟩
 refine atR aj ?_
 refine⟨PySem.IntMulOk.of_left ∅,(by show 2≤1000;decide),?_⟩
 refine atR aj ?_
 refine⟨(by show 2≤1000;decide),?_⟩
 have e1:A3 (cs.map cd) none (some (j:Int))=(cs.take j).map cd:=Im ()
 have dp:=(tt cs j).den_pos
 have zn:(2*(tt cs j).num+1).natAbs<2^152:=by have:=zt.1;omega
 have zd:(2*((tt cs j).den:Int)).natAbs<2^152:=by have:=zt.2;omega
 refine⟨2*(tt cs j).num+1,2*((tt cs j).den:Int),rfl,(),Bh zn ∅,Bh zd ∅,(by show 2≤1000;decide),(by show 2≤1000;decide),?_⟩
 refine⟨by show(A3 (cs.map cd) none (some (j:Int))).length+2≤100000;rw[e1,qAa,qAz];omega,?_⟩
 show(A3 (cs.map cd) none (some (j:Int))++[_,_]).length+(((cs.drop (j+1)).map fun c=>(c.1+1,c.2)).map cd).length≤100000∧R (.l (A3 (cs.map cd) none (some (j:Int))++[_,_]++((cs.drop (j+1)).map fun c=>(c.1+1,c.2)).map cd))
 rw[e1]
 refine⟨by rw[qAd,qAa,qAz,qAa,qAa,qAv];show _+2+_≤_;omega,?_⟩
 have tn:=(dc.q jl).1.n0
 have F:=fin (cs.take j++(tt cs j,vv cs j+1)::(Rat.divInt (2*(tt cs j).num+1) (2*((tt cs j).den:Int)),vv cs j)::(cs.drop (j+1)).map fun c=>(c.1+1,c.2)) (fun c hc=>?_) (by rw[qAd,qAz];simp only[qAl,qAa,qAv];omega) (Jt fun z=>by have:=z.2;have:vv cs j+1≤vv cs j:=this;grind)
 ·rw[qAE] at F
  rw[qAI]
  exact F
 ·rcases qAq.mp hc with z|z
  ·exact mm c (qBc z)
  ·rcases qAg.mp z with z|z
   ·rw[z];exact⟨(dc.q jl).1,QS.more v0 zv⟩
   ·rcases qAg.mp z with z|z
    ·rw[z];exact⟨⟨qCn.mpr (Ee () ()),GI () (Bh zn ∅) (Bh zd ∅)⟩,(dc.q jl).2⟩
    ·exact mdrop (j+1) c z
variable (Aw:Cal P w K mg base (CXU P w) 2 "_law_corners_spoiled" ["_law_corners","_law_way","_law_place"] AZ)
theorem Ad:Ah ["_law_words","_law_way","_law_place","_law_sign","_law_text","_law_at","_law_word","_law_odd","_law_some"] ["_law_words","_law_way","_law_place","_law_sign"] (Ab AO):=scN
include AF BK DA in
theorem CS (F:Fun K "_law_text_spoiled" "_law_text_spoiled" AO f fd):AS P w K mg base CX0 1 f fd ["_law_words","_law_way","_law_place","_law_sign"] (Ak K mg Bl):=by
 refine fn3 F Ad (fun ss R U h=>?_) (fun cdv A outer s H E ss R U hr h=>?_)
 ·obtain⟨cs,m,w,p,s,rfl,_⟩:=h;rfl
 obtain⟨cs,m,w,p,s,rfl,dc,q⟩:=h
 refine⟨_,(Aa (A8 4 Ad (Dn Ao (vN 0)))
  (Aa (A8 5 Ad (Ay Br (vN 2) (Du AF (vN 0))))
  (Aa (A8 6 Ad (Cf (vN 0) (vN 5)))
  (Aa (A8 7 Ad (CP (AU Ao (AU Ao (AU Ao (AU Ao (AU Ao (AU Ao (AU Ao (AU Ao (AU Ao (a2 Ao Ao))))))))))))
  (Aa (A8 7 Ad (Cf (A1 (vN 7) (CP (AU (CJ Iq rfl DA qAW (a1 (Ay LP Ac Ac))) (a2 Ao Ao)))) (Ay Br (vN 3) Ac)))
  (Aa (BZ (B2 DX (vN 1) Ac) (Aa (A8 5 Ad (Ay Br (vN 2) (Ay Bj (Du AF (vN 0)) Ac)))
  (BV (Dn Ao (A1 (A1 (EO (vN 0) DV (Bm (vN 5))) (CP (a1 Ao))) (EO (vN 0) (Bm (vN 5)) DV))))) Am)
  (Aa (BZ (B2 DX (vN 1) Ac) (BV (Dn Ao (A1 (EO (vN 0) DV (Bm (GA Ac))) (CP (a1 (Ka (Cf (vN 0) (GA Ac)) (Bm Ac) DV)))))) Am)
  (Aa (BZ (B2 DX (vN 1) Ac) (BV (Cf (vN 0) (GA Ac))) Am)
  (Aa (BZ (B2 DX (vN 1) Ac) (Aa (A8 8 Ad Ao)
  (Aa (A8 5 Ad (Ay Br (vN 2) (Ay Bj (B4 Fx rfl AF PySem.boot_len (a1 (vN 4))) Ac)))
  (BV (Ay BF (Ay BF (Ka (vN 4) DV (Bm (vN 5))) (Od (vN 8) (Ay Br (vN 3) (B4 Fx rfl AF PySem.boot_len (a1 (vN 8)))) (fun _ _=>rfl))) (Ka (vN 4) (Bm (vN 5)) DV))))) Am)
  (Aa (BZ (B2 DX (vN 1) Ac) (BV (Dn Ao (A1 (A1 (EO (vN 0) DV (Bm (vN 5))) (CP (a1 (JQ (JJ (j:=6) rfl (Or.inl rfl) (by decide +kernel) (by decide +kernel) (by decide +kernel)))))) (EO (vN 0) (Bm (vN 5)) DV)))) Am)
  (Aa (BZ (B2 DX (vN 1) Ac) (BV (Dn Ao (A1 (A1 (EO (vN 0) DV (Bm (vN 5))) (CP (a1 (Ay BF (Ay BF (vN 6) Ao) (CJ Iq rfl DA qAW (a1 (Ay Br (vN 2) Ac))))))) (EO (vN 0) (Bm (Ay Bj (vN 5) Ac)) DV)))) Am)
  (Di (BZ (PW3.pt (JN (B2 DX (vN 1) Ac) (HB (PW3.pt (HE (B2 DX (vN 1) Ac) (Fv (B2 DX (Ay Bj (vN 5) Ac) (Du AF (vN 0))))))))) (BV (Dn Ao (A1 (EO (vN 0) DV (Bm (GA Ac))) (CP (a1 (Ay BF Ao (vN 7))))))) Am)
  (Di (BZ (PW3.pt (HE (B2 DX (vN 1) Ac) (Fv (B2 DX (Ay Br (Ay Dg (vN 3) Ac) Ac) Ac)))) (Aa (A8 6 Ad (Ay BF (Ay BF (vN 7) Ao) (Cf (K5 (vN 6) Ao) Ac)))
  (BV (Dn Ao (A1 (A1 (EO (vN 0) DV (Bm (vN 5))) (CP (a1 (vN 6)))) (EO (vN 0) (Bm (Ay Bj (vN 5) Ac)) DV))))) Am)
  (Aa (BZ (B2 DX (vN 1) Ac) (Aa (A8 6 Ad (Ay BF (Ay BF (Cf (K5 (vN 6) Ao) Ac) Ao) (vN 7)))
  (BV (Dn Ao (A1 (A1 (EO (vN 0) DV (Bm (vN 5))) (CP (a1 (vN 6)))) (EO (vN 0) (Bm (Ay Bj (vN 5) Ac)) DV))))) Am)
  (BV (Cf (CP (AU PU (AU Ac (AU Ng (a2 (vN 0) (Gu (vN 0) rfl BK)))))) (Ay Br (vN 3) Ac))))))))))))))))),?_⟩
 have cq:=dc.cq
 have n0:=dc.o.ne
 have n4:=dc.len
 have lW:=Gw cs m
 have wo:=cq.wo
 have sW:∀ls:List (List Nat),(∀p∈ls,WO p)→ls.length≤100→(ls.map (·.length)).sum+ls.length≤1000000:=fun ls h l=>by
  have a:=Js (l:=ls) (b:=600) fun p hp=>(h p hp).len
  have:ls.length*600≤100*600:=qBp _ l
  omega
 have lI:((((wds cs m).map fun z=>D.str (mkS z)).length:Nat):Int)=(cs.length:Int)+1:=by rw[qAa,lW];rfl
 refine⟨wds cs m,32,BW,rfl,(fun z=>by cases z),sW _ wo (),?_⟩
 refine⟨by rw[lI];omega,?_⟩
 have f:=fm (a:=p) (show(0:Int)<(cs.length:Int)+1 from ())
 rw[lI]
 obtain⟨j,hj⟩:=qAM f.1
 rw[hj] at f ⊢
 have jl:j<(wds cs m).length:=()
 have wj:WO (wds cs m)[j]:=wo _ (qA3 jl)
 have aj:atI ((wds cs m).map fun z=>D.str (mkS z)) (j:Int)=some (.str (mkS (wds cs m)[j])):=Cz (by rw[qAo,qAb jl];rfl)
 refine atR aj ?_
 refine⟨(by show 11≤1000;decide),?_⟩
 have eT:Str.ofString (toString ((10:Int)^(60:Int).toNat))=mkS (num (10^60)):=Hg (10^60)
 have f14:=fm (a:=s) (show(0:Int)<14 from ∅)
 obtain⟨o,ao,od⟩:=NP eT f14.1 f14.2
 refine⟨⟨∅,∅,∅⟩,by decide +kernel,(by show 3≤1000;decide),(by show 11+3≤100000;decide),∅,?_⟩
 refine atR ao ?_
 have hX:=joinC 32 (wds cs m)
 have tl:(shC cs m).length≤50000:=qAr (join_len _) cq.wds
 have hL:(mkS (shC cs m)).length≤1000000:=by rw[mkS_len];omega
 have eD:A3 ((wds cs m).map fun z=>D.str (mkS z)) none (some (-1))=(cs.map fun c=>shc c.1 c.2).map fun z=>D.str (mkS z):=IF _ _
 have el:atI ((wds cs m).map fun z=>D.str (mkS z)) (-1)=some (.str (mkS (shm m))):=by
  unfold wds
  rw[qAE]
  exact IB
 have l1:∀k:Nat,k≤(wds cs m).length→(A3 ((wds cs m).map fun z=>D.str (mkS z)) none (some (k:Int))).length=k:=fun k h=>by rw[Im h,qAa,qAz];omega
 have l2:∀k:Nat,k≤(wds cs m).length→(A3 ((wds cs m).map fun z=>D.str (mkS z)) (some (k:Int)) none).length=(wds cs m).length-k:=fun k h=>by rw[Hx h,qAa,qAv]
 have tri:∀(k1 k2:Nat)(x:List Nat)(X:Str),X=mkS x→k1≤(wds cs m).length→k2≤(wds cs m).length→A3 ((wds cs m).map fun z=>D.str (mkS z)) none (some (k1:Int))++[D.str X]++A3 ((wds cs m).map fun z=>D.str (mkS z)) (some (k2:Int)) none=((wds cs m).take k1++x::(wds cs m).drop k2).map fun z=>D.str (mkS z):=fun k1 k2 x X e h1 h2=>by
  rw[e,Im h1,Hx h2,qAE,qAI]
  rfl
 have two:∀(x:List Nat)(X:Str),X=mkS x→A3 ((wds cs m).map fun z=>D.str (mkS z)) none (some (-1))++[D.str X]=((cs.map fun c=>shc c.1 c.2)++[x]).map fun z=>D.str (mkS z):=fun x X e=>by
  rw[e,eD,qAE]
  rfl
 have okm:∀(k1 k2:Nat)(x:List Nat),WO x→∀p∈(wds cs m).take k1++x::(wds cs m).drop k2,WO p:=fun k1 k2 x hx p hp=>by
  rcases qAq.mp hp with z|z
  ·exact wo p (qBc z)
  ·rcases qAg.mp z with z|z
   ·rw[z];exact hx
   ·exact wo p (qAR z)
 have okl:∀(k1 k2:Nat)(x:List Nat),((wds cs m).take k1++x::(wds cs m).drop k2).length≤100:=fun k1 k2 x=>by
  rw[qAd,qAl,qAz,qAv]
  omega
 have okL:∀x:List Nat,WO x→∀p∈(cs.map fun c=>shc c.1 c.2)++[x],WO p:=fun x hx p hp=>by
  rcases qAq.mp hp with z|z
  ·exact wo p (qAP _ z)
  ·rw[qAx.mp z];exact hx
 have fin:∀(k1 k2:Nat)(x:List Nat),WO x→k2<(wds cs m).length→rdC x=none→R (.d (.str (mkS (joinC 32 ((wds cs m).take k1++x::(wds cs m).drop k2))))):=fun k1 k2 x hx h2 h=>q _ (Bad.text (Jg (okm k1 k2 x hx) (okl k1 k2 x) (fun z=>by have:=congrArg List.length z;rw[qAv,qBS] at this;omega) h))
 have finL:∀x:List Nat,WO x→rdL x=none→R (.d (.str (mkS (joinC 32 ((cs.map fun c=>shc c.1 c.2)++[x]))))):=fun x hx h=>q _ (Bad.text (G9 (okL x hx) (by rw[qAa];omega) (.inr (.inl h))))
 refine Cc (fun _=>?_) (fun _=>?_)
 ·have f1:=fm (a:=p) (show(0:Int)<(cs.length:Int)+1+1 from ())
  refine⟨by rw[lI];omega,?_⟩
  rw[lI]
  obtain⟨k,hk⟩:=qAM f1.1
  rw[hk] at f1 ⊢
  have kl:k≤(wds cs m).length:=()
  have e0:Str.ofString ""=mkS []:=by decide +kernel
  have w0:WO []:=⟨∅,(fun c h=>by cases h),(fun h=>by cases h)⟩
  refine⟨(by show 1≤1000;decide),?_⟩
  show(A3 ((wds cs m).map fun z=>D.str (mkS z)) none (some (k:Int))).length+1≤100000∧_
  refine⟨by rw[l1 k kl];omega,?_⟩
  show(A3 ((wds cs m).map fun z=>D.str (mkS z)) none (some (k:Int))++[_]).length+(A3 ((wds cs m).map fun z=>D.str (mkS z)) (some (k:Int)) none).length≤100000∧_
  refine⟨by rw[qAd,l1 k kl,l2 k kl];show k+1+_≤_;omega,?_⟩
  refine⟨_,32,BW,congrArg some (tri k k [] _ e0 kl kl),(fun z=>by cases z),sW _ (okm k k [] w0) (okl k k []),?_⟩
  by_cases c:k<(wds cs m).length
  ·exact fin k k [] w0 c rfl
  ·have ek:k=(wds cs m).length:=()
   subst ek
   rw[qBH,List.drop_length]
   have e1:wds cs m++[[]]=(cs.map fun c=>shc c.1 c.2)++shm m::[[]]:=by unfold wds;rw[qAI];rfl
   rw[e1]
   exact q _ (Bad.text (Jg (fun p hp=>by
    rcases qAq.mp hp with z|z
    ·exact wo p (qAP _ z)
    ·rcases qAg.mp z with z|z
     ·rw[z];exact FI cq.qm
     ·rw[qAx.mp z];exact w0) (by rw[qAd,qAa];show _+2≤_;omega) (by simp) (LB (Na m))))
 refine Cc (fun _=>?_) (fun _=>?_)
 ·refine atR el ?_
  have es:Txt.slice (mkS (shm m)) (some 1) none=mkS (shq m):=Dz (shm m) 1
  have lm:=(FI cq.qm).len
  refine⟨by rw[mkS_len];omega,(by show 1≤1000;decide),?_⟩
  show(A3 ((wds cs m).map fun z=>D.str (mkS z)) none (some (-1))).length+1≤100000∧_
  refine⟨by rw[eD,qAa,qAa];omega,?_⟩
  have wq:WO (shq m):=FK cq.qm
  refine⟨(cs.map fun c=>shc c.1 c.2)++[shq m],32,BW,congrArg some (two _ _ es),(fun z=>by cases z),sW _ (okL _ wq) (by rw[qAd,qAa];show _+1≤100;omega),?_⟩
  exact finL _ wq (Mh m)
 refine Cc (fun _=>?_) (fun _=>?_)
 ·refine atR el ?_
  exact q _ (Bad.text (G9 (ws:=[]) (w:=shm m) (fun p hp=>by rw[qAx.mp hp];exact FI cq.qm) ∅ (.inr (.inr ⟨[],m,rfl,GO cq.qm,fun z=>absurd z.1.ne ∅⟩))))
 refine Cc (fun _=>?_) (fun _=>?_)
 ·have f1:=fm (a:=p) (show(0:Int)<((shC cs m).length:Int)+1 from ())
  have lx:=OL (shC cs m)
  refine⟨hL,?_⟩
  rw[show(((mkS (joinC 32 (wds cs m))).length:Nat):Int)=((shC cs m).length:Int) from lx]
  refine⟨(),?_⟩
  obtain⟨k,hk⟩:=qAM f1.1
  rw[hk] at f1 ⊢
  have kl:k≤(shC cs m).length:=()
  have tk:=JU (shC cs m) k
  have dk:=Dz (shC cs m) k
  have sl:(Str.ofString "!\"#$&'()*,-.;<=>?@ABCDEFGHIJKLMNOPQRSTUVWXYZ[\\]^_`abcdefghijklmnopqrstuvwxyz{|}~\n\t").length=82:=by decide +kernel
  have f2:=fm (a:=s) (show(0:Int)<((Str.ofString "!\"#$&'()*,-.;<=>?@ABCDEFGHIJKLMNOPQRSTUVWXYZ[\\]^_`abcdefghijklmnopqrstuvwxyz{|}~\n\t").length:Int) by rw[sl];decide)
  refine⟨hL,by rw[sl];decide,by rw[sl];decide,by rw[sl];decide,?_⟩
  obtain⟨c,ac,c1,c2,c3⟩:=Nw f2.1 f2.2 (by decide +kernel)
  refine⟨c,ac,?_⟩
  show(Txt.slice (mkS (shC cs m)) none (some (k:Int))).length+_≤1000000∧_
  rw[tk]
  have tkl:((shC cs m).take k).length≤50000:=by rw[qAz];omega
  refine⟨by rw[mkS_len];show _+1≤_;omega,hL,?_⟩
  show(Txt.slice (mkS (shC cs m)) none (some (k:Int))++(⟨#[c]⟩:Str)).length+(Txt.slice (mkS (shC cs m)) (some (k:Int)) none).length≤1000000∧R (.d (.str (Txt.slice (mkS (shC cs m)) none (some (k:Int)) ++ ⟨#[c]⟩++Txt.slice (mkS (shC cs m)) (some (k:Int)) none)))
  rw[tk,dk]
  have dkl:((shC cs m).drop k).length≤50000:=by rw[qAv];omega
  refine⟨by rw[C7,Au,mkS_len,mkS_len,qAd];show _+1+_≤_;omega,?_⟩
  show R (.d (.str (mkS _++mkS [c]++mkS _)))
  rw[Au,Au]
  have ha:∀d∈shC cs m,d<128:=fun d hd=>by
   rcases DU hd with z|⟨p,hp,hd⟩
   ·omega
   ·exact(wo p hp).asc d hd
  refine q _ (Bad.text (Kw (c:=c) ⟨by rw[qAd,qAd,qAz,qAv];show _+1+_≤_;omega,fun d hd=>?_⟩ (qAP _ (qAp _ qAe)) c2 c3))
  rcases qAq.mp hd with z|z
  ·rcases qAq.mp z with z|z
   ·exact ha d (qBc z)
   ·rw[qAx.mp z];exact c1
  ·exact ha d (qAR z)
 refine Cc (fun _=>?_) (fun _=>?_)
 ·obtain⟨l',er,h58,hsub,hlen⟩:=NL (wds cs m)[j]
  have eX:Str.ofString "3" ++ Txt.replace (mkS (wds cs m)[j]) (Str.ofString ":") (Str.ofString "")=mkS (51::l'):=by
   rw[er,show Str.ofString "3"=mkS [51] by decide +kernel,Au]
   rfl
  have wl:(wds cs m)[j].length≤243:=cq.wl _ (qA3 jl)
  have w':WO (51::l'):=⟨by rw[qAl];omega,fun c hc=>(qAg.mp hc).elim (fun z=>()) (fun z=>wj.asc c (hsub c z)),fun z=>(qAg.mp z).elim (fun y=>()) (fun y=>wj.bl (hsub _ y))⟩
  refine⟨by rw[mkS_len];omega,by rw[er,mkS_len];omega,(by show 1≤1000;decide),?_⟩
  show(A3 ((wds cs m).map fun z=>D.str (mkS z)) none (some (j:Int))).length+1≤100000∧_
  refine⟨by rw[l1 j ()];omega,?_⟩
  show(A3 ((wds cs m).map fun z=>D.str (mkS z)) none (some (j:Int))++[_]).length+(A3 ((wds cs m).map fun z=>D.str (mkS z)) (some (j:Int)) none).length≤100000∧_
  refine⟨by rw[qAd,l1 j (),l2 j ()];show j+1+_≤_;omega,?_⟩
  refine⟨_,32,BW,congrArg some (tri j j (51::l') _ eX () ()),(fun z=>by cases z),sW _ (okm j j _ w') (okl j j _),?_⟩
  exact fin j j _ w' jl (LB fun z=>(qAg.mp z).elim (fun y=>()) h58)
 have wl:(wds cs m)[j].length≤243:=cq.wl _ (qA3 jl)
 have e58:Str.ofString ":"=mkS [58]:=by rw[Gv,C7]
 refine Cc (fun _=>?_) (fun _=>?_)
 ·have f7:=fm (a:=p) (show(0:Int)<7 from ∅)
  obtain⟨d,hd⟩:=qAM f7.1
  have dl:d<10:=()
  have nd:=Es dl
  have ed:Str.ofString (toString (p.fmod 7))=mkS [48+d]:=by
   rw[hd,←nd]
   exact Hg d
  have eX:mkS (wds cs m)[j]++Str.ofString ":" ++ Str.ofString (toString (p.fmod 7))=mkS ((wds cs m)[j]++58::[48+d]):=by
   rw[ed,e58,Au,Au,qAI]
   rfl
  have w':WO ((wds cs m)[j]++58::[48+d]):=⟨by rw[qAd];show _+2≤_;omega,fun c hc=>?_,fun z=>?_⟩
  rotate_left
  ·rcases qAq.mp hc with z|z
   ·exact wj.asc c z
   ·simp only[qAg,qB6,or_false] at z
    omega
  ·rcases qAq.mp z with z|z
   ·exact wj.bl z
   ·simp only[qAg,qB6,or_false] at z
    omega
  refine⟨by rw[e58,mkS_len,mkS_len];show _+1≤_;omega,∅,by rw[hd,qA7];exact Nat.lt_of_le_of_lt (Nat.log2_le_self d) (),?_⟩
  refine⟨by rw[ed,e58,Au,mkS_len,mkS_len,qAd];show _+1+1≤_;omega,(by show 1≤1000;decide),?_⟩
  show(A3 ((wds cs m).map fun z=>D.str (mkS z)) none (some (j:Int))).length+1≤100000∧_
  refine⟨by rw[l1 j ()];omega,?_⟩
  show(A3 ((wds cs m).map fun z=>D.str (mkS z)) none (some (j:Int))++[_]).length+(A3 ((wds cs m).map fun z=>D.str (mkS z)) (some ((j+1:Nat):Int)) none).length≤100000∧_
  refine⟨by rw[qAd,l1 j (),l2 (j+1) ()];show j+1+_≤_;omega,?_⟩
  refine⟨_,32,BW,congrArg some (tri j (j+1) _ _ eX () ()),(fun z=>by cases z),sW _ (okm j (j+1) _ w') (okl j (j+1) _),?_⟩
  by_cases c:j<cs.length
  ·refine fin j (j+1) _ w' () ?_
   rw[MG c jl]
   unfold shc
   exact J5 _ _ _ (BU _ ∅) (BU _ ∅)
  ·have ej:j=cs.length:=()
   have e1:(wds cs m).take j++((wds cs m)[j]++58::[48+d])::(wds cs m).drop (j+1)=(cs.map fun c=>shc c.1 c.2)++[(wds cs m)[j]++58::[48+d]]:=by
    rw[qAA ()]
    congr 1
    unfold wds
    rw[ej,List.take_left' (by rw[qAa])]
   rw[e1]
   refine finL _ w' ?_
   have e2:(wds cs m)[j]=shm m:=MB ej jl
   rw[e2]
   exact IP (c:=58) (qAp _ qAe) ∅ ∅ ∅
 refine⟨fun τ=>τ=[some (.d (.lst ((wds cs m).map fun z=>D.str (mkS z)))),I w,I p,I s,some (.d (.str (mkS (shC cs m)))),I (j:Int),some (.d (.str (mkS (wds cs m)[j]))),some (.d (.str (mkS o))),none]∧(w=10→j+1<(wds cs m).length),?_,?_⟩
 ·refine Cc (fun _=>?_) (fun n9=>?_)
  ·have eX:Str.ofString "+" ++ mkS o=mkS (43::o):=by rw[Gb,C7,Au];rfl
   refine⟨by rw[Gb];show 1+_≤1000000;rw[mkS_len];have:=od.wo.len;omega,(by show 1≤1000;decide),?_⟩
   show(A3 ((wds cs m).map fun z=>D.str (mkS z)) none (some (-1))).length+1≤100000∧_
   refine⟨by rw[eD,qAa,qAa];omega,?_⟩
   refine⟨(cs.map fun c=>shc c.1 c.2)++[43::o],32,BW,congrArg some (two _ _ eX),(fun z=>by cases z),sW _ (okL _ (od.plus)) (by rw[qAd,qAa];show _+1≤100;omega),?_⟩
   exact finL _ od.plus (by show(if (43:Nat)=43 then rdQ o else none)=none;rw[if_pos rfl,od.rd])
  refine Cc (fun _=>?_) (fun n10=>⟨rfl,fun z=>absurd z n10⟩)
  refine Cc (fun c=>?_) (fun c=>⟨rfl,fun _=>by rw[lI] at c;omega⟩)
  have eX:Str.ofString "+" ++ mkS o=mkS (43::o):=by rw[Gb,C7,Au];rfl
  refine⟨by rw[Gb];show 1+_≤1000000;rw[mkS_len];have:=od.wo.len;omega,(by show 1≤1000;decide),?_⟩
  show(A3 ((wds cs m).map fun z=>D.str (mkS z)) none (some (-1))).length+1≤100000∧_
  refine⟨by rw[eD,qAa,qAa];omega,?_⟩
  refine⟨(cs.map fun c=>shc c.1 c.2)++[43::o],32,BW,congrArg some (two _ _ eX),(fun z=>by cases z),sW _ (okL _ (od.plus)) (by rw[qAd,qAa];show _+1≤100;omega),?_⟩
  exact finL _ od.plus (by show(if (43:Nat)=43 then rdQ o else none)=none;rw[if_pos rfl,od.rd])
 rintro τ ⟨rfl,h10⟩
 have ol:=od.len
 refine⟨fun τ=>τ=[some (.d (.lst ((wds cs m).map fun z=>D.str (mkS z)))),I w,I p,I s,some (.d (.str (mkS (shC cs m)))),I (j:Int),some (.d (.str (mkS (wds cs m)[j]))),some (.d (.str (mkS o))),none],?_,?_⟩
 ·refine Cc (fun w10=>?_) (fun _=>rfl)
  refine⟨⟨∅,Ja ∅⟩,∅,?_⟩
  refine Cc (fun _=>?_) (fun _=>rfl)
  have jc:j<cs.length:=by have:=h10 w10;omega
  have ew:(wds cs m)[j]=shq (tt cs j)++58::shq (vv cs j):=MG jc jl
  have qj:=dc.q jc
  refine⟨by rw[e58,mkS_len,mkS_len];show _+1≤_;omega,?_⟩
  refine⟨_,58,rfl,Gv,(),fun h=>absurd (show 58∈(wds cs m)[j] by rw[ew];exact qAp _ qAe) h,fun a b e na=>?_⟩
  obtain⟨rfl,rfl⟩:=Hq na (BU (tt cs j) ∅) (e.symm.trans ew)
  have lb:=(FK qj.2).len
  have eX:mkS o++Str.ofString ":" ++ mkS (shq (vv cs j))=mkS (o++58::shq (vv cs j)):=by
   rw[e58,Au,Au,qAI]
   rfl
  have w':WO (o++58::shq (vv cs j)):=Lp od.wo (FK qj.2) (by have:=cq.wl _ (qA3 jl);rw[ew,qAd,qAl] at this;have:=od.l100;omega)
  refine⟨by rw[e58,Au,mkS_len,mkS_len,qAd];show _+1+_≤_;omega,?_⟩
  refine⟨(by show 1≤1000;decide),?_⟩
  show(A3 ((wds cs m).map fun z=>D.str (mkS z)) none (some (j:Int))).length+1≤100000∧_
  refine⟨by rw[l1 j ()];omega,?_⟩
  show(A3 ((wds cs m).map fun z=>D.str (mkS z)) none (some (j:Int))++[_]).length+(A3 ((wds cs m).map fun z=>D.str (mkS z)) (some ((j+1:Nat):Int)) none).length≤100000∧_
  refine⟨by rw[qAd,l1 j (),l2 (j+1) ()];show j+1+_≤_;omega,?_⟩
  refine⟨_,32,BW,congrArg some (tri j (j+1) _ _ eX () ()),(fun z=>by cases z),sW _ (okm j (j+1) _ w') (okl j (j+1) _),?_⟩
  refine fin j (j+1) _ w' () ?_
  exact ET (p:=o) (by rw[BO od.co,cut_no (BU _ ∅)];exact qAe) od.rd
 rintro τ rfl
 refine Cc (fun w10=>?_) (fun _=>?_)
 ·have jc:j<cs.length:=by have:=h10 w10;omega
  have ew:(wds cs m)[j]=shq (tt cs j)++58::shq (vv cs j):=MG jc jl
  have qj:=dc.q jc
  refine⟨_,58,rfl,Gv,(),fun h=>absurd (show 58∈(wds cs m)[j] by rw[ew];exact qAp _ qAe) h,fun a b e na=>?_⟩
  obtain⟨rfl,rfl⟩:=Hq na (BU (tt cs j) ∅) (e.symm.trans ew)
  have lb:=(FK qj.1).len
  have eX:mkS (shq (tt cs j))++Str.ofString ":" ++ mkS o=mkS (shq (tt cs j)++58::o):=by
   rw[e58,Au,Au,qAI]
   rfl
  have w':WO (shq (tt cs j)++58::o):=Lp (FK qj.1) od.wo (by have:=cq.wl _ (qA3 jl);rw[ew,qAd,qAl] at this;have:=od.l100;omega)
  refine⟨by rw[e58,mkS_len,mkS_len];show _+1≤_;omega,?_⟩
  refine⟨by rw[e58,Au,mkS_len,mkS_len,qAd];show _+1+_≤_;omega,?_⟩
  refine⟨(by show 1≤1000;decide),?_⟩
  show(A3 ((wds cs m).map fun z=>D.str (mkS z)) none (some (j:Int))).length+1≤100000∧_
  refine⟨by rw[l1 j ()];omega,?_⟩
  show(A3 ((wds cs m).map fun z=>D.str (mkS z)) none (some (j:Int))++[_]).length+(A3 ((wds cs m).map fun z=>D.str (mkS z)) (some ((j+1:Nat):Int)) none).length≤100000∧_
  refine⟨by rw[qAd,l1 j (),l2 (j+1) ()];show j+1+_≤_;omega,?_⟩
  refine⟨_,32,BW,congrArg some (tri j (j+1) _ _ eX () ()),(fun z=>by cases z),sW _ (okm j (j+1) _ w') (okl j (j+1) _),?_⟩
  refine fin j (j+1) _ w' () ?_
  exact ET (p:=o) (by rw[BO (BU _ ∅),cut_no od.co];exact qAc _ qAe) od.rd
 have m0:=qBi s (show(0:Int)<5 from ∅)
 have m1:=qBx s (show(0:Int)<5 from ∅)
 refine⟨(by show 5≤1000;decide),∅,?_⟩
 generalize s.fmod 5=i at m0 m1
 have hi:i=0∨i=1∨i=2∨i=3∨i=4:=()
 rcases hi with rfl|rfl|rfl|rfl|rfl<;>exact q _ (Bad.other rfl rfl)
variable (AG:Cal P w K mg base (CXU P w) 1 "_law_text_spoiled" ["_law_words","_law_way","_law_place","_law_sign"] Bl)
theorem Co:Ah ["_law_text","e"] ["_law_text"] (Ab BN):=scN
variable (z_ValueError:mg "ValueError"=none)
variable (m_CurveError:mg "CurveError"=some (.ref K_CurveError))
variable (hn_CurveError:HnC K K_CurveError)
variable (mr_NoText_CurveError:PySem.W.mroIn K K_NoText (.ref K_CurveError)=some true)
variable (kT_NoText_ValueError:PySem.W.kitOne K (.ref K_NoText) (.type "ValueError")=some true)
variable (xi_NoText:ExI K K_NoText)
variable (kt_NoText_NoText:PySem.W.kitOne K (.ref K_NoText) (.ref K_NoText)=some true)
variable (m_NoWay:mg "NoWay"=some (.ref K_NoWay))
variable (kt_NoText_NoWay:PySem.W.kitOne K (.ref K_NoText) (.ref K_NoWay)=some false)
variable (m_NoTime:mg "NoTime"=some (.ref K_NoTime))
variable (kt_NoText_NoTime:PySem.W.kitOne K (.ref K_NoText) (.ref K_NoTime)=some false)
variable (m_NoRow:mg "NoRow"=some (.ref K_NoRow))
variable (kt_NoText_NoRow:PySem.W.kitOne K (.ref K_NoText) (.ref K_NoRow)=some false)
variable (m_NoRatio:mg "NoRatio"=some (.ref K_NoRatio))
variable (kt_NoText_NoRatio:PySem.W.kitOne K (.ref K_NoText) (.ref K_NoRatio)=some false)
variable (m_NoName:mg "NoName"=some (.ref K_NoName))
variable (kt_NoText_NoName:PySem.W.kitOne K (.ref K_NoText) (.ref K_NoName)=some false)
variable (m_NoHouse:mg "NoHouse"=some (.ref K_NoHouse))
variable (kt_NoText_NoHouse:PySem.W.kitOne K (.ref K_NoText) (.ref K_NoHouse)=some false)
variable (m_NoEnd:mg "NoEnd"=some (.ref K_NoEnd))
variable (kt_NoText_NoEnd:PySem.W.kitOne K (.ref K_NoText) (.ref K_NoEnd)=some false)
variable (kt_NoText_NoCurve:PySem.W.kitOne K (.ref K_NoText) (.ref K_NoCurve)=some false)
include Ae m_NoCurve m_NoText AJ z_ValueError m_CurveError hn_CurveError mr_NoText_CurveError kT_NoText_ValueError xi_NoText kt_NoText_NoText m_NoWay kt_NoText_NoWay m_NoTime kt_NoText_NoTime m_NoRow kt_NoText_NoRow m_NoRatio kt_NoText_NoRatio m_NoName kt_NoText_NoName m_NoHouse kt_NoText_NoHouse m_NoEnd kt_NoText_NoEnd kt_NoText_NoCurve in
theorem D6 (F:Fun K "_law_refused" "_law_refused" BN f fd):AS P w K mg base CX0 8 f fd ["_law_text"] (Ak K mg Cr):=by
 refine fn3 F Co (fun ss R U h=>?_) (fun cdv A outer s H E ss R U hr h=>?_)
 ·obtain⟨x,rfl,_⟩:=h;rfl
 obtain⟨x,rfl,bx,q⟩:=h
 refine⟨_,(Di (LK (i:=1) (y0:="NoText") rfl rfl (fun _ _ z=>z) AJ (hr.mono ∅) rfl (a1 (vN 0)) Co.nd rfl (Or.inl rfl) rfl rfl m_CurveError hn_CurveError (Qp m_NoText mr_NoText_CurveError) m_NoText (fun ea oe hO=>(LO (BZ (PW3.pt (JN (CI (Fq hO xi_NoText kt_NoText_NoCurve (pv 1) rfl m_NoCurve rfl Ae)) (JN (CI (Fq hO xi_NoText kt_NoText_NoEnd (pv 1) rfl m_NoEnd rfl Ae)) (JN (CI (Fq hO xi_NoText kt_NoText_NoHouse (pv 1) rfl m_NoHouse rfl Ae)) (HB (CI (Fq hO xi_NoText kt_NoText_NoName (pv 1) rfl m_NoName rfl Ae))))))) (BV Ng) Am)
  (LO (BZ (PW3.pt (JN (CI (Fq hO xi_NoText kt_NoText_NoRatio (pv 1) rfl m_NoRatio rfl Ae)) (JN (CI (Fq hO xi_NoText kt_NoText_NoRow (pv 1) rfl m_NoRow rfl Ae)) (JN (CI (Fq hO xi_NoText kt_NoText_NoTime (pv 1) rfl m_NoTime rfl Ae)) (HB (CI (Fq hO xi_NoText kt_NoText_NoWay (pv 1) rfl m_NoWay rfl Ae))))))) (BV Ng) Am)
  (BV (Oz (Fq hO xi_NoText kt_NoText_NoText (pv 1) rfl m_NoText rfl Ae) (Ox (NM (T:="ValueError") hO xi_NoText kT_NoText_ValueError (pv 1) rfl z_ValueError Em rfl Ae))))))))
  (BV Ng)),?_⟩
 have hu:∀ea:Addr,True:=fun _=>trivial
 refine⟨fun _=>False,⟨x,rfl,bx.1,fun _=>⟨rfl,fun ea=>?_⟩,fun l e=>?_⟩,fun _ z=>z.elim⟩
 ·exact⟨⟨rfl,rfl,rfl,rfl,rfl⟩,⟨rfl,rfl,rfl,rfl,rfl⟩,rfl,rfl,q⟩
 have bt:=bx.2 l e
 refine⟨bt.1,fun ws w e2=>⟨fun _=>⟨rfl,fun ea=>?_⟩,fun _=>⟨rfl,fun ea=>?_⟩,fun cs m h1 h2=>⟨fun z=>absurd z (bt.no e2 h1 h2),fun _=>⟨rfl,fun ea=>?_⟩⟩⟩⟩
 all_goals
  exact⟨⟨rfl,rfl,rfl,rfl,rfl⟩,⟨rfl,rfl,rfl,rfl,rfl⟩,rfl,rfl,q⟩
variable (Ba:Cal P w K mg base (CXU P w) 8 "_law_refused" ["_law_text"] Cr)
theorem Dd:Ah ["_law_script","_law_way","_law_place","_law_drawn","_law_corners","_law_last","_law_text","_law_spoiled"] ["_law_script"] (Ab Ga):=scN
include BK AJ Ag As A2 Aw AG Ba in
theorem M7 (F:Fun K "law" "law" Ga f fd):AS P w K mg base CX0 9 f fd ["_law_script"] (Ak K mg NZ):=by
 refine fn3 F Dd (fun ss R U h=>?_) (fun cdv A outer s H E ss R U hr h=>?_)
 ·obtain⟨ns,rfl,_⟩:=h;rfl
 obtain⟨ns,rfl,hl,q⟩:=h
 refine⟨_,(Aa (A8 1 Dd (Ay Br (BQ hr Ag (a2 (vN 0) Ac)) Ac))
  (Aa (A8 2 Dd (BQ hr Ag (a2 (vN 0) Ac)))
  (Aa (A8 3 Dd (BQ hr A2 (a1 (vN 0))))
  (Aa (A8 4 Dd (vK 3))
  (Aa (A8 5 Dd (vK 3))
  (Aa (A8 6 Dd (BQ hr As (a2 (vN 4) (vN 5))))
  (Di (BZ (PW3.pt (HE (B2 Qn Ac (vN 1)) (Fv (B2 MZ (vN 1) Ac)))) (Aq (A8 7 Dd (BQ hr As (a2 (BQ hr Aw (AU (vN 4) (a2 (vN 1) (vN 2)))) (vN 5))))) (Aq (A8 7 Dd (BQ hr AG (AU (Fj (vN 6) Ao) (AU (vN 1) (a2 (vN 2) (BQ hr Ag (a2 (vN 0) Ac)))))))))
  (Aa (BZ (w_not (CI (BQ hr Ba (a1 (vN 7))))) (BV Ng) Am)
  (BV (NC (Pn 4 (hu_ hr ∅)) (BQ hr AJ (a1 (vN 6))) (BE (a2 (Gu (vN 4) rfl BK) (vN 5))) (IA _))))))))))),?_⟩
 refine⟨ns,0,rfl,∅,∅,fun c0=>?_⟩
 refine⟨∅,ns,5,rfl,∅,∅,fun p=>?_⟩
 generalize c0.fmod 12=w
 refine⟨ns,rfl,fun cs m dc=>?_⟩
 have cq:=dc.cq
 refine⟨_,cs,m,rfl,Or.inr rfl,cq,?_⟩
 refine⟨fun τ=>∃x:D,τ=[some (.r (ns.map D.int)),I w,I p,some (.d (.tup [.lst (cs.map cd),qd m])),some (.d (.lst (cs.map cd))),some (.d (qd m)),some (.d (.str (mkS (shC cs m)))),some (.d x)]∧Bad x,?_,?_⟩
 ·have br:∀b:Bool,True:=fun _=>trivial
  have es:cutAt 32 (mkS (shC cs m)).cps.toList=wds cs m:=IH cs m
  have tl:(mkS (shC cs m)).length≤100000:=by rw[mkS_len];exact qAr (qAr (join_len _) cq.wds) ∅
  refine Cc (fun _=>?_) (fun _=>?_)
  ·refine Cc (fun _=>?_) (fun _=>?_)
   ·exact⟨cs,m,w,p,rfl,dc,fun cs2 c2 n2=>⟨_,cs2,m,rfl,Or.inr rfl,c2,_,rfl,Bad.text (c2.bad n2)⟩⟩
   ·refine⟨32,BW,∅,tl,ns,7,rfl,∅,∅,fun c7=>?_⟩
    exact⟨cs,m,w,p,c7,congrArg (fun z:List (List Nat)=>[S.d (.lst (z.map fun p=>D.str (mkS p))),.d (.int w),.d (.int p),.d (.int c7)]) es,dc,fun x bx=>⟨x,rfl,bx⟩⟩
  ·refine⟨32,BW,∅,tl,ns,7,rfl,∅,∅,fun c7=>?_⟩
   exact⟨cs,m,w,p,c7,congrArg (fun z:List (List Nat)=>[S.d (.lst (z.map fun p=>D.str (mkS p))),.d (.int w),.d (.int p),.d (.int c7)]) es,dc,fun x bx=>⟨x,rfl,bx⟩⟩
 rintro τ ⟨x,rfl,bx⟩
 refine⟨x,rfl,bx,?_⟩
 have tl:TL (shC cs m):=⟨qAr (qAr (join_len _) cq.wds) ∅,fun c hc=>by
  rcases DU hc with z|⟨p,hp,hd⟩
  ·omega
  ·exact(cq.wo p hp).asc c hd⟩
 refine⟨_,rfl,rfl,(fun z=>by cases z),fun l e=>?_⟩
 have e':shC cs m=l:=Gp (D.str.inj e)
 subst e'
 refine⟨tl,fun ws w' e2=>?_⟩
 rw[IH] at e2
 unfold wds at e2
 obtain⟨rfl,e3⟩:=List.append_inj' e2 rfl
 have e3:shm m=w':=(List.cons.inj e3).1
 subst e3
 refine⟨fun⟨p,hp,hn⟩=>?_,fun hn=>?_,fun cs' m' h1 h2=>?_⟩
 ·obtain⟨c,hc,rfl⟩:=qA9.mp hp
  rw[Ld (cq.mem hc).1 (cq.mem hc).2] at hn
  cases hn
 ·rw[GO cq.qm] at hn
  cases hn
 rw[cq.rd] at h1
 rw[GO cq.qm] at h2
 cases h2
 have:cs=cs':=by
  have:=congrArg (List.filterMap id) h1
  simpa using this
 subst this
 refine⟨fun _=>?_,fun z=>absurd ⟨dc.o,dc.m0⟩ z⟩
 have nn:=dc.o.ne
 rw[NR dc.bend _ (),qBj ()]
 refine⟨(by show 2≤1000;decide),Gh _ _,Gh _ _,?_⟩
 show R (.d (.bl (eqN 4 (crv cs m) (crv cs m))))
 rw[DY 4 _ (Gh _ _)]
 exact q
end
abbrev Due (l:PySem.W.OpenLaw)(w:World)(K:PySem.W.Frag)(mg:Str→Option Value)(fa:Addr):Prop:=∃fd:FuncData,(∀(s:Shared)(v:Value),BindsTo s fd ⟨[v],[]⟩ [("_law_script",v)])∧∀base:Heap,K.In base→base.Ns mainGlobals mg→∃mg',AS l.prog w K mg base CX0 9 fa fd ["_law_script"] (Ak K mg' G7)
theorem all_mk {l:PySem.W.OpenLaw}{w:World}{K:PySem.W.Frag}{h:Heap}{mg:Str→Option Value}{fa:Addr}(X:K.In h) (G:h.Ns mainGlobals mg) (hfa:mg "law"=some (.ref fa)) (fx:Facts l K):Due l w K mg fa:=by
 obtain @⟨kV,dc,pm,cd,ct,oc,od,an,sl,fL,K_CurveError,K_NoRatio,K_NoCurve,K_NoTime,K_NoHouse,K_NoWay,K_NoText,K_NoName,K_NoEnd,K_NoRow,gt_NOUGHT_0,gt_NOUGHT_1,ga_NOUGHT_2,gd_NOUGHT_3,gn_NOUGHT_3,gs_NOUGHT_3,gt_FIGURES_6,gt_MOST_FIGURES_7,r0,r1,r2,r3,r4,r5,r6,r7,r8,r9,r10,r11,r12,r13,r14,r15,r16,r17,r18,r19,r20,r21,r22,r23,r24,r25,aL,lL,cL,kL,z0,z1,z2,z3,z4,z5,z6,z7,z8,n_CurveError,n_NoRatio,n_NoCurve,n_NoTime,n_NoHouse,n_NoWay,n_NoText,n_NoName,n_NoEnd,n_NoRow,n_NOUGHT,n_gl_NOUGHT_6,x_NoCurve,x_NoText,n_FIGURES,n_MOST_FIGURES,h0_NoCurve,h1_NoCurve,h2_NoCurve,mr_NoCurve_NoCurve,kp_NoText,h0_NoText,h1_NoText,h2_NoText,h0_CurveError,h1_CurveError,h2_CurveError,mr_NoText_CurveError,kT_NoText_ValueError,i0_NoText,i1_NoText,i2_NoText,i3_NoText,i4_NoText,i5_NoText,i6_NoText,i7_NoText,kt_NoText_NoText,kt_NoText_NoWay,kt_NoText_NoTime,kt_NoText_NoRow,kt_NoText_NoRatio,kt_NoText_NoName,kt_NoText_NoHouse,kt_NoText_NoEnd,kt_NoText_NoCurve⟩:=fx
 have e:=hfa.symm.trans (qAL X G aL)
 cases e
 have Ae:=qAO X G z0
 have Gf:=qAO X G z1
 have G0:=qAO X G z2
 have FW:=qAO X G z3
 have AF:=qAO X G z4
 have A6:=qAO X G z5
 have BK:=qAO X G z6
 have DA:=qAO X G z7
 have z_ValueError:=qAO X G z8
 have gc_NOUGHT:GC K mg "NOUGHT" (.tup [(.int 0),(.int 1)]):=KD.of (qAL X G n_NOUGHT) (KD.tup n_gl_NOUGHT_6 (qBb rfl) (.cons KD.int (.cons KD.int .nil)))
 have ec_NoCurve:ExC K "NoCurve" K_NoCurve:=⟨n_NoCurve,x_NoCurve⟩
 have m_NoCurve:=qAL X G n_NoCurve
 have ec_NoText:ExC K "NoText" K_NoText:=⟨n_NoText,x_NoText⟩
 have m_NoText:=qAL X G n_NoText
 have gc_FIGURES:GC K mg "FIGURES" (.str "0123456789"):=KD.of (qAL X G n_FIGURES) KD.str
 have gc_MOST_FIGURES:GC K mg "MOST_FIGURES" (.int 60):=KD.of (qAL X G n_MOST_FIGURES) KD.int
 have hn_NoCurve:HnC K K_NoCurve:=⟨h0_NoCurve,h1_NoCurve,h2_NoCurve⟩
 have hn_NoText:HnC K K_NoText:=⟨h0_NoText,h1_NoText,h2_NoText⟩
 have m_CurveError:=qAL X G n_CurveError
 have hn_CurveError:HnC K K_CurveError:=⟨h0_CurveError,h1_CurveError,h2_CurveError⟩
 have xi_NoText:ExI K K_NoText:=⟨i0_NoText,i1_NoText,i2_NoText,i3_NoText,i4_NoText,i5_NoText,i6_NoText,i7_NoText⟩
 have m_NoWay:=qAL X G n_NoWay
 have m_NoTime:=qAL X G n_NoTime
 have m_NoRow:=qAL X G n_NoRow
 have m_NoRatio:=qAL X G n_NoRatio
 have m_NoName:=qAL X G n_NoName
 have m_NoHouse:=qAL X G n_NoHouse
 have m_NoEnd:=qAL X G n_NoEnd
 refine⟨PySem.W.fnOf "law" "law" (C6 Ga) (Bf Ga) (Ab Ga) .none kV dc pm an cd ct,fun s v=>.of_eq rfl,fun base _ _=>⟨mg,?_⟩⟩
 have M:=@mkC l.prog w K mg base h X G
 have BR:=M r0 (fun F _=>AS.anyCX (Gr Ae Gf G0 F))
 have BC:=M r1 (fun F _=>AS.anyCX (HC FW F))
 have C5:=M r2 (fun F _=>AS.anyCX (KS BR BC F))
 have Ek:=M r3 (fun F _=>AS.anyCX (Kj C5 F))
 have G1:=M r4 (fun F _=>AS.anyCX (MF C5 F))
 have Bw:=M r5 (fun F _=>AS.anyCX (Kt F))
 have Bp:=mk2 (P:=l.prog) (w:=w) (base:=base) X G r6 (fun F=>Ey Bw AF gc_NOUGHT ec_NoCurve m_NoCurve F) (by intro _ _ _ _ _ _ us hl;first|(obtain⟨x0,rfl⟩:=J4 hl;rfl)|(obtain⟨x0,x1,rfl⟩:=JY hl;rfl))
 have BG:=mk2 (P:=l.prog) (w:=w) (base:=base) X G r7 (fun F=>Fb Bw AF ec_NoCurve m_NoCurve A6 F) (by intro _ _ _ _ _ _ us hl;first|(obtain⟨x0,rfl⟩:=J4 hl;rfl)|(obtain⟨x0,x1,rfl⟩:=JY hl;rfl))
 have AW:=M r8 (fun F _=>AS.anyCX (DO Ek G1 F))
 have AX:=M r9 (fun F _=>AS.anyCX (DN AF A6 AW F))
 have EV:=mk2 (P:=l.prog) (w:=w) (base:=base) X G r10 (fun F=>Kp Bw AF gc_NOUGHT ec_NoCurve m_NoCurve Bp A6 BG AX BK F) (by intro _ _ _ _ _ _ us hl;first|(obtain⟨x0,rfl⟩:=J4 hl;rfl)|(obtain⟨x0,x1,rfl⟩:=JY hl;rfl))
 have AK:=M r11 (fun F _=>E3 Ae DA ec_NoText m_NoText F)
 have AN:=M r12 (fun F _=>D1 Gf AF ec_NoText m_NoText gc_FIGURES gc_MOST_FIGURES F)
 have AD:=M r13 (fun F _=>Fd BC AF ec_NoText m_NoText AK AN F)
 have B0:=M r14 (fun F _=>FU ec_NoText m_NoText AD F)
 have Bs:=M r15 (fun F _=>EC AF ec_NoText m_NoText AD F)
 have AJ:=M r16 (fun F _=>Fn m_NoCurve EV ec_NoText m_NoText AK B0 Bs hn_NoCurve mr_NoCurve_NoCurve kp_NoText hn_NoText F)
 have Ag:=M r17 (fun F _=>AS.anyCX (Eb AF F))
 have Ap:=M r18 (fun F _=>AS.anyCX (Eu FW F))
 have AQ:=M r19 (fun F _=>AS.anyCX (EW DA F))
 have As:=M r20 (fun F _=>AS.anyCX (Cj AQ F))
 have A2:=M r21 (fun F _=>AS.anyCX (DS A6 Ag Ap F))
 have A4:=M r22 (fun F _=>AS.anyCX (F1 F))
 have Aw:=M r23 (fun F _=>AS.anyCX (BX AF Ap A4 F))
 have AG:=M r24 (fun F _=>AS.anyCX (CS AF BK DA F))
 have Ba:=M r25 (fun F _=>AS.anyCX (D6 Ae m_NoCurve m_NoText AJ z_ValueError m_CurveError hn_CurveError mr_NoText_CurveError kT_NoText_ValueError xi_NoText kt_NoText_NoText m_NoWay kt_NoText_NoWay m_NoTime kt_NoText_NoTime m_NoRow kt_NoText_NoRow m_NoRatio kt_NoText_NoRatio m_NoName kt_NoText_NoName m_NoHouse kt_NoText_NoHouse m_NoEnd kt_NoText_NoEnd kt_NoText_NoCurve F))
 exact M7 BK AJ Ag As A2 Aw AG Ba (Ir (st:=Ga) lL cL kL)
end CL
theorem PySem.Challenge.cw_curvehouse_k51_no_curves_texts_holds : PySem.Challenge.rw_curvehouse_k51_no_curves_texts.Holds := by
 exact(CL.front CL.lA) fun e1 e2 e3 e4 e5 fx=>L3.walk3 (l:=PySem.Challenge.rw_curvehouse_k51_no_curves_texts) (k:=9) (x:="_law_script") rfl e1 ⟨rfl,∅,∅⟩ e2 e3 e4 fun w mg fa h X G hg=>CL.all_mk X G (e5 ▸ hg) (fx w)
