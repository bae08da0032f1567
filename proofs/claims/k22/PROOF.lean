import PyProof.Rows.All
import PySem.Challenge.RW_curvehouse_k22_leads
import KE.KItem
import KE.KLam
import KE.KNestM
import KE.KIsAll
import KE.KLcPair
import KE.RegMulBits
import KE.KFromBytes
set_option Elab.async false
set_option linter.all false
set_option maxRecDepth 100000
namespace L2
open PySem
def jEy (s:Stmt):Arguments:=match s with
 |.FunctionDef _ a _ _ _ _ _ _ _ _=>a
 |_=>{ posonlyargs:=[],args:=[],vararg:=none,kwonlyargs:=[],kw_defaults:=[],kwarg:=none,defaults:=[] }
def jBD (s:Stmt):List Stmt:=match s with
 |.FunctionDef _ _ b _ _ _ _ _ _ _=>b
 |_=>[]
def jAc (s:Stmt):Scope:=match s with
 |.FunctionDef _ _ _ _ _ _ sc _ _ _=>sc
 |_=>{ kind:=.function,names:=[],isGenerator:=false,isCoroutine:=false }
end L2
namespace L3
open PySem L2
abbrev rA (K:PySem.W.Frag)(n:Str)(f:Addr):Prop:=PySem.W.nsIn K mainGlobals n=some (some (.ref f))
abbrev rL (K:PySem.W.Frag)(f:Addr)(n:Str)(st:Stmt)(oc:Value)(od:Option Addr)(kV dc pm:Value)(an:Option Addr)(cd ct:Value)(sl:Array (Option Value)):Prop:=K.lookup f=some ⟨oc,od,.func (PySem.W.fnOf n n (jEy st) (jBD st) (jAc st) .none kV dc pm an cd ct),sl⟩
abbrev rC (K:PySem.W.Frag)(cd:Value)(n:Str):Prop:=PySem.W.codeIn K cd n=true
abbrev rK (K:PySem.W.Frag)(f:Addr):Prop:=PySem.W.keepIn K (.ref f)=true
inductive Rw (K:PySem.W.Frag)(n:Str)(st:Stmt):Prop
 |mk {f:Addr}{oc:Value}{od:Option Addr}{kV dc pm:Value}{an:Option Addr}{cd ct:Value}{sl:Array (Option Value)}(a:rA K n f) (l:rL K f n st oc od kV dc pm an cd ct sl) (c:rC K cd n) (k:rK K f)
end L3
namespace CL
open PySem L2 L3
def top (i:Nat):Stmt:=PySem.Challenge.pw_curvehouse_k22_leads.main.body.getD i (.Pass ⟨0,0,0,0⟩)
abbrev jFb:Stmt:=top 12
abbrev jFY:Stmt:=top 13
abbrev jIZ:Stmt:=top 16
abbrev jKw:Stmt:=top 17
abbrev jIF:Stmt:=top 18
abbrev jIx:Stmt:=top 19
abbrev jLo:Stmt:=top 20
abbrev jHg:Stmt:=top 21
abbrev jIN:Stmt:=top 23
abbrev jDc:Stmt:=top 24
abbrev jDD:Stmt:=top 25
abbrev jFf:Stmt:=top 26
abbrev jD3:Stmt:=top 27
abbrev jDR:Stmt:=top 28
abbrev jCd:Stmt:=top 29
abbrev jCz:Stmt:=top 30
abbrev jA0:Stmt:=top 31
abbrev jBi:Stmt:=top 32
abbrev jBj:Stmt:=top 33
abbrev jFk:Stmt:=top 34
abbrev jDm:Stmt:=top 35
abbrev jDf:Stmt:=top 37
abbrev jCP:Stmt:=top 38
abbrev jD7:Stmt:=top 39
abbrev jEo:Stmt:=top 40
abbrev jJE:Stmt:=top 41
abbrev jDN:Stmt:=top 42
abbrev jDF:Stmt:=top 43
abbrev jEO:Stmt:=top 44
abbrev jE3:Stmt:=top 45
abbrev jCj:Stmt:=top 46
abbrev jDI:Stmt:=top 47
abbrev jB2:Stmt:=top 48
abbrev jCS:Stmt:=top 49
abbrev jLc:Stmt:=top 50
abbrev jLU:Stmt:=top 51
abbrev jLw:Stmt:=top 52
abbrev jEC:Stmt:=top 53
abbrev jEp:Stmt:=top 54
abbrev jFg:Stmt:=top 55
abbrev jHw:Stmt:=top 57
abbrev jMa:Stmt:=top 58
abbrev jBv:Stmt:=top 59
abbrev jBs:Stmt:=top 60
abbrev jFj:Stmt:=top 61
abbrev jCQ:Stmt:=top 63
abbrev jDh:Stmt:=top 64
abbrev jEn:Stmt:=top 65
abbrev jDy:Stmt:=top 66
abbrev jEq:Stmt:=top 67
abbrev jCp:Stmt:=top 68
abbrev jCq:Stmt:=top 69
abbrev jCM:Stmt:=top 70
abbrev jB6:Stmt:=top 71
abbrev jBx:Stmt:=top 72
abbrev jFc:Stmt:=top 73
abbrev jDB:Stmt:=top 74
abbrev jCw:Stmt:=top 75
abbrev jEA:Stmt:=top 76
abbrev jDe:Stmt:=top 77
abbrev jCU:Stmt:=top 78
abbrev jE8:Stmt:=top 79
abbrev jFW:Stmt:=top 80
inductive Facts (l:PySem.W.OpenLaw)(K:PySem.W.Frag):Prop
 |mk {kV dc pm cd ct oc:Value}{od an:Option Addr}{sl:Array (Option Value)}{fL K_CurveError K_NoRatio K_NoCurve K_NoTime K_NoHouse K_NoWay K_NoText K_NoName K_NoEnd K_NoRow:Addr}{gt_NOUGHT_0:Tok}{gt_NOUGHT_1:Tok}{ga_NOUGHT_2:Addr}{gd_NOUGHT_3:Option Addr}{gn_NOUGHT_3:Nat}{gs_NOUGHT_3:Array (Option Value)}
  (r0:Rw K "is_whole" jFb)
  (r1:Rw K "divisor" jFY)
  (r2:Rw K "ratio" jIZ)
  (r3:Rw K "plus" jKw)
  (r4:Rw K "minus" jIF)
  (r5:Rw K "times" jIx)
  (r6:Rw K "over" jLo)
  (r7:Rw K "under" jHg)
  (r8:Rw K "check_begin" jDc)
  (r9:Rw K "check_rise" jDD)
  (r10:Rw K "slope_between" jCz)
  (r11:Rw K "slopes_behind" jA0)
  (r12:Rw K "curve" jIN)
  (r13:Rw K "check_time" jDR)
  (r14:Rw K "count_while" jDm)
  (r15:Rw K "piece_at" jD3)
  (r16:Rw K "slope_of_piece" jCd)
  (r17:Rw K "value_at" jFf)
  (r18:Rw K "steeper_corners" jBi)
  (r19:Rw K "flatter_corners" jBj)
  (r20:Rw K "outgrows" jFk)
  (r21:Rw K "line_through" jCP)
  (r22:Rw K "pieces_of" jDf)
  (r23:Rw K "corner_of" jEo)
  (r24:Rw K "curve_of" jD7)
  (r25:Rw K "moved_time" jDN)
  (r26:Rw K "moved_line" jDF)
  (r27:Rw K "laid" jJE)
  (r28:Rw K "flipped" jEO)
  (r29:Rw K "turned" jE3)
  (r30:Rw K "from_nought" jCj)
  (r31:Rw K "sooner_begin" jCS)
  (r32:Rw K "side_by_side" jB2)
  (r33:Rw K "sign" jLw)
  (r34:Rw K "side" jLc)
  (r35:Rw K "lean" jLU)
  (r36:Rw K "add_piece" jEp)
  (r37:Rw K "crossing" jFg)
  (r38:Rw K "add_lower" jEC)
  (r39:Rw K "lowered" jDI)
  (r40:Rw K "begin_and_steeper" jBv)
  (r41:Rw K "undone" jHw)
  (r42:Rw K "ahead_by" jFj)
  (r43:Rw K "possible_leads" jBs)
  (r44:Rw K "lead" jMa)
  (r45:Rw K "_law_cell_at" jCQ)
  (r46:Rw K "_law_lowest" jDh)
  (r47:Rw K "_law_less" jEn)
  (r48:Rw K "_law_minus" jDy)
  (r49:Rw K "_law_plus" jEq)
  (r50:Rw K "_law_slope_by" jCp)
  (r51:Rw K "_law_curve_by" jCq)
  (r52:Rw K "_law_cells" jCM)
  (r53:Rw K "_law_mixed" jB6)
  (r54:Rw K "_law_digits_curve" jBx)
  (r55:Rw K "_law_two" jFc)
  (r56:Rw K "_law_value" jDB)
  (r57:Rw K "_law_is_ratio" jCw)
  (r58:Rw K "_law_back" jEA)
  (r59:Rw K "_law_moment" jDe)
  (r60:Rw K "_law_refused" jCU)
  (r61:Rw K "_law_gap" jE8)
  (aL:rA K "law" fL) (lL:rL K fL "law" jFW oc od kV dc pm an cd ct sl) (cL:rC K cd "law") (kL:rK K fL)
  (z0:PySem.W.nsIn K mainGlobals "isinstance"=some none)
  (z1:PySem.W.nsIn K mainGlobals "int"=some none)
  (z2:PySem.W.nsIn K mainGlobals "bool"=some none)
  (z3:PySem.W.nsIn K mainGlobals "abs"=some none)
  (z4:PySem.W.nsIn K mainGlobals "len"=some none)
  (z5:PySem.W.nsIn K mainGlobals "range"=some none)
  (z6:PySem.W.nsIn K mainGlobals "tuple"=some none)
  (z7:PySem.W.nsIn K mainGlobals "zip"=some none)
  (z8:PySem.W.nsIn K mainGlobals "enumerate"=some none)
  (z9:PySem.W.nsIn K mainGlobals "ValueError"=some none)
  (z10:PySem.W.nsIn K mainGlobals "list"=some none)
  (z11:PySem.W.nsIn K mainGlobals "max"=some none)
  (z12:PySem.W.nsIn K mainGlobals "min"=some none)
  (n_CurveError:rA K "CurveError" K_CurveError)
  (n_NoRatio:rA K "NoRatio" K_NoRatio)
  (n_NoCurve:rA K "NoCurve" K_NoCurve)
  (n_NoTime:rA K "NoTime" K_NoTime)
  (n_NoHouse:rA K "NoHouse" K_NoHouse)
  (n_NoWay:rA K "NoWay" K_NoWay)
  (n_NoText:rA K "NoText" K_NoText)
  (n_NoName:rA K "NoName" K_NoName)
  (n_NoEnd:rA K "NoEnd" K_NoEnd)
  (n_NoRow:rA K "NoRow" K_NoRow)
  (n_NOUGHT:PySem.W.nsIn K mainGlobals "NOUGHT"=some (some (.ref ga_NOUGHT_2)))
  (n_gl_NOUGHT_6:K.lookup ga_NOUGHT_2=some ⟨.type "tuple",gd_NOUGHT_3,.seq #[(.int 0 gt_NOUGHT_0),(.int 1 gt_NOUGHT_1)] gn_NOUGHT_3,gs_NOUGHT_3⟩)
  (x_NoCurve:PySem.W.excIn K K_NoCurve [.type "ValueError",.type "Exception",.type "BaseException",.type "object"] "ValueError.__new__"=true)
  (x_NoTime:PySem.W.excIn K K_NoTime [.type "ValueError",.type "Exception",.type "BaseException",.type "object"] "ValueError.__new__"=true)
  (h0_CurveError:PySem.W.instIn K (.ref K_CurveError) (.type "tuple")=some false)
  (h1_CurveError:(PySem.W.clsIn K K_CurveError).isSome=true)
  (h2_CurveError:PySem.W.mroIn K K_CurveError (.type "BaseException")=some true)
  (mr_NoTime_CurveError:PySem.W.mroIn K K_NoTime (.ref K_CurveError)=some true)
  (kT_NoTime_ValueError:PySem.W.kitOne K (.ref K_NoTime) (.type "ValueError")=some true)
  (i0_NoTime:PySem.W.findIn K (.ref K_NoTime) "__getattribute__"=some (some (.builtin "BaseException.__getattribute__")))
  (i1_NoTime:PySem.W.findIn K (.ref K_NoTime) "__getattr__"=some none)
  (i2_NoTime:(PySem.W.clsIn K K_NoTime).isSome=true)
  (i3_NoTime:PySem.W.findIn K (.ref K_NoTime) "__class__"=some (some (.builtin "object.__class__")))
  (i4_NoTime:PySem.W.specialIn K (.builtin "object.__class__") "__get__"=some (some (.builtin "getset_descriptor.__get__")))
  (i5_NoTime:PySem.W.takesIn K (.builtin "object.__class__")=some true)
  (i6_NoTime:PySem.W.mroIn K K_NoTime (.type "object")=some true)
  (i7_NoTime:PySem.W.mroIn K K_NoTime (.type "BaseException")=some true)
  (kt_NoTime_NoTime:PySem.W.kitOne K (.ref K_NoTime) (.ref K_NoTime)=some true)
  (kt_NoTime_NoRow:PySem.W.kitOne K (.ref K_NoTime) (.ref K_NoRow)=some false)
  (kt_NoTime_NoEnd:PySem.W.kitOne K (.ref K_NoTime) (.ref K_NoEnd)=some false)
  (kt_NoTime_NoName:PySem.W.kitOne K (.ref K_NoTime) (.ref K_NoName)=some false)
  (kt_NoTime_NoText:PySem.W.kitOne K (.ref K_NoTime) (.ref K_NoText)=some false)
  (kt_NoTime_NoHouse:PySem.W.kitOne K (.ref K_NoTime) (.ref K_NoHouse)=some false)
  (kt_NoTime_NoRatio:PySem.W.kitOne K (.ref K_NoTime) (.ref K_NoRatio)=some false)
  (kt_NoTime_NoWay:PySem.W.kitOne K (.ref K_NoTime) (.ref K_NoWay)=some false)
  (kt_NoTime_NoCurve:PySem.W.kitOne K (.ref K_NoTime) (.ref K_NoCurve)=some false)
  (ht_piece_at:(PySem.W.tabIn K "piece_at").isSome=true)
  (hp_piece_at:(PyProof.Rows.recsOf l.prog).any (fun d=>d.name == "piece_at")=true)
  (ht_from_nought:(PySem.W.tabIn K "from_nought").isSome=true)
  (hp_from_nought:(PyProof.Rows.recsOf l.prog).any (fun d=>d.name == "from_nought")=true)
  (ht_side_by_side:(PySem.W.tabIn K "side_by_side").isSome=true)
  (hp_side_by_side:(PyProof.Rows.recsOf l.prog).any (fun d=>d.name == "side_by_side")=true)
  (ht_lowered:(PySem.W.tabIn K "lowered").isSome=true)
  (hp_lowered:(PyProof.Rows.recsOf l.prog).any (fun d=>d.name == "lowered")=true)
end CL
section
set_option maxRecDepth 100000
set_option maxHeartbeats 0
open PySem PySem.W PyProof.Rows
noncomputable def CL.qv:Program:={ PySem.Challenge.pw_curvehouse_k22_leads with main:={ PySem.Challenge.pw_curvehouse_k22_leads.main with body:=[CL.top 1,CL.top 2,CL.top 3,CL.top 4,CL.top 5,CL.top 6,CL.top 7,CL.top 8,CL.top 9,CL.top 10,CL.top 12,CL.top 13,CL.top 15,CL.top 16,CL.top 17,CL.top 18,CL.top 19,CL.top 20,CL.top 21,CL.top 23,CL.top 24,CL.top 25,CL.top 26,CL.top 27,CL.top 28,CL.top 29,CL.top 30,CL.top 31,CL.top 32,CL.top 33,CL.top 34,CL.top 35,CL.top 37,CL.top 38,CL.top 39,CL.top 40,CL.top 41,CL.top 42,CL.top 43,CL.top 44,CL.top 45,CL.top 46,CL.top 47,CL.top 48,CL.top 49,CL.top 50,CL.top 51,CL.top 52,CL.top 53,CL.top 54,CL.top 55,CL.top 57,CL.top 58,CL.top 59,CL.top 60,CL.top 61,CL.top 63,CL.top 64,CL.top 65,CL.top 66,CL.top 67,CL.top 68,CL.top 69,CL.top 70,CL.top 71,CL.top 72,CL.top 73,CL.top 74,CL.top 75,CL.top 76,CL.top 77,CL.top 78,CL.top 79,CL.top 80] } }
def CL.grow:List Obj→Nat→BT→BT
 |[],_,T=>T
 |x::l,i,T=>CL.grow l (i+1) (T.ins i x)
noncomputable def CL.b0 (P:Params):BT:=CL.grow (boot_heap P).objs.toList 0 .nil
theorem CL.b0_abs (P:Params):absHeap (CL.b0 P) 11 (boot_heap P).life=boot_heap P:=by kernel_rfl
theorem CL.b0_sz (P:Params):(boot_heap P).objs.size=11:=by kernel_rfl
theorem CL.b0_ns (P:Params):(boot_heap P).isNs mainGlobals=true:=by kernel_rfl
noncomputable def CL.tT (tb:String→Option Builtin)(p:Program)(w:World)(k:Nat)(an:Option Value):Nat→SharedT→Thread→Option SharedT
 |0,_,_=>none
 |m+1,a,c=>match through c,stepOk k an c with
  |true,_=>some a
  |false,false=>none
  |false,true=>match stepT (denote tb) p w a c with
   |none=>none
   |some (a',c')=>CL.tT tb p w k an m a' c'
theorem CL.tT_of {tb:String→Option Builtin}{p:Program}{w:World}{k:Nat}{an:Option Value}:∀{m:Nat}{a r:SharedT}{c:Thread},CL.tT tb p w k an m a c=some r→topRun tb p w k an m a.abs c=some r.abs
 |0,_,_,_,h=>by cases h
 |m+1,a,r,c,h=>by
  unfold CL.tT at h
  unfold topRun
  cases e1:through c with
  |true=>rw[e1] at h;cases h;rfl
  |false =>
   cases e2:stepOk k an c with
   |false=>rw[e1,e2] at h;cases h
   |true =>
    rw[e1,e2] at h
    dsimp only at h ⊢
    cases e3:stepT (denote tb) p w a c with
    |none=>rw[e3] at h;cases h
    |some x =>
     obtain⟨a',c'⟩:=x
     rw[e3] at h
     rw[stepT_spec e3]
     exact CL.tT_of h
noncomputable def CL.s0 (w:World)(os:OsState):SharedT:=⟨CL.b0 w.params,11,(boot_heap w.params).life,Array.mk [],boot_drawn,boot_toks,os⟩
theorem CL.s0_abs (w:World)(os:OsState):(CL.s0 w os).abs=⟨boot_heap w.params,Array.mk [],boot_drawn,boot_toks,os⟩:=by
 unfold CL.s0 SharedT.abs
 dsimp only
 rw[CL.b0_abs]
noncomputable def CL.an (w:World):Option Value:=(boot_heap w.params).nsMap mainGlobals "__annotations__"
noncomputable def CL.fin (p:Program)(w:World)(N:Nat)(os:OsState):Option SharedT:=CL.tT treeTable p w 11 (CL.an w) N (CL.s0 w os) (topStub p)
noncomputable def CL.ok (p:Program)(w:World)(s:Shared):Bool :=
 staticsOk (importedModules p.main.body) (boot_heap w.params) s.heap&&namesBound p s.heap &&
 gensDone s&&laidKept (boot_heap w.params) s.heap
theorem CL.lo {p q:Program}{Xt:Shared→Bool}{α:Type}{Yf:Shared→α}{Ya:World→α}{N:Nat}
 (o:∀w:World,(fencedOpening treeTable p w N).map (fun s=>(s.heap,s.gens,s.drawn,s.toks))=some (boot_heap w.params,Array.mk [],boot_drawn,boot_toks))
 (a:∀(w:World)(os:OsState),(CL.fin p w N os).map (fun s=>(CL.ok p w s.abs,openSeen q [] (importedModules p.main.body) Xt true s.abs))=some (true,openGood q []))
 (b:∀(w:World)(os:OsState),(CL.fin p w N os).map (fun s=>Yf s.abs)=some (Ya w)):LeftO p q [] Xt Yf Ya N true:=by
 intro w
 obtain⟨s,e,e'⟩:=Option.map_eq_some_iff.mp (o w)
 obtain⟨h,gs,d,k,os⟩:=s
 simp only[Prod.mk.injEq] at e'
 obtain⟨e1,e2,e3,e4⟩:=e'
 subst e1 e2 e3 e4
 obtain⟨s,hs,hv⟩:=Option.map_eq_some_iff.mp (a w os)
 have hb:=b w os
 rw[hs] at hb
 have hy:Yf s.abs=Ya w:=Option.some.inj hb
 have r:=CL.tT_of hs
 rw[CL.s0_abs] at r
 obtain⟨v1,v2⟩:=Prod.mk.inj hv
 have t:topFrom treeTable p w N ⟨boot_heap w.params,Array.mk [],boot_drawn,boot_toks,os⟩=some s.abs:=by
  unfold topFrom
  dsimp only
  rw[CL.b0_ns,CL.b0_sz]
  change Option.bind (topRun treeTable p w 11 (CL.an w) N _ _) _=_
  rw[r]
  show(match CL.ok p w s.abs with|true=>some s.abs|false=>none)=some s.abs
  rw[v1]
 unfold openEnds
 rw[e]
 show(topFrom treeTable p w N _).map _=_
 rw[t,←v2,←hy]
 rfl
theorem CL.op (w:World):(fencedOpening treeTable ((OpenLaw.row PySem.Challenge.rw_curvehouse_k22_leads).toRowW.prog) w 30100).map (fun s=>(s.heap,s.gens,s.drawn,s.toks))=some (boot_heap w.params,Array.mk [],boot_drawn,boot_toks):=boot_open (by kernel_rfl) (by decide +kernel) (fun s=>by kernel_rfl) w
theorem CL.tri {α β γ δ:Type}{ε ζ:Type}{o:Option α}{f:α→β}{g:α→γ}{h:α→δ}{k:α→ε}{l:α→ζ}{b:β}{c:γ}{d:δ}{e:ε}{y:ζ}(h1:o.map (fun s=>(f s,g s))=some (b,c)) (h2:o.map (fun s=>(h s,k s))=some (d,e)) (h3:o.map l=some y):o.map (fun s=>(f s,(g s,(h s,(k s,l s)))))=some (b,(c,(d,(e,y)))):=by
 cases o with
 |none=>cases h1
 |some x =>
  obtain⟨e1,e2⟩:=Prod.mk.inj (Option.some.inj h1)
  obtain⟨e3,e4⟩:=Prod.mk.inj (Option.some.inj h2)
  have e5:l x=y:=Option.some.inj h3
  show some (f x,(g x,(h x,(k x,l x))))=_
  rw[e1,e2,e3,e4,e5]
theorem CL.lA1 (w:World)(os:OsState):(CL.fin ((OpenLaw.row PySem.Challenge.rw_curvehouse_k22_leads).toRowW.prog) w 30100 os).map (fun s=>(CL.ok ((OpenLaw.row PySem.Challenge.rw_curvehouse_k22_leads).toRowW.prog) w s.abs,(openSeen CL.qv [] (importedModules ((OpenLaw.row PySem.Challenge.rw_curvehouse_k22_leads).toRowW.prog).main.body) (fun s=>xlAt CL.qv [] s&&recOk (RowW.records (OpenRow.toRowW (OpenLaw.row PySem.Challenge.rw_curvehouse_k22_leads))) s) true s.abs).1))=some (true,expectedOf CL.qv):=by kernel_rfl
theorem CL.lA2 (w:World)(os:OsState):(CL.fin ((OpenLaw.row PySem.Challenge.rw_curvehouse_k22_leads).toRowW.prog) w 30100 os).map (fun s=>((openSeen CL.qv [] (importedModules ((OpenLaw.row PySem.Challenge.rw_curvehouse_k22_leads).toRowW.prog).main.body) (fun s=>xlAt CL.qv [] s&&recOk (RowW.records (OpenRow.toRowW (OpenLaw.row PySem.Challenge.rw_curvehouse_k22_leads))) s) true s.abs).2.1,(openSeen CL.qv [] (importedModules ((OpenLaw.row PySem.Challenge.rw_curvehouse_k22_leads).toRowW.prog).main.body) (fun s=>xlAt CL.qv [] s&&recOk (RowW.records (OpenRow.toRowW (OpenLaw.row PySem.Challenge.rw_curvehouse_k22_leads))) s) true s.abs).2.2.1))=some (bltViewBooted,true):=by kernel_rfl
theorem CL.lA3 (w:World)(os:OsState):(CL.fin ((OpenLaw.row PySem.Challenge.rw_curvehouse_k22_leads).toRowW.prog) w 30100 os).map (fun s=>((openSeen CL.qv [] (importedModules ((OpenLaw.row PySem.Challenge.rw_curvehouse_k22_leads).toRowW.prog).main.body) (fun s=>xlAt CL.qv [] s&&recOk (RowW.records (OpenRow.toRowW (OpenLaw.row PySem.Challenge.rw_curvehouse_k22_leads))) s) true s.abs).2.2.2.1,(openSeen CL.qv [] (importedModules ((OpenLaw.row PySem.Challenge.rw_curvehouse_k22_leads).toRowW.prog).main.body) (fun s=>xlAt CL.qv [] s&&recOk (RowW.records (OpenRow.toRowW (OpenLaw.row PySem.Challenge.rw_curvehouse_k22_leads))) s) true s.abs).2.2.2.2.1,(openSeen CL.qv [] (importedModules ((OpenLaw.row PySem.Challenge.rw_curvehouse_k22_leads).toRowW.prog).main.body) (fun s=>xlAt CL.qv [] s&&recOk (RowW.records (OpenRow.toRowW (OpenLaw.row PySem.Challenge.rw_curvehouse_k22_leads))) s) true s.abs).2.2.2.2.2.1,(openSeen CL.qv [] (importedModules ((OpenLaw.row PySem.Challenge.rw_curvehouse_k22_leads).toRowW.prog).main.body) (fun s=>xlAt CL.qv [] s&&recOk (RowW.records (OpenRow.toRowW (OpenLaw.row PySem.Challenge.rw_curvehouse_k22_leads))) s) true s.abs).2.2.2.2.2.2.1,(openSeen CL.qv [] (importedModules ((OpenLaw.row PySem.Challenge.rw_curvehouse_k22_leads).toRowW.prog).main.body) (fun s=>xlAt CL.qv [] s&&recOk (RowW.records (OpenRow.toRowW (OpenLaw.row PySem.Challenge.rw_curvehouse_k22_leads))) s) true s.abs).2.2.2.2.2.2.2.1,(openSeen CL.qv [] (importedModules ((OpenLaw.row PySem.Challenge.rw_curvehouse_k22_leads).toRowW.prog).main.body) (fun s=>xlAt CL.qv [] s&&recOk (RowW.records (OpenRow.toRowW (OpenLaw.row PySem.Challenge.rw_curvehouse_k22_leads))) s) true s.abs).2.2.2.2.2.2.2.2))=some (true,pinGoodD (drecsOf CL.qv),plainGoodE CL.qv (looseW CL.qv []),plainGoodD CL.qv [],wideGood CL.qv,clsGoodW CL.qv []):=by kernel_rfl
theorem CL.lA (w:World)(os:OsState):(CL.fin ((OpenLaw.row PySem.Challenge.rw_curvehouse_k22_leads).toRowW.prog) w 30100 os).map (fun s=>(CL.ok ((OpenLaw.row PySem.Challenge.rw_curvehouse_k22_leads).toRowW.prog) w s.abs,openSeen CL.qv [] (importedModules ((OpenLaw.row PySem.Challenge.rw_curvehouse_k22_leads).toRowW.prog).main.body) (fun s=>xlAt CL.qv [] s&&recOk (RowW.records (OpenRow.toRowW (OpenLaw.row PySem.Challenge.rw_curvehouse_k22_leads))) s) true s.abs))=some (true,openGood CL.qv []):=CL.tri (CL.lA1 w os) (CL.lA2 w os) (CL.lA3 w os)
end
section
open PySem PySem.W PyProof.Rows
local macro_rules|`(tactic| o_head $H)=>`(tactic| (
 refine holds_open (q:=CL.qv) (loose:=[]) (N:=30100)
  (Xt:=(fun s=>xlAt CL.qv [] s&&recOk (RowW.records (OpenRow.toRowW (OpenLaw.row PySem.Challenge.rw_curvehouse_k22_leads))) s))
  (XP:=XL CL.qv []) (Yf:=Hook.obs $H) (Ya:=Hook.val $H)
  (YP:=Hook.says $H) ?hl (Hook.of $H) (Hook.keeps $H)
  (fun s e=>xl_of s (Bool.and_eq_true_iff.mp e).1) XL.keeps (by rfl) (by rfl) (by rfl)
  (fun s e=>recFacts_of (Bool.and_eq_true_iff.mp e).2) (by rfl) (by first|assumption|decide +kernel)
  (by decide +kernel) ⟨rfl,rfl,rfl,rfl,rfl,by decide +kernel⟩ ?hw ?hc
 case hl =>
  refine CL.lo CL.op CL.lA ?_
  intro w os
  kernel_rfl))
set_option maxRecDepth 100000 in
set_option maxHeartbeats 0 in
theorem CL.front (hF:∀{q:Program}{loose:List Str}{XP:(Str→Option Value)→Heap→Prop}{YP:World→Heap→Prop}{d:DefRec}{K:Params→PySem.W.Frag},d.params.defaults=[]→(∀y:Str,(recsOf PySem.Challenge.rw_curvehouse_k22_leads.prog).any (fun d=>d.name==y)=true→(recsOf q).any (fun d=>d.name==y)=true)→(∀(w:World)(h:Heap),YP w h→(K w.params).In h)→(∀w:World,PySem.W.noTabs (K w.params)=true)→d.name="law"→(∀w:World,CL.Facts PySem.Challenge.rw_curvehouse_k22_leads (K w.params))→PySem.W.WalkO q loose XP YP PySem.Challenge.rw_curvehouse_k22_leads.row.toRowW d [] (fun f vs=>PySem.call f vs)):PySem.Challenge.rw_curvehouse_k22_leads.Holds:=by
 w_on;o_law;k_head;(case hw=>w_witness2)
 k_fill
 refine hF rfl (fun _ h=>h) (fun w h Y=>PySem.W.km_in_of Y) (fun w=>?nt) rfl (fun w=>?F)
 case nt=>kernel_rfl
 case F =>
  refine' CL.Facts.mk (.mk ?a0 ?l0 ?c0 ?k0) (.mk ?a1 ?l1 ?c1 ?k1) (.mk ?a2 ?l2 ?c2 ?k2) (.mk ?a3 ?l3 ?c3 ?k3) (.mk ?a4 ?l4 ?c4 ?k4) (.mk ?a5 ?l5 ?c5 ?k5) (.mk ?a6 ?l6 ?c6 ?k6) (.mk ?a7 ?l7 ?c7 ?k7) (.mk ?a8 ?l8 ?c8 ?k8) (.mk ?a9 ?l9 ?c9 ?k9) (.mk ?a10 ?l10 ?c10 ?k10) (.mk ?a11 ?l11 ?c11 ?k11) (.mk ?a12 ?l12 ?c12 ?k12) (.mk ?a13 ?l13 ?c13 ?k13) (.mk ?a14 ?l14 ?c14 ?k14) (.mk ?a15 ?l15 ?c15 ?k15) (.mk ?a16 ?l16 ?c16 ?k16) (.mk ?a17 ?l17 ?c17 ?k17) (.mk ?a18 ?l18 ?c18 ?k18) (.mk ?a19 ?l19 ?c19 ?k19) (.mk ?a20 ?l20 ?c20 ?k20) (.mk ?a21 ?l21 ?c21 ?k21) (.mk ?a22 ?l22 ?c22 ?k22) (.mk ?a23 ?l23 ?c23 ?k23) (.mk ?a24 ?l24 ?c24 ?k24) (.mk ?a25 ?l25 ?c25 ?k25) (.mk ?a26 ?l26 ?c26 ?k26) (.mk ?a27 ?l27 ?c27 ?k27) (.mk ?a28 ?l28 ?c28 ?k28) (.mk ?a29 ?l29 ?c29 ?k29) (.mk ?a30 ?l30 ?c30 ?k30) (.mk ?a31 ?l31 ?c31 ?k31) (.mk ?a32 ?l32 ?c32 ?k32) (.mk ?a33 ?l33 ?c33 ?k33) (.mk ?a34 ?l34 ?c34 ?k34) (.mk ?a35 ?l35 ?c35 ?k35) (.mk ?a36 ?l36 ?c36 ?k36) (.mk ?a37 ?l37 ?c37 ?k37) (.mk ?a38 ?l38 ?c38 ?k38) (.mk ?a39 ?l39 ?c39 ?k39) (.mk ?a40 ?l40 ?c40 ?k40) (.mk ?a41 ?l41 ?c41 ?k41) (.mk ?a42 ?l42 ?c42 ?k42) (.mk ?a43 ?l43 ?c43 ?k43) (.mk ?a44 ?l44 ?c44 ?k44) (.mk ?a45 ?l45 ?c45 ?k45) (.mk ?a46 ?l46 ?c46 ?k46) (.mk ?a47 ?l47 ?c47 ?k47) (.mk ?a48 ?l48 ?c48 ?k48) (.mk ?a49 ?l49 ?c49 ?k49) (.mk ?a50 ?l50 ?c50 ?k50) (.mk ?a51 ?l51 ?c51 ?k51) (.mk ?a52 ?l52 ?c52 ?k52) (.mk ?a53 ?l53 ?c53 ?k53) (.mk ?a54 ?l54 ?c54 ?k54) (.mk ?a55 ?l55 ?c55 ?k55) (.mk ?a56 ?l56 ?c56 ?k56) (.mk ?a57 ?l57 ?c57 ?k57) (.mk ?a58 ?l58 ?c58 ?k58) (.mk ?a59 ?l59 ?c59 ?k59) (.mk ?a60 ?l60 ?c60 ?k60) (.mk ?a61 ?l61 ?c61 ?k61) ?aL ?lL ?cL ?kL ?z0 ?z1 ?z2 ?z3 ?z4 ?z5 ?z6 ?z7 ?z8 ?z9 ?z10 ?z11 ?z12 ?n_CurveError ?n_NoRatio ?n_NoCurve ?n_NoTime ?n_NoHouse ?n_NoWay ?n_NoText ?n_NoName ?n_NoEnd ?n_NoRow ?n_NOUGHT ?n_gl_NOUGHT_6 ?x_NoCurve ?x_NoTime ?h0_CurveError ?h1_CurveError ?h2_CurveError ?mr_NoTime_CurveError ?kT_NoTime_ValueError ?i0_NoTime ?i1_NoTime ?i2_NoTime ?i3_NoTime ?i4_NoTime ?i5_NoTime ?i6_NoTime ?i7_NoTime ?kt_NoTime_NoTime ?kt_NoTime_NoRow ?kt_NoTime_NoEnd ?kt_NoTime_NoName ?kt_NoTime_NoText ?kt_NoTime_NoHouse ?kt_NoTime_NoRatio ?kt_NoTime_NoWay ?kt_NoTime_NoCurve ?ht_piece_at ?hp_piece_at ?ht_from_nought ?hp_from_nought ?ht_side_by_side ?hp_side_by_side ?ht_lowered ?hp_lowered
  case a0|l0|c0|k0|a1|l1|c1|k1|a2|l2|c2|k2|a3|l3|c3|k3|a4|l4|c4|k4|a5|l5|c5|k5|a6|l6|c6|k6|a7|l7|c7|k7|a8|l8|c8|k8|a9|l9|c9|k9|a10|l10|c10|k10|a11|l11|c11|k11|a12|l12|c12|k12|a13|l13|c13|k13|a14|l14|c14|k14|a15|l15|c15|k15|a16|l16|c16|k16|a17|l17|c17|k17|a18|l18|c18|k18|a19|l19|c19|k19|a20|l20|c20|k20|a21|l21|c21|k21|a22|l22|c22|k22|a23|l23|c23|k23|a24|l24|c24|k24|a25|l25|c25|k25|a26|l26|c26|k26|a27|l27|c27|k27|a28|l28|c28|k28|a29|l29|c29|k29|a30|l30|c30|k30|a31|l31|c31|k31|a32|l32|c32|k32|a33|l33|c33|k33|a34|l34|c34|k34|a35|l35|c35|k35|a36|l36|c36|k36|a37|l37|c37|k37|a38|l38|c38|k38|a39|l39|c39|k39|a40|l40|c40|k40|a41|l41|c41|k41|a42|l42|c42|k42|a43|l43|c43|k43|a44|l44|c44|k44|a45|l45|c45|k45|a46|l46|c46|k46|a47|l47|c47|k47|a48|l48|c48|k48|a49|l49|c49|k49|a50|l50|c50|k50|a51|l51|c51|k51|a52|l52|c52|k52|a53|l53|c53|k53|a54|l54|c54|k54|a55|l55|c55|k55|a56|l56|c56|k56|a57|l57|c57|k57|a58|l58|c58|k58|a59|l59|c59|k59|a60|l60|c60|k60|a61|l61|c61|k61|aL|lL|cL|kL|z0|z1|z2|z3|z4|z5|z6|z7|z8|z9|z10|z11|z12|n_CurveError|n_NoRatio|n_NoCurve|n_NoTime|n_NoHouse|n_NoWay|n_NoText|n_NoName|n_NoEnd|n_NoRow|n_NOUGHT|n_gl_NOUGHT_6=>(show _=_;k_is)
  case x_NoCurve|x_NoTime|h0_CurveError|h1_CurveError|h2_CurveError|mr_NoTime_CurveError|kT_NoTime_ValueError|i0_NoTime|i1_NoTime|i2_NoTime|i3_NoTime|i4_NoTime|i5_NoTime|i6_NoTime|i7_NoTime|kt_NoTime_NoTime|kt_NoTime_NoRow|kt_NoTime_NoEnd|kt_NoTime_NoName|kt_NoTime_NoText|kt_NoTime_NoHouse|kt_NoTime_NoRatio|kt_NoTime_NoWay|kt_NoTime_NoCurve|ht_piece_at|hp_piece_at|ht_from_nought|hp_from_nought|ht_side_by_side|hp_side_by_side|ht_lowered|hp_lowered=>kernel_rfl
end
namespace L2
open PySem PySem.Spec PyProof.Rows
abbrev Key:=Sum Int Str
def jP7:Key→Value→Bool
 |.inl k,v=>Value.isInt k v
 |.inr x,v=>Value.isStrOf x v
def jSR (w:World):Key→Int
 |.inl k=>hashInt k
 |.inr x=>hashStr w x
theorem jA6:∀{k:Key}{v:Value},jP7 k v=true→(∃i t,k=Sum.inl i∧v=Value.int i t)∨(∃x t,k=Sum.inr x∧v=Value.str x t)
 |.inl i,v,h=>by
  obtain⟨t,e⟩:=Value.isInt_shape (k:=i) (v:=v) h
  exact .inl ⟨i,t,rfl,e⟩
 |.inr x,v,h=>by
  obtain⟨t,e⟩:=Value.isStrOf_shape (x:=x) (v:=v) h
  exact .inr ⟨x,t,rfl,e⟩
theorem jQU (a b:Int):decide ((Sum.inl a:Key)=Sum.inl b)=(a==b):=by
 by_cases e:a=b
 ·subst e;simp
 ·have h:¬(Sum.inl a:Key)=Sum.inl b:=fun q=>e (Sum.inl.inj q)
  rw[decide_eq_false h]
  exact(beq_eq_false_iff_ne.mpr e).symm
theorem jQW (a b:Str):decide ((Sum.inr a:Key)=Sum.inr b)=decide (a=b):=by
 by_cases e:a=b
 ·subst e;simp
 ·have h:¬(Sum.inr a:Key)=Sum.inr b:=fun q=>e (Sum.inr.inj q)
  rw[decide_eq_false h,decide_eq_false e]
theorem jPK (a:Int)(b:Str):decide ((Sum.inl a:Key)=Sum.inr b)=false:=decide_eq_false (fun q=>nomatch q)
theorem jPL (a:Str)(b:Int):decide ((Sum.inr a:Key)=Sum.inl b)=false:=decide_eq_false (fun q=>nomatch q)
def jIX (prog:Program)(w:World):PySem.KeyKind prog w Key where
 is:=jP7
 hash:=jSR w
 inj:=fun v a b ha hb=>by
  rcases jA6 ha with⟨i,t,rfl,rfl⟩|⟨x,t,rfl,rfl⟩
  ·rcases jA6 hb with⟨j,u,rfl,e⟩|⟨y,u,rfl,e⟩
   ·injection e with e1 _;rw[e1]
   ·exact nomatch e
  ·rcases jA6 hb with⟨j,u,rfl,e⟩|⟨y,u,rfl,e⟩
   ·exact nomatch e
   ·injection e with e1 _;rw[e1]
 byValue:=fun k v h=>by
  rcases jA6 h with⟨i,t,rfl,rfl⟩|⟨x,t,rfl,rfl⟩<;>rfl
 pyHash:=fun hv h=>by
  rcases jA6 hv with⟨i,t,rfl,rfl⟩|⟨x,t,rfl,rfl⟩
  ·exact wpAny_pyHash_int h
  ·exact wpAny_pyHash_str h
 eqBool:=fun hu hv h=>by
  rcases jA6 hu with⟨i,t,rfl,rfl⟩|⟨x,t,rfl,rfl⟩
  ·rcases jA6 hv with⟨j,u,rfl,rfl⟩|⟨y,u,rfl,rfl⟩
   ·rw[jQU] at h;exact wpAny_eqBool_int h
   ·rw[jPK] at h;exact SeqAt.EqAt.int_str i t y u _ _ _ _ h
  ·rcases jA6 hv with⟨j,u,rfl,rfl⟩|⟨y,u,rfl,rfl⟩
   ·rw[jPL] at h;exact SeqAt.EqAt.str_int x t j u _ _ _ _ h
   ·rw[jQW] at h;exact wpAny_eqBool_str h
 «strs»:=fun k x t v h=>by
  rcases jA6 h with⟨i,u,rfl,e⟩|⟨y,u,rfl,e⟩
  ·exact nomatch e
  ·injection e with e1 _
   subst e1
   cases v<;>rfl
end L2
namespace L2
open PySem PySem.Spec PyProof.Rows
inductive V where
 |non|bl (b:Bool)|int (i:Int)|str (x:Str)|byt (b:Array UInt8)|flt (b:UInt64)|ref (a:Addr)|ty (n:String)
 deriving DecidableEq
def jBM:V→Value→Prop
 |.non,u=>u=Value.none
 |.bl b,u=>u=Value.bool b
 |.int i,u=>∃t,u=Value.int i t
 |.str x,u=>∃t,u=Value.str x t
 |.byt b,u=>∃t,u=Value.bytes b t
 |.flt b,u=>∃t,u=Value.float b t
 |.ref a,u=>u=Value.ref a
 |.ty n,u=>u=Value.type n
abbrev jBJ:List V→List Value→Prop:=Paired jBM
theorem jBJ.length {xs:List V}{us:List Value}(r:jBJ xs us):xs.length=us.length:=Paired.length r
theorem jBJ.get:∀{xs:List V}{us:List Value}{i:Nat}{x:V},jBJ xs us→xs[i]? = some x→∃u,us[i]? = some u∧jBM x u
 |_,_,_,_,.nil,e=>by simp at e
 |_,_,0,_,.cons r _,e=>by simp at e;subst e;exact⟨_,rfl,r⟩
 |_,_,i+1,x,.cons _ t,e=>by
  obtain⟨u,h1,h2⟩:=jBJ.get (i:=i) (x:=x) t (by simpa using e)
  exact⟨u,by simpa using h1,h2⟩
theorem jBJ.append:∀{xs ys:List V}{us ws:List Value},jBJ xs us→jBJ ys ws→jBJ (xs++ys) (us++ws)
 |_,_,_,_,.nil,s=>s
 |_,_,_,_,.cons r t,s=>.cons r (jBJ.append t s)
theorem jBJ.take:∀{xs:List V}{us:List Value}(n:Nat),jBJ xs us→jBJ (xs.take n) (us.take n)
 |_,_,0,_=>.nil
 |_,_,_+1,.nil=>.nil
 |_,_,n+1,.cons r t=>.cons r (jBJ.take n t)
theorem jBJ.drop:∀{xs:List V}{us:List Value}(n:Nat),jBJ xs us→jBJ (xs.drop n) (us.drop n)
 |_,_,0,r=>r
 |_,_,_+1,.nil=>.nil
 |_,_,n+1,.cons _ t=>jBJ.drop n t
def jRA:Option V→Option Value→Prop
 |some v,some u=>jBM v u
 |none,none=>True
 |_,_=>False
def KV {κ:Type}:List (κ×V)→List (κ×Value)→Prop:=Paired fun(p:κ×V)(q:κ×Value)=>p.1=q.1∧jBM p.2 q.2
def kV:Key→V
 |.inl i=>.int i
 |.inr x=>.str x
inductive HO where
 |lst (xs:List V)
 |tup (xs:List V)
 |dK (kvs:List (Key×V))|dT (kvs:List (List Key×V))
 |set (S:Int→Bool) (n:Nat)
 |ins (C dx:Addr) (fs:List (Str×V))
 |own (x:Addr)
 |xd (fs:List (Str×V))
 |met (f x:Addr)
 |rng (lo hi:Int)
 |frz (o:Obj) (u:HO)
 |tbl (ps:Array Value)
 |ext (φ:Heap→Prop)
abbrev Hp:=Addr→Option HO
def upd (H:Hp)(a:Addr)(o:HO):Hp:=fun b=>if b=a then some o else H b
theorem jAp {H:Hp}{a:Addr}{o:HO}:upd H a o a=some o:=by unfold upd;rw[if_pos rfl]
theorem jAn {H:Hp}{a b:Addr}{o:HO}(h:b≠a):upd H a o b=H b:=by unfold upd;rw[if_neg h]
theorem jAx {H:Hp}{a b:Addr}{o:HO}(h:H a=some o) (h':H b=none):a≠b:=by
 intro e;subst e;rw[h] at h';cases h'
def jI5 (H:Hp)(h:Heap)(a:Addr):Prop:=∃tab:Array Value,h.get? a=some { cls:=.none,data:=.fields tab }∧TriplesOk tab.toList ∧
 ∀(pos:Pos)(cv:Value),codeAmong pos tab.toList=some cv→∃(c:Addr)(oc:Obj)(fs:Array Value)(nm:Str)(t:Nat),cv=.ref c∧H c=some (.frz oc (.own a))∧oc.data=.fields fs∧fs[1]? = some (.str nm t)
theorem jI5.stay {H H':Hp}{h h':Heap}{a:Addr}(x:jI5 H h a) (k:∀o,h.get? a=some o→h'.get? a=some o) (hf:∀b o u,H b=some (.frz o u)→H' b=some (.frz o u)):jI5 H' h' a:=by
 obtain⟨tab,e,tr,q⟩:=x
 refine⟨tab,k _ e,tr,fun pos cv z=>?_⟩
 obtain⟨c,oc,fs,nm,t,z1,z2,z3⟩:=q pos cv z
 exact⟨c,oc,fs,nm,t,z1,hf _ _ _ z2,z3⟩
section
variable (P:Program) (w:World)
def jCo (H:Hp)(h:Heap)(a:Addr):HO→Prop
 |.lst xs=>xs.length≤sizeLine∧∃(its:List Value)(n:Nat),jBJ xs its∧h.get? a=some { cls:=.type "list",data:=.seq its.toArray n }
 |.tup xs=>xs.length≤sizeLine∧∃its:List Value,jBJ xs its∧IsTup h a its.toArray
 |.dK kvs=>kvs.length≤sizeLine∧(a==sysModules)=false∧∃vs,KV kvs vs∧h.DictOf (jIX P w) a vs
 |.dT kvs=>kvs.length≤sizeLine∧(a==sysModules)=false∧∃xs:List (List Key×Addr×Value),
  Paired (fun(p:List Key×V)(q:List Key×Addr×Value)=>p.1=q.1∧H q.2.1=some (.tup (p.1.map kV))∧jBM p.2 q.2.2) kvs xs ∧
  ∃o es ep,h.get? a=some o∧o.ExactDict∧o.data=.dict es ep∧es.toList=xs.map (entryOfKey (tupleKind (jIX P w)))∧(xs.map (·.1)).Nodup
 |.set S n=>h.SetOf (intKind P w) a S n
 |.ins C dx fs=>H dx=some (.own a)∧fs.length≤1000∧dx≠a∧h.get? a=some (PySem.W.instObj C dx) ∧
  ∃mA,h.Ns1 dx mA∧(∀f,jRA (fs.lookup f) (mA f))∧PySem.Within mA (fs.map (·.1))
 |.own _=>∃o,h.get? a=some o
 |.xd fs=>∃mA,h.Ns1 a mA∧∀f,jRA (fs.lookup f) (mA f)
 |.rng lo hi=>∃t u v,h.get? a=some { cls:=.type "range",data:=.fields #[.int lo t,.int hi u,.int 1 v] }
 |.frz o u=>h.get? a=some o∧jCo H h a u
 |.tbl _=>jI5 H h a
 |.met f x=>h.get? a=some (PySem.W.methodObj (.ref f) (.ref x))
 |.ext φ=>φ h∧(∃o,h.get? a=some o)∧∀h1 h2:Heap,φ h1→(∀o,h1.get? a=some o→h2.get? a=some o)→φ h2
def HOk (H:Hp)(h:Heap):Prop:=∀a o,H a=some o→jCo P w H h a o
end
section
variable {P:Program}{w:World}{H H':Hp}{h h':Heap}{a:Addr}{o:HO}
theorem jCo.lt (x:jCo P w H h a o):a<h.objs.size:=by
 cases o with
 |lst xs=>obtain⟨_,_,_,_,e⟩:=x;exact Heap.lt_size e
 |tup xs=>obtain⟨_,_,_,p⟩:=x;exact p.lt
 |dK kvs=>obtain⟨_,_,_,_,o,_,_,e,_⟩:=x;exact Heap.lt_size e
 |dT kvs=>obtain⟨_,_,_,_,o,_,_,e,_⟩:=x;exact Heap.lt_size e
 |set S n=>obtain⟨o,_,_,_,e,_⟩:=x;exact Heap.lt_size e
 |ins C dx fs=>obtain⟨_,_,_,e,_⟩:=x;exact Heap.lt_size e
 |own y=>obtain⟨_,e⟩:=x;exact Heap.lt_size e
 |xd fs=>obtain⟨_,⟨_,_,_,e,_⟩,_⟩:=x;exact Heap.lt_size e
 |rng lo hi=>obtain⟨_,_,_,e⟩:=x;exact Heap.lt_size e
 |frz ob u=>obtain⟨e,_⟩:=x;exact Heap.lt_size e
 |tbl ps=>obtain⟨_,e,_⟩:=x;exact Heap.lt_size e
 |met f y=>exact Heap.lt_size (show h.get? a=some _ from x)
 |ext φ=>obtain⟨_,⟨_,e⟩,_⟩:=x;exact Heap.lt_size e
theorem Paired.mapP {α β:Type}{F G:α→β→Prop}:∀{l₁:List α}{l₂:List β},Paired F l₁ l₂→(∀a b,F a b→G a b)→Paired G l₁ l₂
 |_,_,.nil,_=>.nil
 |_,_,.cons r t,f=>.cons (f _ _ r) (Paired.mapP t f)
theorem jCo.stay (x:jCo P w H h a o)(k:∀b u,(b=a∨H b=some (.own a))→h.get? b=some u→h'.get? b=some u)
 (ho:∀b,H b=some (.own a)→H' b=some (.own a))(ht:∀b xs,H b=some (.tup xs)→H' b=some (.tup xs))(hf:∀b o u,H b=some (.frz o u)→H' b=some (.frz o u):=by intro _ _ _ q;exact q):jCo P w H' h' a o:=by
 induction o with
 |lst xs=>obtain⟨z,its,n,r,e⟩:=x;exact⟨z,its,n,r,k _ _ (.inl rfl) e⟩
 |tup xs=>obtain⟨z,its,r,ob,e,c⟩:=x;exact⟨z,its,r,ob,k _ _ (.inl rfl) e,c⟩
 |dK kvs=>obtain⟨z,y,vs,r,ob,es,ep,e,c⟩:=x;exact⟨z,y,vs,r,ob,es,ep,k _ _ (.inl rfl) e,c⟩
 |dT kvs =>
  obtain⟨z,y,xs,r,ob,es,ep,e,c⟩:=x
  exact⟨z,y,xs,Paired.mapP r fun p q z=>⟨z.1,ht _ _ z.2.1,z.2.2⟩,ob,es,ep,k _ _ (.inl rfl) e,c⟩
 |set S n=>obtain⟨ob,es,ep,t,e,c⟩:=x;exact⟨ob,es,ep,t,k _ _ (.inl rfl) e,c⟩
 |ins C dx fs =>
  obtain⟨d,z,ne,e,mA,⟨od,es,ep,e2,c⟩,r⟩:=x
  exact⟨ho _ d,z,ne,k _ _ (.inl rfl) e,mA,⟨od,es,ep,k _ _ (.inr d) e2,c⟩,r⟩
 |own y=>obtain⟨ob,e⟩:=x;exact⟨ob,k _ _ (.inl rfl) e⟩
 |xd fs=>obtain⟨mA,⟨od,es,ep,e,c⟩,r⟩:=x;exact⟨mA,⟨od,es,ep,k _ _ (.inl rfl) e,c⟩,r⟩
 |rng lo hi=>obtain⟨t,u,v,e⟩:=x;exact⟨t,u,v,k _ _ (.inl rfl) e⟩
 |frz ob u ih=>obtain⟨e,q⟩:=x;exact⟨k _ _ (.inl rfl) e,ih q⟩
 |tbl ps=>exact jI5.stay x (fun u q=>k _ _ (.inl rfl) q) hf
 |met f y =>
  have e:h.get? a=some (PySem.W.methodObj (.ref f) (.ref y)):=x
  show h'.get? a=some (PySem.W.methodObj (.ref f) (.ref y))
  exact k a _ (.inl rfl) e
 |ext φ=>obtain⟨p,⟨o,e⟩,st⟩:=x;exact⟨st _ _ p fun o q=>k _ _ (.inl rfl) q,⟨o,k _ _ (.inl rfl) e⟩,st⟩
theorem HOk.lt (x:HOk P w H h)(e:H a=some o):a<h.objs.size:=(x a o e).lt
theorem HOk.fresh (x:HOk P w H h)(e:h.objs.size≤a):H a=none:=by
 cases q:H a with
 |none=>rfl
 |some u=>exact absurd (Nat.lt_of_lt_of_le (x.lt q) e) (Nat.lt_irrefl _)
theorem HOk.kept (x:HOk P w H h)(k:∀b u,h.get? b=some u→h'.get? b=some u):HOk P w H h':=fun a o e =>
 (x a o e).stay (fun b u _ q=>k b u q) (fun _ q=>q) fun _ _ q=>q
theorem HOk.laid (x:HOk P w H h)(k:∀b u,h.get? b=some u→h'.get? b=some u)(hp:h.objs.size≤a)(new:jCo P w (upd H a o) h' a o):HOk P w (upd H a o) h':=fun b u e=>by
 have hn:=x.fresh hp
 by_cases hb:b=a
 ·subst hb;rw[jAp] at e;cases e;exact new
 ·rw[jAn hb] at e
  exact(x b u e).stay (hf:=fun c w1 w2 q=>by rw[jAn (jAx q hn)];exact q) (fun c v _ q=>k c v q) (fun c q=>by rw[jAn (jAx q hn)];exact q) fun c xs q=>by rw[jAn (jAx q hn)];exact q
end
def Rd (H:Hp)(a:Addr)(u:HO):Prop:=H a=some u∨∃o,H a=some (.frz o u)
theorem Rd.ok {P:Program}{w:World}{H:Hp}{h:Heap}{a:Addr}{u:HO}(r:Rd H a u) (x:HOk P w H h):jCo P w H h a u:=by
 rcases r with r|⟨o,r⟩
 ·exact x a u r
 ·obtain⟨_,q⟩:=x a _ r
  exact q
def Mut:Option HO→Prop
 |some (.lst _)=>True
 |some (.dK _)=>True
 |some (.dT _)=>True
 |some (.set _ _)=>True
 |some (.ins _ _ _)=>True
 |some (.ext _)=>True
 |_=>False
section
variable {P:Program}{w:World}{H:Hp}{h h':Heap}{x e:Addr}{o':HO}
theorem HOk.write (ok:HOk P w H h)(mu:Mut (H x))(he:e=x∨H e=some (.own x))(k:∀b u,b≠e→h.get? b=some u→h'.get? b=some u)(heo:∃u,h'.get? e=some u)
 (new:jCo P w (upd H x o') h' x o'):HOk P w (upd H x o') h':=fun b u q=>by
 have nown:∀c y,H c=some (.own y)→c≠x:=fun c y r z=>by subst z;rw[r] at mu;exact mu
 have ntup:∀c xs,H c=some (.tup xs)→c≠x:=fun c xs r z=>by subst z;rw[r] at mu;exact mu
 by_cases hb:b=x
 ·subst hb;rw[jAp] at q;cases q;exact new
 ·rw[jAn hb] at q
  by_cases hbe:b=e
  ·have q':H b=some (.own x):=by
    rcases he with z|z
    ·exact absurd (hbe.trans z) hb
    ·rw[hbe];exact z
   rw[q] at q';cases q'
   obtain⟨v,hv⟩:=heo
   exact⟨v,by rw[hbe];exact hv⟩
  ·refine(ok b u q).stay (hf:=fun c w1 w2 r=>by rw[jAn (fun z=>by subst z;rw[r] at mu;exact mu)];exact r) (fun c v hc r=>k c v ?_ r) (fun c r=>by rw[jAn (nown c b r)];exact r) fun c xs r=>by rw[jAn (ntup c xs r)];exact r
   rcases hc with rfl|hc
   ·exact hbe
   ·rintro rfl
    rcases he with z|z
    ·exact nown c b hc z
    ·rw[hc] at z;cases z;exact hb rfl
end
structure Un (fs ex:List Addr)(H H':Hp)(h h':Heap):Prop where
 keep:∀b o,h.get? b=some o→H b=none→b∉fs→b∉ex→h'.get? b=some o
 slot:∀b o,h.get? b=some o→H b=none→b∈fs→b∉ex→∃sl,h'.get? b=some { o with slots:=sl }
 free:∀b o,h.get? b=some o→H b=none→b∉ex→H' b=none
 there:∀b o,h.get? b=some o→b∉ex→∃o',h'.get? b=some o'
 tups:∀b xs,H b=some (.tup xs)→H' b=some (.tup xs)
 frzs:∀b o u,H b=some (.frz o u)→H' b=some (.frz o u)
 tbls:∀b ps,H b=some (.tbl ps)→∃more,H' b=some (.tbl (ps++more))
section
variable {fs fs' ex ex':List Addr}{H H1 H2:Hp}{h h1 h2 h':Heap}{a x e:Addr}{o:HO}
theorem Un.any (u:Un fs ex H H1 h h1){b:Addr}{ob:Obj}(q:h.get? b=some ob) (n:H b=none) (hx:b∉ex):∃sl,h1.get? b=some { ob with slots:=sl }:=by
 by_cases hb:b∈fs
 ·exact u.slot b ob q n hb hx
 ·exact⟨ob.slots,u.keep b ob q n hb hx⟩
theorem Un.kept (k:∀b u,h.get? b=some u→h'.get? b=some u):Un fs ex H H h h' :=
 ⟨fun b ob q _ _ _=>k b ob q,fun b ob q _ _ _=>⟨ob.slots,k b ob q⟩,fun _ _ _ n _=>n,fun b ob q _=>⟨ob,k b ob q⟩,fun _ _ q=>q,fun _ _ _ q=>q,fun _ ps q=>⟨#[],by rw[q];simp⟩⟩
theorem Un.refl:Un fs ex H H h h:=Un.kept fun _ _ q=>q
theorem Un.laid (k:∀b u,h.get? b=some u→h'.get? b=some u)(hp:h.objs.size≤a)(hn:H a=none):Un fs ex H (upd H a o) h h' where
 keep:=fun b u q _ _ _=>k b u q
 slot:=fun b u q _ _ _=>⟨u.slots,k b u q⟩
 free:=fun b u q n _=>by rw[jAn (Nat.ne_of_lt (Nat.lt_of_lt_of_le (Heap.lt_size q) hp))];exact n
 there:=fun b u q _=>⟨u,k b u q⟩
 tups:=fun b xs q=>by rw[jAn (jAx q hn)];exact q
 frzs:=fun b u xs q=>by rw[jAn (jAx q hn)];exact q
 tbls:=fun b ps q=>⟨#[],by rw[jAn (jAx q hn),q];simp⟩
theorem Un.write (mu:Mut (H x))(he:e=x∨H e=some (.own x))(k:∀b u,b≠e→h.get? b=some u→h'.get? b=some u)(heo:∃u,h'.get? e=some u):Un fs ex H (upd H x o) h h':=by
 have hx:∀b,H b=none→b≠x:=fun b n z=>by subst z;rw[n] at mu;exact mu
 have hb:∀b,H b=none→b≠e:=fun b n z=>by
  subst z
  rcases he with r|r
  ·exact hx b n r
  ·rw[n] at r;cases r
 have hm:∀b u,H b=some u→¬Mut (some u)→b≠x:=fun b u q nm z=>by subst z;rw[q] at mu;exact nm mu
 refine⟨fun b u q n _ _=>k b u (hb b n) q,fun b u q n _ _=>⟨u.slots,k b u (hb b n) q⟩,fun b u q n _=>by rw[jAn (hx b n)];exact n,fun b u q _=>?_,
  fun b xs q=>by rw[jAn (hm b _ q fun z=>z)];exact q,fun b u xs q=>by rw[jAn (hm b _ q fun z=>z)];exact q,fun b ps q=>⟨#[],by rw[jAn (hm b _ q fun z=>z),q];simp⟩⟩
 by_cases hbe:b=e
 ·subst hbe;exact heo
 ·exact⟨u,k b u hbe q⟩
end
def trk (h:Heap)(H:Hp):List Addr:=(List.range h.objs.size).filter fun a=>(H a).isSome
def jMe (h:Heap)(H:Hp):Heap:=PySem.W.hideAll h (trk h H)
theorem jLA (h:Heap)(H:Hp):(jMe h H).objs.size=h.objs.size:=PySem.W.hideAll_size _ _
theorem jMA {h:Heap}{H:Hp}{b:Addr}{o:Obj}(e:h.get? b=some o) (n:H b=none):(jMe h H).get? b=some o :=
 PySem.W.hideAll_get _ e fun hm=>by
  have q:(H b).isSome=true:=(List.mem_filter.mp hm).2
  rw[n] at q;simp at q
theorem jN9 {h:Heap}{H:Hp}{b:Addr}{o:Obj}(e:(jMe h H).get? b=some o):h.get? b=some o∧H b=none:=by
 have e':h.get? b=some o:=PySem.W.of_hideAll (trk h H) e
 refine⟨e',?_⟩
 cases q:H b with
 |none=>rfl
 |some x =>
  have hm:b∈trk h H:=List.mem_filter.mpr ⟨List.mem_range.mpr (Heap.lt_size e'),by simp[q]⟩
  have z:(jMe h H).get? b=none:=PySem.W.hideAll_none (trk h H) hm
  rw[z] at e;cases e
end L2
namespace L2
open PySem PySem.Spec PyProof.Rows
structure Mod (K:PySem.W.Frag)(mg:Str→Option Value)(base:Heap):Prop where
 kin:K.In base
 glob:base.Ns mainGlobals mg
 blt:∃mb,base.Ns builtinsNs mb∧∀x:Str,x≠"__name__"→mb x=bootBuiltins x
 nolimit:base.NoLimit
structure Cx where
 prog:Program
 w:World
 K:PySem.W.Frag
 mg:Str→Option Value
 base:Heap
 A:Around
 N:List Str
 s₀:Shared
 H₀:Hp
 env:Env
 outer:List Env
 stack:List Env
 ex:List Addr
 fn:Str→Bool
 calm:Bool
 pn:List (Addr×Obj)
 xe:Value→Shared→Prop
 lent:Option (Nat×Addr):=none
def frs (l:List Env):List Addr:=l.filterMap (·.frame)
abbrev Cx.fs (X:Cx):List Addr:=frs X.outer
def Vis (sc:Scope)(x:Str):Prop:=sc.names.lookup x=some .local∨sc.names.lookup x=some .cell∨sc.names.lookup x=some .free
def Loc (sc:Scope)(x:Str):Prop:=sc.names.lookup x=some .local∨sc.names.lookup x=some .cell
def jTh (env:Env)(h:Heap)(m:Str→Option Value)(x:Str)(u:Value):Prop :=
 (env.kindOf x=some .local∧m x=some u)∨((env.kindOf x=some .cell∨env.kindOf x=some .free)∧∃c,env.cells.lookup x=some c∧h.IsCell c (some u))
structure TB (P:Program)(K:PySem.W.Frag)(mg:Str→Option Value)(base:Heap)(H:Hp):Prop where
 bm:∃(b:Addr)(o:Obj),mg "__builtins__"=some (.ref b)∧b≠builtinsNs∧base.get? b=some o∧o.cls=.type "module"∧o.dict=some builtinsNs∧o.data=.plain
 tab:∀(x:Str)(c T:Addr),PySem.W.tabIn K x=some (c,T)→(recsOf P).any (fun d=>d.name==x)=true→PySem.W.CodeHd base c T∧∃ps,H T=some (.tbl ps)
structure Cx.Ok (X:Cx):Prop where
 mod:Mod X.K X.mg X.base
 kind:X.env.scope.kind=.function
 glob:X.env.globals=mainGlobals
 blt:X.env.builtins=builtinsNs
 above:X.s₀.heap.objs.size≤X.env.locals
 inj:∀x y c,X.env.cells.lookup x=some c→X.env.cells.lookup y=some c→x=y
 has:∀x,(X.env.kindOf x=some .cell∨X.env.kindOf x=some .free)→∃c,X.env.cells.lookup x=some c
 cab:∀x c,X.fn x=true→X.env.cells.lookup x=some c→X.s₀.heap.objs.size≤c
 hd:X.calm=true→X.A.handled=none
 frames:X.A.frames=some X.stack
 stk:X.stack=X.outer∨(X.stack=X.env::X.outer∧X.env.frame=some X.env.locals)
 exf:∀b∈X.ex,b≠X.env.locals∧∀x c,X.env.cells.lookup x=some c→c≠b
 bs:∀b o,X.base.get? b=some o→X.s₀.heap.get? b=some o∧X.H₀ b=none
 bsz:X.base.objs.size≤X.s₀.heap.objs.size
 noex:∀b o,X.base.get? b=some o→b∉X.ex
 exfs:∀b∈X.ex,b∉X.fs
 funs:X.s₀.heap.FunFrames X.base X.outer
 frf:∀b∈X.fs,X.H₀ b=none
 tb:TB X.prog X.K X.mg X.base X.H₀
structure Inv (X:Cx)(pins:List (Addr×Obj))(σ:List (Option V))(H:Hp)(s:Shared):Prop where
 ok:X.Ok
 os:s.os=X.s₀.os
 bare:AllBare s.gens
 base:Un X.fs X.ex X.H₀ H X.s₀.heap s.heap
 loc:∃m,s.heap.Ns X.env.locals m∧∀(i:Nat)(x:Str)(v:V),X.N[i]? = some x→σ[i]? = some (some v)→Vis X.env.scope x→∃u,jBM v u∧jTh X.env s.heap m x u
 cell:∀x c,X.env.cells.lookup x=some c→∃v,s.heap.IsCell c v
 free:H X.env.locals=none
 freeC:∀x c,X.env.cells.lookup x=some c→H c=none
 pin:∀p∈X.pn++pins,s.heap.get? p.1=some p.2∧H p.1=none∧p.1≠X.env.locals∧p.1∉X.fs∧∀v,p.2.data≠.cell v
 hok:HOk X.prog X.w H s.heap
 len:σ.length=X.N.length
section
variable {X:Cx}{pins:List (Addr×Obj)}{σ:List (Option V)}{H H':Hp}{s:Shared}{h':Heap}
theorem Cx.Ok.nofr (ok:X.Ok){b:Addr}{o:Obj}(e:X.base.get? b=some o):b∉X.fs:=fun hb=>by
 have:=(ok.funs.mem hb).1
 rw[e] at this;cases this
theorem Inv.bs (I:Inv X pins σ H s):∀b o,X.base.get? b=some o→s.heap.get? b=some o∧H b=none:=fun b o e =>
 ⟨I.base.keep b o (I.ok.bs b o e).1 (I.ok.bs b o e).2 (I.ok.nofr e) (I.ok.noex b o e),I.base.free b o (I.ok.bs b o e).1 (I.ok.bs b o e).2 (I.ok.noex b o e)⟩
theorem Inv.bk (I:Inv X pins σ H s):∀b o,X.base.get? b=some o→s.heap.get? b=some o:=fun b o e=>(I.bs b o e).1
theorem Inv.tb (I:Inv X pins σ H s):TB X.prog X.K X.mg X.base H:=⟨I.ok.tb.bm,fun x c T h1 h2=>by
 obtain⟨z,ps,e⟩:=I.ok.tb.tab x c T h1 h2
 obtain⟨more,e'⟩:=I.base.tbls T ps e
 exact⟨z,_,e'⟩⟩
theorem Inv.mod (I:Inv X pins σ H s):Mod X.K X.mg X.base:=I.ok.mod
theorem Inv.kIn (I:Inv X pins σ H s):X.K.In s.heap:=I.ok.mod.kin.keeps I.bk
theorem Inv.lt (I:Inv X pins σ H s):X.env.locals<s.heap.objs.size:=let ⟨_,hn,_⟩:=I.loc;hn.lt
theorem Inv.sz (I:Inv X pins σ H s):X.s₀.heap.objs.size≤s.heap.objs.size:=Nat.le_trans I.ok.above (Nat.le_of_lt I.lt)
theorem Inv.nofs (I:Inv X pins σ H s){a:Addr}(h:s.heap.objs.size≤a):a∉X.fs:=fun hb=>by
 obtain⟨_,o,ho,_⟩:=I.ok.funs.mem hb
 exact absurd (Nat.lt_of_lt_of_le (Heap.lt_size ho) (Nat.le_trans I.sz h)) (Nat.lt_irrefl _)
theorem Inv.cne (I:Inv X pins σ H s):∀x c,X.env.cells.lookup x=some c→c≠X.env.locals:=fun x c e z=>by
 obtain⟨v,o,ho,hd⟩:=I.cell x c e
 obtain⟨m,⟨o',es,ep,ho',hd',_⟩,_⟩:=I.loc
 rw[z,ho'] at ho;cases ho;rw[hd'] at hd;cases hd
theorem Inv.funs (I:Inv X pins σ H s):s.heap.FunFrames X.base X.outer:=by
 have all:∀(l:List Env),(∀b∈frs l,b∈X.fs)→X.s₀.heap.FunFrames X.base l→s.heap.FunFrames X.base l:=by
  intro l
  induction l with
  |nil=>intro _ _;trivial
  |cons env r ih =>
   intro hs hl
   obtain⟨hk,⟨L,o,hf,hn,ho,hd⟩,hr⟩:=hl
   have hL:L∈X.fs:=hs L (by unfold frs;rw[List.filterMap_cons,hf];exact List.mem_cons_self)
   obtain⟨sl,e⟩:=I.base.slot L o ho (I.ok.frf L hL) hL fun z=>I.ok.exfs L z hL
   exact⟨hk,⟨L,_,hf,hn,e,hd⟩,ih (fun b hb=>hs b (by unfold frs;rw[List.filterMap_cons,hf];exact List.mem_cons_of_mem _ hb)) hr⟩
 exact all X.outer (fun _ hb=>hb) I.ok.funs
theorem Inv.stack (I:Inv X pins σ H s):s.heap.FunFrames X.base X.stack:=by
 rcases I.ok.stk with e|⟨e,hf⟩
 ·rw[e];exact I.funs
 ·rw[e]
  obtain⟨m,hn,_⟩:=I.loc
  refine .cons (by rw[I.ok.kind];decide) hf hn ?_ I.funs
  exact Heap.get?_none_of_le (Nat.le_trans I.ok.bsz I.ok.above)
theorem Inv.stkSub (I:Inv X pins σ H s):∀b∈frs X.stack,b∈X.env.locals::X.fs:=fun b hb=>by
 rcases I.ok.stk with e|⟨e,hf⟩
 ·rw[e] at hb;exact List.mem_cons_of_mem _ hb
 ·rw[e] at hb
  unfold frs at hb
  rw[List.filterMap_cons,hf] at hb
  exact hb
theorem Inv.stkFree (I:Inv X pins σ H s):∀b∈frs X.stack,H b=none:=fun b hb=>by
 rcases List.mem_cons.mp (I.stkSub b hb) with e|hb
 ·rw[e];exact I.free
 ·obtain⟨_,o,ho,_⟩:=I.ok.funs.mem hb
  exact I.base.free b o ho (I.ok.frf b hb) fun z=>I.ok.exfs b z hb
theorem Inv.step {g':Array GenState}{t':Nat}{d':Drawn}{ch:List Addr}(I:Inv X pins σ H s)
 (hch:∀b∈ch,(b∈X.ex∨X.s₀.heap.objs.size≤b)∧b≠X.env.locals∧(∀x c,X.env.cells.lookup x=some c→c≠b)∧∀p∈X.pn++pins,p.1≠b)
 (keep:∀b o,b≠X.env.locals→b∉X.fs→b∉ch→s.heap.get? b=some o→H b=none→h'.get? b=some o)
 (slot:∀b o,b≠X.env.locals→b∈X.fs→b∉ch→s.heap.get? b=some o→H b=none→∃sl,h'.get? b=some { o with slots:=sl }) (free:∀b o,b∉ch→s.heap.get? b=some o→H b=none→H' b=none)
 (there:∀b o,b∉ch→s.heap.get? b=some o→∃o',h'.get? b=some o')
 (tups:∀b xs,H b=some (.tup xs)→H' b=some (.tup xs)) (frzs:∀b o u,H b=some (.frz o u)→H' b=some (.frz o u)) (tbls:∀b ps,H b=some (.tbl ps)→∃more,H' b=some (.tbl (ps++more)))
 (ns:∀m,s.heap.Ns X.env.locals m→h'.Ns X.env.locals m) (hok:HOk X.prog X.w H' h') (hg:AllBare g') :
 Inv X pins σ H' { s with heap:=h',gens:=g',drawn:=d',toks:=t' }:=by
 have neL:∀b o,X.s₀.heap.get? b=some o→b≠X.env.locals:=fun b o e=>Nat.ne_of_lt (Nat.lt_of_lt_of_le (Heap.lt_size e) I.ok.above)
 have neC:∀b o,X.s₀.heap.get? b=some o→b∉X.ex→b∉ch:=fun b o e hx hb=>by
  rcases(hch b hb).1 with z|z
  ·exact hx z
  ·exact absurd (Nat.lt_of_lt_of_le (Heap.lt_size e) z) (Nat.lt_irrefl _)
 have cellK:∀x c,X.env.cells.lookup x=some c→∀v,s.heap.IsCell c v→h'.IsCell c v:=fun x c e v hh=>by
  obtain⟨o,ho,hd⟩:=hh
  have nch:c∉ch:=fun z=>(hch c z).2.2.1 x c e rfl
  by_cases hc:c∈X.fs
  ·obtain⟨sl,q⟩:=slot c o (I.cne x c e) hc nch ho (I.freeC x c e)
   exact⟨_,q,hd⟩
  ·exact⟨o,keep c o (I.cne x c e) hc nch ho (I.freeC x c e),hd⟩
 refine⟨I.ok,I.os,hg,⟨fun b o e n hb hx=>?_,fun b o e n hb hx=>?_,fun b o e n hx=>?_,fun b o e hx=>?_,fun b xs e=>tups b xs (I.base.tups b xs e),fun b o xs e=>frzs b o xs (I.base.frzs b o xs e),fun b ps e=>?_⟩,?_,fun x c e=>?_,?_,fun x c e=>?_,fun p hp=>?_,hok,I.len⟩
 ·exact keep b o (neL b o e) hb (neC b o e hx) (I.base.keep b o e n hb hx) (I.base.free b o e n hx)
 ·obtain⟨sl,e1⟩:=I.base.slot b o e n hb hx
  obtain⟨sl',e2⟩:=slot b _ (neL b o e) hb (neC b o e hx) e1 (I.base.free b o e n hx)
  exact⟨sl',e2⟩
 ·obtain⟨o',e1⟩:=I.base.there b o e hx
  exact free b o' (neC b o e hx) e1 (I.base.free b o e n hx)
 ·obtain⟨o',e1⟩:=I.base.there b o e hx
  exact there b o' (neC b o e hx) e1
 ·obtain⟨m1,e1⟩:=I.base.tbls b ps e
  obtain⟨m2,e2⟩:=tbls b _ e1
  exact⟨m1++m2,by rw[e2,Array.append_assoc]⟩
 ·obtain⟨m,hn,hl⟩:=I.loc
  refine⟨m,ns m hn,fun i x v e1 e2 e3=>?_⟩
  obtain⟨u,r,l⟩:=hl i x v e1 e2 e3
  refine⟨u,r,?_⟩
  rcases l with l|⟨k,c,e,z⟩
  ·exact .inl l
  ·exact .inr ⟨k,c,e,cellK x c e _ z⟩
 ·obtain⟨v,z⟩:=I.cell x c e
  exact⟨v,cellK x c e v z⟩
 ·obtain⟨m,⟨o,_,_,ho,_⟩,_⟩:=I.loc
  exact free _ o (fun z=>(hch _ z).2.1 rfl) ho I.free
 ·obtain⟨v,o,ho,hd⟩:=I.cell x c e
  exact free c o (fun z=>(hch c z).2.2.1 x c e rfl) ho (I.freeC x c e)
 ·obtain⟨e,n,ne,nf,d⟩:=I.pin p hp
  have nch:p.1∉ch:=fun z=>(hch p.1 z).2.2.2 p hp rfl
  exact⟨keep p.1 p.2 ne nf nch e n,free p.1 p.2 nch e n,ne,nf,d⟩
theorem Inv.un {t':Nat}(I:Inv X pins σ H s) (u:Un X.fs [] H H' s.heap h') (hok:HOk X.prog X.w H' h'):Inv X pins σ H' { s with heap:=h',toks:=t' }:=by
 obtain⟨m,⟨o,es,ep,ho,r⟩,_⟩:=id I.loc
 obtain⟨sl,hL⟩:=u.any ho I.free (by simp)
 exact I.step (g':=s.gens) (d':=s.drawn) (ch:=[]) (fun _ z=>nomatch z) (fun b o _ hb _ e n=>u.keep b o e n hb (by simp)) (fun b o _ hb _ e n=>u.slot b o e n hb (by simp)) (fun b o _ e n=>u.free b o e n (by simp)) (fun b o _ e=>u.there b o e (by simp)) u.tups u.frzs u.tbls (fun m' hm=>by
  obtain⟨o',es',ep',ho',r'⟩:=hm
  rw[ho] at ho';cases ho'
  exact⟨_,es',ep',hL,r'⟩) hok I.bare
theorem Inv.call {g':Array GenState}{t':Nat}{d':Drawn}{ch:List Addr}(I:Inv X pins σ H s) (u:Un (frs X.stack) ch H H' s.heap h') (hok:HOk X.prog X.w H' h') (hg:AllBare g')
 (hch:∀b∈ch,(b∈X.ex∨X.s₀.heap.objs.size≤b)∧b≠X.env.locals∧(∀x c,X.env.cells.lookup x=some c→c≠b)∧∀p∈X.pn++pins,p.1≠b) :
 Inv X pins σ H' { s with heap:=h',gens:=g',drawn:=d',toks:=t' }:=by
 obtain⟨m,⟨o,es,ep,ho,r⟩,_⟩:=id I.loc
 obtain⟨sl,hL⟩:=u.any ho I.free fun z=>(hch _ z).2.1 rfl
 exact I.step (ch:=ch) hch (fun b o hL hb hc e n=>u.keep b o e n (fun z=>(List.mem_cons.mp (I.stkSub b z)).elim hL hb) hc) (fun b o _ _ hc e n=>u.any e n hc) (fun b o hc e n=>u.free b o e n hc) (fun b o hc e=>u.there b o e hc) u.tups u.frzs u.tbls (fun m' hm=>by
  obtain⟨o',es',ep',ho',r'⟩:=hm
  rw[ho] at ho';cases ho'
  exact⟨_,es',ep',hL,r'⟩) hok hg
theorem Inv.turned {t':Nat}{it:Addr}(I:Inv X pins σ H s) (k:∀b o,b≠it→s.heap.get? b=some o→h'.get? b=some o) (hn:H it=none) (hL:it≠X.env.locals)
 (h1:it∈X.ex∨X.s₀.heap.objs.size≤it) (h2:∀x c,X.env.cells.lookup x=some c→c≠it) (h3:∀p∈X.pn++pins,p.1≠it):Inv X pins σ H { s with heap:=h',toks:=t' }:=by
 have nit:∀b u,H b=some u→b≠it:=fun b u e z=>by rw[z,hn] at e;cases e
 refine I.step (g':=s.gens) (d':=s.drawn) (ch:=[it]) (fun b hb=>?_) (fun b o _ _ hc e _=>k b o (fun z=>hc (by simp[z])) e) (fun b o _ _ hc e _=>⟨o.slots,k b o (fun z=>hc (by simp[z])) e⟩) (fun _ _ _ _ n=>n)
  (fun b o hc e=>⟨o,k b o (fun z=>hc (by simp[z])) e⟩) (fun _ _ e=>e) (fun _ _ _ e=>e) (fun b ps e=>⟨#[],by rw[e];simp⟩) (fun m hm=>?_) (fun b u e=>?_) I.bare
 ·have e:b=it:=by simpa using hb
  subst e
  exact⟨h1,hL,h2,h3⟩
 ·obtain⟨o,es,ep,ho,r⟩:=hm
  exact⟨o,es,ep,k _ o (Ne.symm hL) ho,r⟩
 ·refine(I.hok b u e).stay (fun c v hc q=>k c v ?_ q) (fun _ q=>q) fun _ _ q=>q
  rcases hc with z|z
  ·rw[z];exact nit b u e
  ·exact nit c _ z
theorem Inv.tok (I:Inv X pins σ H s)(t:Nat):Inv X pins σ H { s with toks:=t }:=I.un (h':=s.heap) (t':=t) Un.refl I.hok
theorem Inv.kept {t':Nat}(I:Inv X pins σ H s) (k:∀b u,s.heap.get? b=some u→h'.get? b=some u):Inv X pins σ H { s with heap:=h',toks:=t' }:=I.un (Un.kept k) (I.hok.kept k)
theorem Inv.laid {a:Addr}{o:HO}{t':Nat}(I:Inv X pins σ H s) (k:∀b u,s.heap.get? b=some u→h'.get? b=some u) (hp:s.heap.objs.size≤a) (new:jCo X.prog X.w (upd H a o) h' a o) :
 Inv X pins σ (upd H a o) { s with heap:=h',toks:=t' }:=I.un (Un.laid k hp (I.hok.fresh hp)) (I.hok.laid k hp new)
theorem Inv.write {x e:Addr}{o:HO}{t':Nat}(I:Inv X pins σ H s) (mu:Mut (H x)) (he:e=x∨H e=some (.own x)) (k:∀b u,b≠e→s.heap.get? b=some u→h'.get? b=some u) (heo:∃u,h'.get? e=some u)
 (new:jCo X.prog X.w (upd H x o) h' x o):Inv X pins σ (upd H x o) { s with heap:=h',toks:=t' }:=I.un (Un.write mu he k heo) (I.hok.write mu he k heo new)
theorem Inv.pins_of {pins':List (Addr×Obj)}(I:Inv X pins σ H s) (h:∀p∈pins',s.heap.get? p.1=some p.2∧H p.1=none∧p.1≠X.env.locals∧p.1∉X.fs∧∀v,p.2.data≠.cell v):Inv X pins' σ H s :=
 ⟨I.ok,I.os,I.bare,I.base,I.loc,I.cell,I.free,I.freeC,fun p hp=>(List.mem_append.mp hp).elim (fun z=>I.pin p (List.mem_append_left _ z)) (h p),I.hok,I.len⟩
theorem jJz {N:List Str}(hN:N.Nodup){i j:Nat}{x:Str}(a:N[i]? = some x) (b:N[j]? = some x):i=j:=by
 obtain⟨h1,e1⟩:=List.getElem?_eq_some_iff.mp a
 obtain⟨h2,e2⟩:=List.getElem?_eq_some_iff.mp b
 exact(List.getElem_inj hN).mp (e1.trans e2.symm)
theorem jGz {M:Model}{A:Around}{E:Value→Shared→Prop}{i:Nat}{x:Str}{v:V}{u:Value}{Q:Unit→Shared→Prop}(I:Inv X pins σ H s) (hN:X.N.Nodup) (hi:X.N[i]? = some x) (hx:Loc X.env.scope x) (r:jBM v u)
 (h:∀s',Inv X pins (σ.set i (some v)) H s'→(∃a,Heap.SameBut a s.heap s'.heap∧(a=X.env.locals∨X.env.cells.lookup x=some a))→Q () s') (hf:X.fn x=true∨X.env.scope.names.lookup x=some .local:=by first|exact .inl rfl|exact .inr rfl|assumption):wpAny M A (storeName X.env x u) Q E s:=by
 obtain⟨m,hn,hl⟩:=id I.loc
 have hcls:(X.env.scope.kind == .class||(X.env.scope.kind == .module&&X.env.locals != X.env.globals))=false:=by rw[I.ok.kind];rfl
 have hiσ:i<σ.length:=by rw[I.len];exact(List.getElem?_eq_some_iff.mp hi).1
 have cne:=I.cne
 have tracked:∀{a:Addr}{h':Heap},(∃o,s.heap.get? a=some o∧H a=none)→Heap.SameBut a s.heap h'→HOk X.prog X.w H h':=fun {a h'} ha hs b ob e=>by
  obtain⟨_,_,hfree⟩:=ha
  refine(I.hok b ob e).stay (fun c w' hc q=>(hs.2 c ?_).trans q) (fun _ q=>q) fun _ _ q=>q
  rintro rfl
  rcases hc with rfl|hc
  ·rw[hfree] at e;cases e
  ·rw[hfree] at hc;cases hc
 rcases hx with hk|hk
 ·refine wpAny_storeName_local hk hn (fun h' hn' hs=>?_) hcls
  obtain⟨oL,_,_,hoL,_⟩:=id hn
  refine h _ ⟨I.ok,I.os,I.bare,⟨fun b o e n hb hx=>?_,fun b o e n hb hx=>?_,I.base.free,fun b o e hx=>?_,I.base.tups,I.base.frzs,I.base.tbls⟩,⟨_,hn',fun j y v' e1 e2 e3=>?_⟩,fun y c e=>?_,I.free,I.freeC,fun p hp=>?_,tracked ⟨oL,hoL,I.free⟩ hs,by simpa using I.len⟩ ⟨_,hs,.inl rfl⟩
  ·exact(hs.2 b (Nat.ne_of_lt (Nat.lt_of_lt_of_le (Heap.lt_size e) I.ok.above))).trans (I.base.keep b o e n hb hx)
  ·obtain⟨sl,e1⟩:=I.base.slot b o e n hb hx
   exact⟨sl,(hs.2 b (Nat.ne_of_lt (Nat.lt_of_lt_of_le (Heap.lt_size e) I.ok.above))).trans e1⟩
  ·obtain⟨o',e1⟩:=I.base.there b o e hx
   exact⟨o',(hs.2 b (Nat.ne_of_lt (Nat.lt_of_lt_of_le (Heap.lt_size e) I.ok.above))).trans e1⟩
  ·by_cases hj:j=i
   ·subst hj
    rw[hi] at e1;cases e1
    rw[List.getElem?_set_self hiσ] at e2
    cases e2
    exact⟨u,r,.inl ⟨hk,by simp⟩⟩
   ·rw[List.getElem?_set_ne (Ne.symm hj)] at e2
    obtain⟨u',r',q⟩:=hl j y v' e1 e2 e3
    refine⟨u',r',?_⟩
    rcases q with⟨k,e⟩|⟨k,c,e,z⟩
    ·refine .inl ⟨k,?_⟩
     have:y≠x:=fun e=>hj (jJz hN e1 (e ▸ hi))
     simp[this,e]
    ·exact .inr ⟨k,c,e,z.sameBut hs (cne y c e)⟩
  ·obtain⟨w',z⟩:=I.cell y c e
   exact⟨w',z.sameBut hs (cne y c e)⟩
  ·obtain⟨e,n,ne,nf,d⟩:=I.pin p hp
   exact⟨(hs.2 p.1 ne).trans e,n,ne,nf,d⟩
 ·have hfn:X.fn x=true:=by
   rcases hf with z|z
   ·exact z
   ·rw[z] at hk;cases hk
  obtain⟨c,hc⟩:=I.ok.has x (.inl hk)
  obtain⟨w',z⟩:=I.cell x c hc
  refine wpAny_storeName_cell I.ok.kind hk hc z (fun h' hc' hs=>?_)
  obtain⟨oc,hoc,hocd⟩:=id z
  refine h { s with heap:=h' } ⟨I.ok,I.os,I.bare,⟨fun b o e n hb hx=>?_,fun b o e n hb hx=>?_,I.base.free,fun b o e hx=>?_,I.base.tups,I.base.frzs,I.base.tbls⟩,⟨m,hn.sameBut hs (Ne.symm (cne x c hc)),fun j y v' e1 e2 e3=>?_⟩,fun y c' e=>?_,I.free,I.freeC,fun p hp=>?_,tracked ⟨oc,hoc,I.freeC x c hc⟩ hs,by simpa using I.len⟩ ⟨c,hs,.inr hc⟩
  ·exact(hs.2 b (Nat.ne_of_lt (Nat.lt_of_lt_of_le (Heap.lt_size e) (I.ok.cab x c hfn hc)))).trans (I.base.keep b o e n hb hx)
  ·obtain⟨sl,e1⟩:=I.base.slot b o e n hb hx
   exact⟨sl,(hs.2 b (Nat.ne_of_lt (Nat.lt_of_lt_of_le (Heap.lt_size e) (I.ok.cab x c hfn hc)))).trans e1⟩
  ·obtain⟨o',e1⟩:=I.base.there b o e hx
   exact⟨o',(hs.2 b (Nat.ne_of_lt (Nat.lt_of_lt_of_le (Heap.lt_size e) (I.ok.cab x c hfn hc)))).trans e1⟩
  ·by_cases hj:j=i
   ·subst hj
    rw[hi] at e1;cases e1
    rw[List.getElem?_set_self hiσ] at e2
    cases e2
    exact⟨u,r,.inr ⟨.inl hk,c,hc,hc'⟩⟩
   ·rw[List.getElem?_set_ne (Ne.symm hj)] at e2
    obtain⟨u',r',q⟩:=hl j y v' e1 e2 e3
    refine⟨u',r',?_⟩
    rcases q with q|⟨k,c',e,z'⟩
    ·exact .inl q
    ·refine .inr ⟨k,c',e,z'.sameBut hs ?_⟩
     rintro rfl
     exact hj (jJz hN e1 (I.ok.inj _ _ _ e hc ▸ hi))
  ·by_cases hcc:c'=c
   ·subst hcc;exact⟨_,hc'⟩
   ·obtain⟨w2,z2⟩:=I.cell y c' e
    exact⟨w2,z2.sameBut hs hcc⟩
  ·obtain⟨e,n,ne,nf,d⟩:=I.pin p hp
   refine⟨(hs.2 p.1 ?_).trans e,n,ne,nf,d⟩
   intro q
   rw[q,hoc] at e
   have q':oc=p.2:=Option.some.inj e
   exact d w' (by rw[←q'];exact hocd)
theorem jEK {M:Model}{A:Around}{E:Value→Shared→Prop}{i:Nat}{x:Str}{v:V}{u:Value}{Q:Unit→Shared→Prop}(I:Inv X pins σ H s) (hN:X.N.Nodup) (hi:X.N[i]? = some x) (hx:Loc X.env.scope x) (r:jBM v u)
 (h:∀s',Inv X pins (σ.set i (some v)) H s'→Q () s') (hf:X.fn x=true∨X.env.scope.names.lookup x=some .local:=by first|exact .inl rfl|exact .inr rfl|assumption):wpAny M A (storeName X.env x u) Q E s :=
 jGz I hN hi hx r (fun s' I' _=>h s' I') hf
theorem Inv.call' {s':Shared}{ch:List Addr}(I:Inv X pins σ H s) (ho:s'.os=s.os) (u:Un (frs X.stack) ch H H' s.heap s'.heap) (hok:HOk X.prog X.w H' s'.heap) (hg:AllBare s'.gens)
 (hch:∀b∈ch,(b∈X.ex∨X.s₀.heap.objs.size≤b)∧b≠X.env.locals∧(∀x c,X.env.cells.lookup x=some c→c≠b)∧∀p∈X.pn++pins,p.1≠b):Inv X pins σ H' s':=by
 obtain⟨h',g',d',t',o'⟩:=s'
 have e:o'=s.os:=ho
 subst e
 exact I.call (g':=g') (t':=t') (d':=d') u hok hg hch
end
abbrev XK:=Value→Option Addr→Hp→Prop
abbrev St:=List (Option V)
abbrev VK:=V→Hp→Prop
abbrev TE:=St→Hp→VK→Prop
abbrev TT:=St→Hp→(Bool→Hp→Prop)→Prop
abbrev TA:=St→Hp→(List V→Hp→Prop)→Prop
structure jJe where
 nx:St→Hp→Prop
 rt:VK
 bk:St→Hp→Prop:=fun _ _=>False
 ct:St→Hp→Prop:=fun _ _=>False
abbrev TS:=jJe→St→Hp→Prop
def EP (X:Cx)(pins:List (Addr×Obj))(σ:St)(Q:VK)(u:Value)(s':Shared):Prop:=∃v H',Inv X pins σ H' s'∧jBM v u∧Q v H'
def TP (X:Cx)(pins:List (Addr×Obj))(σ:St)(Q:Bool→Hp→Prop)(b:Bool)(s':Shared):Prop:=∃H',Inv X pins σ H' s'∧Q b H'
def AP (X:Cx)(pins:List (Addr×Obj))(σ:St)(Q:List V→Hp→Prop)(us:List Value)(s':Shared):Prop:=∃vs H',Inv X pins σ H' s'∧jBJ vs us∧Q vs H'
def SP (X:Cx)(pins:List (Addr×Obj))(D:jJe)(f:Flow)(s':Shared):Prop :=
 match f with
 |.next=>∃σ' H',Inv X pins σ' H' s'∧D.nx σ' H'
 |.brk=>∃σ' H',Inv X pins σ' H' s'∧D.bk σ' H'
 |.cont=>∃σ' H',Inv X pins σ' H' s'∧D.ct σ' H'
 |.ret u=>∃v σ' H',Inv X pins σ' H' s'∧jBM v u∧D.rt v H'
def PE (X:Cx)(e:Expr)(t:TE):Prop :=
 ∀(pins:List (Addr×Obj))(s:Shared)(σ:St)(H:Hp)(Q:VK),Inv X pins σ H s→t σ H Q→wpAny (model X.prog X.w) X.A (eval e X.env) (EP X pins σ Q) X.xe s
def PT (X:Cx)(e:Expr)(t:TT):Prop :=
 ∀(pins:List (Addr×Obj))(s:Shared)(σ:St)(H:Hp)(Q:Bool→Hp→Prop),Inv X pins σ H s→t σ H Q→wpAny (model X.prog X.w) X.A (isTrue e X.env (eval e X.env)) (TP X pins σ Q) X.xe s
def PW (X:Cx)(e:Expr)(t:TT):Prop :=
 ∀(whole:Sem Value)(pins:List (Addr×Obj))(s:Shared)(σ:St)(H:Hp)(Q:Bool→Hp→Prop),Inv X pins σ H s→t σ H Q→wpAny (model X.prog X.w) X.A (isTrue e X.env whole) (TP X pins σ Q) X.xe s
def PA (X:Cx)(es:List Expr)(t:TA):Prop :=
 ∀(pos:Pos)(pins:List (Addr×Obj))(s:Shared)(σ:St)(H:Hp)(Q:List V→Hp→Prop),Inv X pins σ H s→t σ H Q→wpAny (model X.prog X.w) X.A (spliced (backTo pos (starEach es X.env))) (AP X pins σ Q) X.xe s
def PS (X:Cx)(st:Stmt)(t:TS):Prop :=
 ∀(pins:List (Addr×Obj))(s:Shared)(σ:St)(H:Hp)(D:jJe),Inv X pins σ H s→t D σ H→wpAny (model X.prog X.w) X.A (exec st X.env) (SP X pins D) X.xe s
def PSs (X:Cx)(st:List Stmt)(t:TS):Prop :=
 ∀(pins:List (Addr×Obj))(s:Shared)(σ:St)(H:Hp)(D:jJe),Inv X pins σ H s→t D σ H→wpAny (model X.prog X.w) X.A (execs st X.env) (SP X pins D) X.xe s
theorem thn {α:Type}{t:Sem α}{Q Q':α→Shared→Prop}{M:Model}{A:Around}{E:Value→Shared→Prop}{s:Shared}(h:wpAny M A t Q E s) (hQ:∀a s,Q a s→Q' a s):wpAny M A t Q' E s:=wpAny_mono h hQ fun _ _ x=>x
end L2
namespace L2
open PySem PySem.Spec PyProof.Rows
section
variable {X:Cx}
def jJS (i:Nat):TE:=fun σ H Q=>∃v,σ[i]? = some (some v)∧Q v H
def tC (v:V):TE:=fun _ H Q=>Q v H
theorem jQk {i:Nat}{x:Str}{pos:Pos}(hN:X.N[i]? = some x) (hv:Vis X.env.scope x) (hd:(x==("__debug__":Str))=false:=by decide) (hcd:(x==("__classdict__":Str))=false:=by decide):PE X (.Name x pos) (jJS i):=by
 intro pins s σ H Q I h
 obtain⟨v,e,h⟩:=h
 obtain⟨m,hn,hl⟩:=I.loc
 obtain⟨u,r,l⟩:=hl i x v hN e hv
 have fin:EP X pins σ Q u s:=⟨v,H,I,r,h⟩
 rcases l with⟨hk,hm⟩|⟨hk,c,hc,hcell⟩
 ·exact wpAny_Name (wpAny_loadName_local I.ok.kind hk hn hm fin) hd
 ·rcases hk with hk|hk
  ·exact wpAny_Name (wpAny_loadName_cell I.ok.kind hk hc hcell fin) hd
  ·exact wpAny_Name (wpAny_loadName_free I.ok.kind hk hc hcell fin hcd) hd
theorem jQP {i j pos}:PE X (.Constant (.int i) j pos) (tC (.int i)):=fun _ _ _ H _ I h=>wpAny_Constant_int ⟨.int i,H,I.tok _,⟨_,rfl⟩,h⟩
theorem jRw {b j pos}:PE X (.Constant (.bool b) j pos) (tC (.bl b)):=fun _ _ _ H _ I h=>Constant_bool ⟨.bl b,H,I,rfl,h⟩
theorem jQr {j pos}:PE X (.Constant .none j pos) (tC .non):=fun _ _ _ H _ I h=>Constant_none ⟨.non,H,I,rfl,h⟩
theorem jPF {x j pos}:PE X (.Constant (.str x) j pos) (tC (.str x)):=fun _ _ _ H _ I h=>Calls.Constant_str ⟨.str x,H,I.tok _,⟨_,rfl⟩,h⟩
def Gl (X:Cx)(x:Str):Prop:=X.env.kindOf x=some .globalImplicit
theorem jE6 {E:Value→Shared→Prop}{pins:List (Addr×Obj)}{s:Shared}{σ:St}{H:Hp}{x:Str}{u:Value}{pos:Pos}{Q:Value→Shared→Prop}(I:Inv X pins σ H s) (hg:Gl X x) (hm:X.mg x=some u) (h:Q u s)
 (hd:(x==("__debug__":Str))=false:=by decide):wpAny (model X.prog X.w) X.A (eval (.Name x pos) X.env) Q E s :=
 Calls.Name_function_global I.ok.kind hg (Calls.loadGlobal_global (by rw[I.ok.glob];exact I.mod.glob.keeps I.bk) hm h) hd
theorem jFw {E:Value→Shared→Prop}{pins:List (Addr×Obj)}{s:Shared}{σ:St}{H:Hp}{x:Str}{u:Value}{pos:Pos}{Q:Value→Shared→Prop}(I:Inv X pins σ H s) (hg:Gl X x) (hm:X.mg x=none) (hv:bootBuiltins x=some u) (h:Q u s)
 (hn:x≠"__name__":=by decide) (hd:(x==("__debug__":Str))=false:=by decide):wpAny (model X.prog X.w) X.A (eval (.Name x pos) X.env) Q E s:=by
 obtain⟨mb,h1,h2⟩:=I.mod.blt
 exact Calls.Name_function_global I.ok.kind hg (Calls.loadGlobal_builtin (by rw[I.ok.glob];exact I.mod.glob.keeps I.bk) hm (by rw[I.ok.blt];exact h1.keeps I.bk) ((h2 x hn).trans hv) h) hd
theorem jKN {x:Str}{v:V}{u:Value}{pos:Pos}(hg:Gl X x) (hm:X.mg x=some u) (r:jBM v u) (hd:(x==("__debug__":Str))=false:=by decide):PE X (.Name x pos) (tC v) :=
 fun _ _ _ H _ I h=>jE6 I hg hm ⟨v,H,I,r,h⟩ hd
theorem jLO {x:Str}{v:V}{u:Value}{pos:Pos}(hg:Gl X x) (hm:X.mg x=none) (hv:bootBuiltins x=some u) (r:jBM v u) (hn:x≠"__name__":=by decide) (hd:(x==("__debug__":Str))=false:=by decide):PE X (.Name x pos) (tC v) :=
 fun _ _ _ H _ I h=>jFw I hg hm hv ⟨v,H,I,r,h⟩ hn hd
variable {a b:Expr}{ta tb:TE}{pos:Pos}
def tB (t:TE):TT:=fun σ H Q=>t σ H fun x H1=>∃c,x=.bl c∧Q c H1
theorem jQ6 {e:Expr}{t:TE}(h:PE X e t) (he:∀whole,isTrue e X.env whole=(do let v ←whole;standAt e.pos;holding [v] (truthy v)):=by intro _;rfl):PT X e (tB t):=by
 intro pins s σ H Q I hw
 refine isTrue_plain (thn (h pins s σ H _ I hw) fun v s1 ⟨x,H1,I1,r1,q1⟩=>?_) (he _)
 obtain⟨d,rfl,q⟩:=q1
 cases r1
 exact wpAny_truthy_bool ⟨H1,I1,q⟩
variable {tA tB':TT}{rest:List Expr}
def jTc (t u:TT):TT:=fun σ H Q=>t σ H fun c H1=>if c=true then u σ H1 Q else Q false H1
def tOr (t u:TT):TT:=fun σ H Q=>t σ H fun c H1=>if c=true then Q true H1 else u σ H1 Q
def jSP (t:TT):TT:=fun σ H Q=>t σ H fun c H1=>Q (!c) H1
theorem jPs (ha:PT X a tA):PW X (.BoolOp .And [a] pos) tA:=by
 intro wh pins s σ H Q I h
 refine isTrue_and (thn (ha pins s σ H Q I h) fun c s1 e=>?_)
 cases c with
 |true=>exact isTrue_and_nil e
 |false=>exact e
theorem jP4 (ha:PT X a tA):PW X (.BoolOp .Or [a] pos) tA:=by
 intro wh pins s σ H Q I h
 refine isTrue_or (thn (ha pins s σ H Q I h) fun c s1 e=>?_)
 cases c with
 |false=>exact isTrue_or_nil e
 |true=>exact e
theorem jQm (ha:PT X a tA)(hb:PW X (.BoolOp .And (b::rest) pos) tB'):PW X (.BoolOp .And (a::b::rest) pos) (jTc tA tB'):=by
 intro wh pins s σ H Q I h
 refine isTrue_and (thn (ha pins s σ H _ I h) fun c s1 hh=>?_)
 obtain⟨H1,I1,q1⟩:=hh
 cases c with
 |true=>exact hb wh pins s1 σ H1 Q I1 q1
 |false=>exact⟨H1,I1,q1⟩
theorem jRL (ha:PT X a tA)(hb:PW X (.BoolOp .Or (b::rest) pos) tB'):PW X (.BoolOp .Or (a::b::rest) pos) (tOr tA tB'):=by
 intro wh pins s σ H Q I h
 refine isTrue_or (thn (ha pins s σ H _ I h) fun c s1 hh=>?_)
 obtain⟨H1,I1,q1⟩:=hh
 cases c with
 |true=>exact⟨H1,I1,q1⟩
 |false=>exact hb wh pins s1 σ H1 Q I1 q1
theorem jQb (ha:PT X a tA):PT X (.UnaryOp .Not a pos) (jSP tA):=by
 intro pins s σ H Q I h
 exact isTrue_not (ha pins s σ H (fun c H1=>Q (!c) H1) I h)
def jRj (ta tb:TE):TE:=fun σ H Q=>ta σ H fun x H1=>∃c,x=.bl c∧if c=true then tb σ H1 Q else Q (.bl false) H1
def jRJ (ta:TE):TE:=fun σ H Q=>ta σ H fun x H1=>∃c,x=.bl c∧Q (.bl (!c)) H1
theorem jQa {op}{t:TE}(h:PE X a t):PE X (.BoolOp op [a] pos) t:=fun pins s σ H Q I hw=>BoolOp_one (h pins s σ H Q I hw)
theorem jPY (ha:PE X a ta)(hb:PE X (.BoolOp .And (b::rest) pos) tb):PE X (.BoolOp .And (a::b::rest) pos) (jRj ta tb):=by
 intro pins s σ H Q I h
 refine BoolOp_and (thn (ha pins s σ H _ I h) fun v s1 hh=>?_)
 obtain⟨x,H1,I1,r1,q1⟩:=hh
 obtain⟨c,rfl,q1⟩:=q1
 cases r1
 refine wpAny_truthy_bool ?_
 cases c with
 |true=>exact hb pins s1 σ H1 Q I1 q1
 |false=>exact⟨.bl false,H1,I1,rfl,q1⟩
theorem jP5 (ha:PE X a ta):PE X (.UnaryOp .Not a pos) (jRJ ta):=by
 intro pins s σ H Q I h
 refine UnaryOp_ (thn (ha pins s σ H _ I h) fun v s1 hh=>?_)
 obtain⟨x,H1,I1,r1,q1⟩:=hh
 obtain⟨c,rfl,q1⟩:=q1
 cases r1
 exact not_of (wpAny_truthy_bool ⟨.bl (!c),H1,I1,rfl,q1⟩)
end
end L2
namespace L2
open PySem PySem.Spec PyProof.Rows
def SqL (K:PySem.W.Frag)(H:Hp)(a:Addr)(xs:List V):Prop :=
 Rd H a (.lst xs) ∨
  ∃(o:Obj)(its:Array Value)(n:Nat),K.lookup a=some o∧o.cls=.type "list"∧o.dict=none∧o.data=.seq its n∧its.size≤sizeLine∧jBJ xs its.toList
def SqT (K:PySem.W.Frag)(H:Hp)(a:Addr)(xs:List V):Prop :=
 Rd H a (.tup xs) ∨
  ∃(o:Obj)(its:Array Value)(n:Nat),K.lookup a=some o∧o.cls=.type "tuple"∧o.data=.seq its n∧its.size≤sizeLine∧jBJ xs its.toList
def jTd:Value→Option V
 |.none=>some .non
 |.bool b=>some (.bl b)
 |.int i _=>some (.int i)
 |.str x _=>some (.str x)
 |.bytes b _=>some (.byt b)
 |.float b _=>some (.flt b)
 |.ref a=>some (.ref a)
 |.type n=>some (.ty n)
 |_=>none
theorem jBM.abs {x:V}{u:Value}(r:jBM x u):jTd u=some x:=by
 cases x with
 |non=>cases r;rfl
 |bl _=>cases r;rfl
 |int _=>obtain⟨t,rfl⟩:=r;rfl
 |str _=>obtain⟨t,rfl⟩:=r;rfl
 |byt _=>obtain⟨t,rfl⟩:=r;rfl
 |flt _=>obtain⟨t,rfl⟩:=r;rfl
 |ref _=>cases r;rfl
 |ty _=>cases r;rfl
theorem jBM.inj {x y:V}{u:Value}(r:jBM x u) (q:jBM y u):x=y:=Option.some.inj (r.abs.symm.trans q.abs)
theorem jBJ.inj:∀{xs ys:List V}{us:List Value},jBJ xs us→jBJ ys us→xs=ys
 |_,_,_,.nil,.nil=>rfl
 |_,_,_,.cons r t,.cons r' t'=>by rw[r.inj r',jBJ.inj t t']
section
variable {X:Cx}{pins:List (Addr×Obj)}{σ:St}{H:Hp}{s:Shared}{a:Addr}{xs ys:List V}
theorem SqL.of {K:PySem.W.Frag}(h:H a=some (.lst xs)):SqL K H a xs:=.inl (.inl h)
theorem SqT.of {K:PySem.W.Frag}(h:H a=some (.tup xs)):SqT K H a xs:=.inl (.inl h)
theorem Inv.list (I:Inv X pins σ H s)(h:SqL X.K H a xs):∃its:List Value,jBJ xs its∧PlainL s.heap a its.toArray∧xs.length≤sizeLine:=by
 rcases h with h|⟨o,its,n,hk,hc,hd,hs,hz,r⟩
 ·obtain⟨z,its,n,r,e⟩:=h.ok I.hok
  exact⟨its,r,⟨_,n,e,rfl,rfl,rfl⟩,z⟩
 ·refine⟨its.toList,r,⟨o,n,I.kIn a o hk,hc,hd,by simpa using hs⟩,?_⟩
  have e:=r.length
  simp only[Array.length_toList] at e
  omega
theorem Inv.tuple (I:Inv X pins σ H s)(h:SqT X.K H a xs):∃its:List Value,jBJ xs its∧IsTup s.heap a its.toArray∧xs.length≤sizeLine:=by
 rcases h with h|⟨o,its,n,hk,hc,hs,hz,r⟩
 ·obtain⟨z,its,r,p⟩:=h.ok I.hok
  exact⟨its,r,p,z⟩
 ·refine⟨its.toList,r,⟨o,I.kIn a o hk,hc,n,by simpa using hs⟩,?_⟩
  have e:=r.length
  simp only[Array.length_toList] at e
  omega
theorem Inv.list_inj (I:Inv X pins σ H s)(h:SqL X.K H a xs)(h':SqL X.K H a ys):xs=ys:=by
 obtain⟨its,r,⟨o,n,e,_,_,d⟩,_⟩:=I.list h
 obtain⟨its',r',⟨o',n',e',_,_,d'⟩,_⟩:=I.list h'
 rw[e] at e';cases e'
 rw[d] at d'
 injection d' with d1 _
 have:its=its':=by simpa using congrArg Array.toList d1
 subst this
 exact r.inj r'
theorem Inv.tuple_inj (I:Inv X pins σ H s)(h:SqT X.K H a xs)(h':SqT X.K H a ys):xs=ys:=by
 obtain⟨its,r,⟨o,e,_,n,d⟩,_⟩:=I.tuple h
 obtain⟨its',r',⟨o',e',_,n',d'⟩,_⟩:=I.tuple h'
 rw[e] at e';cases e'
 rw[d] at d'
 injection d' with d1 _
 have:its=its':=by simpa using congrArg Array.toList d1
 subst this
 exact r.inj r'
end
abbrev Cx.wish (X:Cx)(E:Value→Shared→Prop):Cx:={ X with xe:=E }
abbrev Cx.nox (X:Cx):Cx:=X.wish fun _ _=>False
theorem Cx.Ok.wish {X:Cx}(ok:X.Ok) (E:Value→Shared→Prop):(X.wish E).Ok :=
 ⟨ok.mod,ok.kind,ok.glob,ok.blt,ok.above,ok.inj,ok.has,ok.cab,ok.hd,ok.frames,ok.stk,ok.exf,ok.bs,ok.bsz,ok.noex,ok.exfs,ok.funs,ok.frf,ok.tb⟩
theorem Cx.Ok.unwish {X:Cx}{E:Value→Shared→Prop}(ok:(X.wish E).Ok):X.Ok :=
 ⟨ok.mod,ok.kind,ok.glob,ok.blt,ok.above,ok.inj,ok.has,ok.cab,ok.hd,ok.frames,ok.stk,ok.exf,ok.bs,ok.bsz,ok.noex,ok.exfs,ok.funs,ok.frf,ok.tb⟩
section
variable {X:Cx}{pins:List (Addr×Obj)}{σ:St}{H:Hp}{s:Shared}{E:Value→Shared→Prop}
theorem Inv.wish (I:Inv X pins σ H s)(E:Value→Shared→Prop):Inv (X.wish E) pins σ H s:=⟨I.ok.wish E,I.os,I.bare,I.base,I.loc,I.cell,I.free,I.freeC,I.pin,I.hok,I.len⟩
theorem Inv.unwish (I:Inv (X.wish E) pins σ H s):Inv X pins σ H s:=⟨I.ok.unwish,I.os,I.bare,I.base,I.loc,I.cell,I.free,I.freeC,I.pin,I.hok,I.len⟩
theorem SP.unwish {D:jJe}{f:Flow}{s':Shared}(h:SP (X.wish E) pins D f s'):SP X pins D f s':=by
 cases f with
 |next=>obtain⟨σ',H',I,q⟩:=h;exact⟨σ',H',I.unwish,q⟩
 |brk=>obtain⟨σ',H',I,q⟩:=h;exact⟨σ',H',I.unwish,q⟩
 |cont=>obtain⟨σ',H',I,q⟩:=h;exact⟨σ',H',I.unwish,q⟩
 |ret u=>obtain⟨v,σ',H',I,r,q⟩:=h;exact⟨v,σ',H',I.unwish,r,q⟩
theorem PSs.nox {st:List Stmt}{t:TS}(h:PSs X.nox st t):PSs X st t:=fun pins s σ H D I hw =>
 wpAny_mono (h pins s σ H D (I.wish _) hw) (fun _ _ q=>q.unwish) fun _ _ z=>False.elim z
end
section
variable {X:Cx}{st:Stmt}{rest:List Stmt}{t u:TS}{e:Expr}{te:TE}{pos:Pos}
def jR5:TS:=fun D σ H=>D.nx σ H
def jTm (t u:TS):TS:=fun D σ H=>t { D with nx:=u D } σ H
theorem jN3:PSs X [] jR5:=fun _ _ σ H _ I h=>wpAny_execs_nil ⟨σ,H,I,h⟩
theorem jJP (h1:PS X st t)(h2:PSs X rest u):PSs X (st::rest) (jTm t u):=by
 intro pins s σ H D I h
 refine wpAny_execs_cons (thn (h1 pins s σ H { D with nx:=u D } I h) fun f s1 q=>?_)
 cases f with
 |next =>
  obtain⟨σ',H',I',q⟩:=q
  exact h2 pins s1 σ' H' D I' q
 |ret v=>exact q
 |brk=>exact q
 |cont=>exact q
theorem jPl (h1:PS X st t):PSs X [st] t:=by
 intro pins s σ H D I h
 refine wpAny_execs_cons (thn (h1 pins s σ H D I h) fun f s1 q=>?_)
 cases f with
 |next=>exact wpAny_execs_nil q
 |ret v=>exact q
 |brk=>exact q
 |cont=>exact q
theorem Inv.quiet {pins:List (Addr×Obj)}{σ:St}{H:Hp}{s:Shared}(I:Inv X pins σ H s):interactive X.env=false:=by simp[interactive,I.ok.kind]
def jPM (te:TE):TS:=fun D σ H=>te σ H fun _ H1=>D.nx σ H1
theorem jCc (he:PE X e te)(hs:swapsWith e none pos.line X.env=pure false:=by rfl):PS X (.Expr e pos) (jPM te):=by
 intro pins s σ H D I h
 exact wpAny_Expr_any (thn (he pins s σ H _ I h) fun v s1 ⟨x,H1,I1,r1,q1⟩=>⟨σ,H1,I1,q1⟩) I.quiet hs
def jTq (te:TE):TS:=fun D σ H=>te σ H D.rt
theorem jNt (he:PE X e te):PS X (.Return (some e) pos) (jTq te):=by
 intro pins s σ H D I h
 exact wpAny_Return_some (thn (he pins s σ H _ I h) fun v s1 ⟨x,H1,I1,r1,q1⟩=>⟨x,σ,H1,I1,r1,q1⟩)
def jS6 (c:TT)(t u:TS):TS:=fun D σ H=>c σ H fun b H1=>if b=true then t D σ H1 else u D σ H1
theorem jRT {c:Expr}{a b:List Stmt}{tc:TT}(hc:PT X c tc) (ha:PSs X a t) (hb:PSs X b u):PS X (.If c a b pos) (jS6 tc t u):=by
 intro pins s σ H D I h
 refine wpAny_If (thn (hc pins s σ H _ I h) fun d s1 hh=>?_)
 obtain⟨H1,I1,q1⟩:=hh
 cases d with
 |true=>exact ha pins s1 σ H1 D I1 q1
 |false=>exact hb pins s1 σ H1 D I1 q1
def jQv:TS:=fun _ _ _=>False
theorem jM2:PS X st jQv:=fun _ _ _ _ _ _ h=>h.elim
end
abbrev TG:=V→St→Hp→(St→Hp→Prop)→Prop
abbrev TGs:=List V→St→Hp→(St→Hp→Prop)→Prop
def PG (X:Cx)(target:Expr)(t:TG):Prop :=
 ∀(pins:List (Addr×Obj))(s:Shared)(σ:St)(H:Hp)(v:V)(u:Value)(Q:St→Hp→Prop),Inv X pins σ H s→jBM v u→t v σ H Q →
  wpAny (model X.prog X.w) X.A (assign target X.env u) (fun _ s'=>∃σ' H',Inv X pins σ' H' s'∧Q σ' H') X.xe s
def PGs (X:Cx)(ts:List Expr)(t:TGs):Prop :=
 ∀(pins:List (Addr×Obj))(s:Shared)(σ:St)(H:Hp)(vs:List V)(us:List Value)(Q:St→Hp→Prop),Inv X pins σ H s→jBJ vs us→t vs σ H Q →
  wpAny (model X.prog X.w) X.A (assignInOrder ((assignEach ts X.env).map (·.2)) us) (fun _ s'=>∃σ' H',Inv X pins σ' H' s'∧Q σ' H') X.xe s
abbrev TIp:=V→V→Hp→VK→Prop
def PIp (X:Cx)(op:Operator)(t:TIp):Prop :=
 ∀(pins:List (Addr×Obj))(s:Shared)(σ:St)(H:Hp)(x y:V)(v u:Value)(Q:VK),Inv X pins σ H s→jBM x v→jBM y u→t x y H Q →
  wpAny (model X.prog X.w) X.A (inplaceOp op v u) (EP X pins σ Q) X.xe s
section
variable {X:Cx}{pos:Pos}
def jDg (i:Nat):TG:=fun v σ H Q=>Q (σ.set i (some v)) H
theorem jBn {i:Nat}{x:Str}(hN:X.N.Nodup) (hi:X.N[i]? = some x) (hx:Loc X.env.scope x) (hf:X.fn x=true∨X.env.scope.names.lookup x=some .local:=by first|exact .inl rfl|exact .inr rfl|assumption):PG X (.Name x pos) (jDg i):=by
 intro pins s σ H v u Q I r h
 exact wpAny_assign_Name (jEK I hN hi hx r (fun s' I'=>⟨_,H,I',h⟩) hf)
def jRn:TGs:=fun vs σ H Q=>vs=[]∧Q σ H
def jLV (t:TG)(u:TGs):TGs:=fun vs σ H Q=>∃v r,vs=v::r∧t v σ H fun σ' H'=>u r σ' H' Q
theorem jLt:PGs X [] jRn:=by
 intro pins s σ H vs us Q I r h
 obtain⟨e,h⟩:=h
 subst e
 cases r
 exact assignInOrder_nil ⟨σ,H,I,h⟩
theorem jFT {e:Expr}{es:List Expr}{t:TG}{u:TGs}(h1:PG X e t) (h2:PGs X es u)
 (hs:(assignEach (e::es) X.env).map (·.2)=assign e X.env::(assignEach es X.env).map (·.2):=by rfl):PGs X (e::es) (jLV t u):=by
 intro pins s σ H vs us Q I r h
 obtain⟨v,vr,e1,h⟩:=h
 subst e1
 cases r with
 |cons r rr =>
  rw[hs]
  refine assignInOrder_cons (thn (h1 pins s σ H _ _ _ I r h) fun _ s1 hh=>?_)
  obtain⟨σ1,H1,I1,q1⟩:=hh
  exact h2 pins s1 σ1 H1 _ _ Q I1 rr q1
def jSl (K:PySem.W.Frag)(n:Nat)(t:TGs):TG:=fun v σ H Q=>∃a xs,v=.ref a∧SqT K H a xs∧xs.length=n∧t xs σ H Q
theorem jNC {es:List Expr}{k:Nat}{t:TGs}{n:Nat}(hc:X.calm=true) (h:PGs X es t)
 (hn:(assignEach es X.env).length=n:=by rfl) (hst:(assignEach es X.env).findIdx? (·.1)=none:=by rfl):PG X (.Tuple es k pos) (jSl X.K n t):=by
 intro pins s σ H v u Q I r hw
 obtain⟨a,xs,e1,hq,hl,hw⟩:=hw
 subst e1
 cases r
 obtain⟨its,rv,ht,hz⟩:=I.tuple hq
 refine assign_Tuple_tuple (I.ok.hd hc) ht (by simp[hn,←hl,rv.length]) hst fun h' hx=>?_
 have I1:Inv X pins σ H { s with heap:=h' }:=I.kept (t':=s.toks) fun b o e=>hx b o (Nat.ne_of_lt (Heap.lt_size e)) e
 exact h pins _ σ H xs _ Q I1 (by simpa using rv) hw
def jSX (te:TE)(g:TG):TS:=fun D σ H=>te σ H fun x H1=>g x σ H1 D.nx
theorem jP1 {i:Nat}{x:Str}{e:Expr}{te:TE}{pos':Pos}(hN:X.N.Nodup) (hi:X.N[i]? = some x) (hx:Loc X.env.scope x) (he:PE X e te) (hs:swapsWith e (some (.Name x pos')) pos.line X.env=pure false:=by rfl) (hf:X.fn x=true∨X.env.scope.names.lookup x=some .local:=by first|exact .inl rfl|exact .inr rfl|assumption) :
 PS X (.Assign [.Name x pos'] e pos) (jSX te (jDg i)):=by
 intro pins s σ H D I h
 refine wpAny_Assign_Name (thn (he pins s σ H _ I h) fun v s1 ⟨y,H1,I1,r1,q1⟩=>?_) hs
 exact jEK I1 hN hi hx r1 (fun s2 I2=>⟨_,H1,I2,q1⟩) hf
def jS0 (i:Nat)(te:TE)(ti:TIp):TS:=fun D σ H=>∃x,σ[i]? = some (some x)∧te σ H fun y H1=>ti x y H1 fun z H2=>D.nx (σ.set i (some z)) H2
theorem jQs {i:Nat}{x:Str}{e:Expr}{te:TE}{op:Operator}{ti:TIp}{pos':Pos}(hN:X.N.Nodup) (hi:X.N[i]? = some x) (hx:Loc X.env.scope x) (he:PE X e te) (ho:PIp X op ti) (hf:X.fn x=true∨X.env.scope.names.lookup x=some .local:=by first|exact .inl rfl|exact .inr rfl|assumption) :
 PS X (.AugAssign (.Name x pos') op e pos) (jS0 i te ti):=by
 intro pins s σ H D I h
 obtain⟨v,e1,h⟩:=h
 obtain⟨m,hn,hl⟩:=I.loc
 have vis:Vis X.env.scope x:=by rcases hx with k|k;exact .inl k;exact .inr (.inl k)
 obtain⟨u,r,l⟩:=hl i x v hi e1 vis
 refine wpAny_AugAssign_Name ?_
 have go:wpAny (model X.prog X.w) X.A (eval e X.env) (fun w s₂=>wpAny (model X.prog X.w) X.A (inplaceOp op u w) (fun r s₃=>wpAny (model X.prog X.w) X.A (storeName X.env x r) (fun _=>SP X pins D .next) X.xe s₃) X.xe s₂) X.xe s:=by
  refine thn (he pins s σ H _ I h) fun w s1 hh=>?_
  obtain⟨y,H1,I1,r1,q1⟩:=hh
  refine thn (ho pins s1 σ H1 v y u w _ I1 r r1 q1) fun z s2 hh=>?_
  obtain⟨zv,H2,I2,r2,q2⟩:=hh
  exact jEK I2 hN hi hx r2 (fun s3 I3=>⟨_,H2,I3,q2⟩) hf
 rcases l with⟨hk,hm⟩|⟨hk,c,hc,hcell⟩
 ·exact wpAny_loadName_local I.ok.kind hk hn hm go
 ·rcases hk with hk|hk
  ·exact wpAny_loadName_cell I.ok.kind hk hc hcell go
  ·rcases hx with k|k
   ·have:X.env.scope.names.lookup x=some .free:=hk
    rw[k] at this;cases this
   ·have:X.env.scope.names.lookup x=some .free:=hk
    rw[k] at this;cases this
def ipI (f:Int→Int→Int):TIp:=fun x y H Q=>∃i j,x=.int i∧y=.int j∧Q (.int (f i j)) H
theorem jQH:PIp X .Add (ipI fun i j=>i+j):=by
 intro pins s σ H x y v u Q I r1 r2 h
 obtain⟨i,j,e1,e2,q⟩:=h
 subst e1;subst e2
 obtain⟨t,rfl⟩:=r1
 obtain⟨t',rfl⟩:=r2
 exact iadd_int ⟨.int _,H,I.tok _,⟨_,rfl⟩,q⟩
end
section
variable {X:Cx}{pos:Pos}
def jQG (c:TT)(tb:TS):TS:=fun D σ H=>∃W:Nat→St→Hp→Prop,(∃m,W m σ H)∧∀m σ H,W m σ H →
 c σ H fun b H1=>if b=true then ∃N:St→Hp→Prop,(∀σ' H',N σ' H'→∃m',m'<m∧W m' σ' H')∧tb { D with nx:=N,ct:=N,bk:=D.nx } σ H1 else D.nx σ H1
theorem jMv {c:Expr}{body:List Stmt}{tc:TT}{tb:TS}(hp:PassesOwn (model X.prog X.w) X.A X.env X.xe) (hc:PT X c tc) (hb:PSs X body tb):PS X (.While c body [] pos) (jQG tc tb):=by
 intro pins s σ H D I h
 obtain⟨W,⟨m0,w0⟩,turn⟩:=h
 refine wpAny_While (codeAny_whileLoop (fun n s'=>∃σ' H',Inv X pins σ' H' s'∧W n σ' H') ?_ m0 ⟨σ,H,I,w0⟩)
 rintro n s1 ⟨σ1,H1,I1,w1⟩
 refine wpAny_passesOwn hp (thn (hc pins s1 σ1 H1 _ I1 (turn n σ1 H1 w1)) fun b s2 hh=>?_)
 obtain⟨H2,I2,q2⟩:=hh
 cases b with
 |true =>
  obtain⟨N,hN,q2⟩:=q2
  rw[if_pos rfl]
  refine wpAny_passesOwn hp (thn (hb pins s2 σ1 H2 _ I2 q2) fun f s3 q3=>?_)
  cases f with
  |next =>
   obtain⟨σ3,H3,I3,n3⟩:=q3
   obtain⟨m',hm,w3⟩:=hN σ3 H3 n3
   exact⟨m',hm,σ3,H3,I3,w3⟩
  |cont =>
   obtain⟨σ3,H3,I3,n3⟩:=q3
   obtain⟨m',hm,w3⟩:=hN σ3 H3 n3
   exact⟨m',hm,σ3,H3,I3,w3⟩
  |brk=>exact q3
  |ret v=>exact q3
 |false =>
  rw[if_neg Bool.false_ne_true]
  exact wpAny_execs_nil ⟨σ1,H2,I2,q2⟩
end
structure It where
 go:Nat→Hp→Prop
 yld:Nat→Hp→V→Hp→Prop
 stop:Nat→Hp→Prop
def jJ9 (X:Cx)(pins:List (Addr×Obj))(H:Hp)(b:Addr):Prop :=
 H b=none∧b≠X.env.locals∧b∉X.fs∧(b∈X.ex∨X.s₀.heap.objs.size≤b)∧(∀x c,X.env.cells.lookup x=some c→c≠b)∧∀p∈X.pn++pins,p.1≠b
theorem Inv.fpOk {X:Cx}{pins:List (Addr×Obj)}{σ:St}{H H':Hp}{s:Shared}{b:Addr}(I:Inv X pins σ H s) (hb:s.heap.objs.size≤b) (hn:H' b=none):jJ9 X pins H' b:=by
 refine⟨hn,Nat.ne_of_gt (Nat.lt_of_lt_of_le I.lt hb),I.nofs hb,.inr (Nat.le_trans I.sz hb),fun x c e z=>?_,fun p hp z=>?_⟩
 ·obtain⟨v,q⟩:=I.cell x c e
  exact absurd (Nat.lt_of_lt_of_le q.lt (by rw[z];exact hb)) (Nat.lt_irrefl _)
 ·exact absurd (Nat.lt_of_lt_of_le (Heap.lt_size (I.pin p hp).1) (by rw[z];exact hb)) (Nat.lt_irrefl _)
structure jMw (P:Program)(w:World)(K:PySem.W.Frag)(tg:Expr)(J:It)(fp:List Addr)(it:Addr)(tn:Nat→Heap→Prop):Prop where
 mem:it∈fp
 obj:∀i h,tn i h→∀b∈fp,∃o,h.get? b=some o∧∀v,o.data≠.cell v
 keep:∀i h h',tn i h→(∀b∈fp,∀o,h.get? b=some o→h'.get? b=some o)→tn i h'
 item:∀(X:Cx),X.prog=P→X.w=w→X.K=K→X.calm=true→∀(i:Nat)(pins:List (Addr×Obj))(s:Shared)(σ:St)(H:Hp)(E:Value→Shared→Prop),Inv X pins σ H s→(∀b∈fp,jJ9 X pins H b)→tn i s.heap→J.go i H →
  wpAny (model P w) X.A (pyNext (.ref it)) (fun r s1=>∃u,r=some u ∧
   wpAny (model P w) X.A (letOwnedTupleGo tg (.ref it) u) (fun _ s2=>∃x H',Inv X pins σ H' s2∧jBM x u∧J.yld i H x H'∧tn (i+1) s2.heap∧∀b∈fp,H' b=none) E s1) E s
 done:∀(X:Cx),X.prog=P→X.w=w→X.K=K→X.calm=true→∀(i:Nat)(pins:List (Addr×Obj))(s:Shared)(σ:St)(H:Hp)(E:Value→Shared→Prop),Inv X pins σ H s→(∀b∈fp,jJ9 X pins H b)→tn i s.heap→J.stop i H →
  wpAny (model P w) X.A (pyNext (.ref it)) (fun r s1=>r=none∧Inv X pins σ H s1) E s
 self:∀(A:Around)(i:Nat)(s:Shared)(Q:Value→Shared→Prop)(E:Value→Shared→Prop),tn i s.heap→Q (.ref it) s→wpAny (model P w) A (pyIter (.ref it)) Q E s
abbrev TI:=St→Hp→(It→Hp→Prop)→Prop
def PIE (X:Cx)(pins:List (Addr×Obj))(σ:St)(tg:Expr)(R:It→Hp→Prop)(itv:Value)(s2:Shared):Prop :=
 ∃(it:Addr)(fp:List Addr)(tn:Nat→Heap→Prop)(J:It)(H':Hp),itv=.ref it∧Inv X pins σ H' s2∧jMw X.prog X.w X.K tg J fp it tn∧tn 0 s2.heap∧(∀b∈fp,jJ9 X pins H' b)∧R J H'
def PI (X:Cx)(tg iter:Expr)(wi:TI):Prop :=
 ∀(pins:List (Addr×Obj))(s:Shared)(σ:St)(H:Hp)(R:It→Hp→Prop),Inv X pins σ H s→wi σ H R →
  wpAny (model X.prog X.w) X.A (eval iter X.env) (fun v s1=>wpAny (model X.prog X.w) X.A (pyIter v) (PIE X pins σ tg R) X.xe s1) X.xe s
theorem jMF {M:Model}{A:Around}{E:Value→Shared→Prop}{s:Shared}{tg:Expr}{it:Addr}{u:Value}{o:Obj}{n:String}{vs:Array Value}{Q:Unit→Shared→Prop}(ho:s.heap.get? it=some o) (hc:o.cls=.type n) (hd:o.data=.fields vs)
 (hn:["enumerate","zip","dict_itemiterator","dict_reverseitemiterator","odict_iterator","itertools.zip_longest","itertools.pairwise"].contains n=false) (hQ:Q () s):wpAny M A (letOwnedTupleGo tg (.ref it) u) Q E s:=by
 unfold letOwnedTupleGo
 cases tg<;>first
  |exact wpAny_pure hQ
  |(cases u<;>first
   |exact wpAny_pure hQ
   |(refine wpAny_bind (wpAny_load ho ?_)
     rw[hc,hd]
     show wpAny M A (if (["enumerate","zip","dict_itemiterator","dict_reverseitemiterator","odict_iterator","itertools.zip_longest","itertools.pairwise"].contains n&&vs[0]? == some (rawInt _))=true then _ else _) Q E s
     rw[if_neg (by intro h;rw[hn,Bool.false_and] at h;cases h)]
     exact wpAny_pure hQ))
def Itl (K:PySem.W.Frag)(a:Addr):It :=
 ⟨fun i H=>∃xs x,SqL K H a xs∧xs[i]? = some x,fun i H x H'=>H'=H∧∀xs,SqL K H a xs→xs[i]? = some x,fun i H=>∃xs,SqL K H a xs∧xs.length≤i⟩
def Itt (K:PySem.W.Frag)(a:Addr):It :=
 ⟨fun i H=>∃xs x,SqT K H a xs∧xs[i]? = some x,fun i H x H'=>H'=H∧∀xs,SqT K H a xs→xs[i]? = some x,fun i H=>∃xs,SqT K H a xs∧xs.length≤i⟩
def Itr (lo:Int)(n:Nat):It:=⟨fun i _=>i<n,fun i H x H'=>H'=H∧x=.int (lo+i),fun i _=>n≤i⟩
theorem jLz {P:Program}{w:World}{K:PySem.W.Frag}{tg:Expr}(a it:Addr):jMw P w K tg (Itl K a) [it] it (fun i h=>h.IsListIter it a i) where
 mem:=by simp
 obj:=fun i h st b hb=>by
  have e:b=it:=by simpa using hb
  subst e
  obtain⟨o,e,c,d⟩:=st
  exact⟨o,e,fun v z=>by rw[d] at z;cases z⟩
 keep:=fun i h h' st k=>st.at fun o e=>k it (by simp) o e
 item:=by
  intro X hP hw hK hc i pins s σ H E I hf st hg
  subst hP hw hK
  obtain⟨xs,x,hq,hx⟩:=hg
  obtain⟨its,rv,p,hz⟩:=I.list hq
  obtain⟨u,hu,ru⟩:=rv.get hx
  obtain⟨f0,f1,f2,f3,f4,f5⟩:=hf it (by simp)
  refine wpAny_pyNext_list_item st p.isList (x:=u) (by simpa using hu) fun h' st' sb=>?_
  have I1:Inv X pins σ H { s with heap:=h' }:=I.turned (t':=s.toks) (fun b o hb e=>(sb.2 b hb).trans e) f0 f1 f3 f4 f5
  obtain⟨o,e,c,d⟩:=id st'
  exact⟨u,rfl,jMF (s:={ s with heap:=h' }) e c d (by decide) ⟨x,H,I1,ru,⟨rfl,fun ys hy=>by rw[I.list_inj hy hq];exact hx⟩,st',fun b hb=>(hf b hb).1⟩⟩
 done:=by
  intro X hP hw hK hc i pins s σ H E I hf st hg
  subst hP hw hK
  obtain⟨xs,hq,hx⟩:=hg
  obtain⟨its,rv,p,hz⟩:=I.list hq
  obtain⟨f0,f1,f2,f3,f4,f5⟩:=hf it (by simp)
  have hl:=rv.length
  exact wpAny_pyNext_list_end (I.ok.hd hc) st p.isList (by simp;omega) fun h' eb=>⟨rfl,I.turned (t':=s.toks) (fun b o hb e=>eb b o hb e) f0 f1 f3 f4 f5⟩
 self:=fun _ _ _ _ _ st h=>wpAny_pyIter_listiter st h
theorem jKr {P:Program}{w:World}{K:PySem.W.Frag}{tg:Expr}(a it:Addr):jMw P w K tg (Itt K a) [it] it (fun i h=>h.IsTupleIter it a i) where
 mem:=by simp
 obj:=fun i h st b hb=>by
  have e:b=it:=by simpa using hb
  subst e
  obtain⟨o,e,c,d⟩:=st
  exact⟨o,e,fun v z=>by rw[d] at z;cases z⟩
 keep:=fun i h h' st k=>st.at fun o e=>k it (by simp) o e
 item:=by
  intro X hP hw hK hc i pins s σ H E I hf st hg
  subst hP hw hK
  obtain⟨xs,x,hq,hx⟩:=hg
  obtain⟨its,rv,p,hz⟩:=I.tuple hq
  obtain⟨u,hu,ru⟩:=rv.get hx
  obtain⟨f0,f1,f2,f3,f4,f5⟩:=hf it (by simp)
  refine wpAny_pyNext_tuple_item st (show s.heap.IsTuple a its.toArray from p) (x:=u) (by simpa using hu) fun h' st' sb=>?_
  have I1:Inv X pins σ H { s with heap:=h' }:=I.turned (t':=s.toks) (fun b o hb e=>(sb.2 b hb).trans e) f0 f1 f3 f4 f5
  obtain⟨o,e,c,d⟩:=id st'
  exact⟨u,rfl,jMF (s:={ s with heap:=h' }) e c d (by decide) ⟨x,H,I1,ru,⟨rfl,fun ys hy=>by rw[I.tuple_inj hy hq];exact hx⟩,st',fun b hb=>(hf b hb).1⟩⟩
 done:=by
  intro X hP hw hK hc i pins s σ H E I hf st hg
  subst hP hw hK
  obtain⟨xs,hq,hx⟩:=hg
  obtain⟨its,rv,p,hz⟩:=I.tuple hq
  obtain⟨f0,f1,f2,f3,f4,f5⟩:=hf it (by simp)
  have hl:=rv.length
  exact wpAny_pyNext_tuple_end (I.ok.hd hc) st (show s.heap.IsTuple a its.toArray from p) (by simp;omega) fun h' eb=>⟨rfl,I.turned (t':=s.toks) (fun b o hb e=>eb b o hb e) f0 f1 f3 f4 f5⟩
 self:=fun _ _ _ _ _ st h=>wpAny_pyIter_tupleiter st h
theorem jKq {P:Program}{w:World}{K:PySem.W.Frag}{tg:Expr}(it:Addr) (lo:Int) (n:Nat):jMw P w K tg (Itr lo n) [it] it (fun i h=>IsRangeIter h it (lo+(i:Nat)*1) ((n:Int)-(i:Nat)) 1) where
 mem:=by simp
 obj:=fun i h st b hb=>by
  have e:b=it:=by simpa using hb
  subst e
  exact⟨_,st,fun v z=>by
   have z':Data.fields _=Data.cell v:=z
   cases z'⟩
 keep:=fun i h h' st k=>k it (by simp) _ st
 item:=by
  intro X hP hw hK hc i pins s σ H E I hf st hg
  subst hP hw hK
  obtain⟨f0,f1,f2,f3,f4,f5⟩:=hf it (by simp)
  have W:=Walks.range (prog:=X.prog) (w:=X.w) (I.ok.hd hc) it lo 1 n
  refine W.item i s _ _ hg st fun v h' tk hv st' kk=>?_
  obtain⟨t,rfl⟩:=hv
  have I1:Inv X pins σ H { s with heap:=h',toks:=tk }:=I.turned (fun b o hb e=>kk b o (by simpa using hb) e) f0 f1 f3 f4 f5
  refine⟨_,rfl,jMF (s:={ s with heap:=h',toks:=tk }) (n:="range_iterator") st' rfl rfl (by decide) ⟨.int (lo+i),H,I1,⟨t,?_⟩,⟨rfl,rfl⟩,st',fun b hb=>(hf b hb).1⟩⟩
  rw[Int.mul_one]
 done:=by
  intro X hP hw hK hc i pins s σ H E I hf st hg
  subst hP hw hK
  obtain⟨f0,f1,f2,f3,f4,f5⟩:=hf it (by simp)
  exact wpAny_pyNext_range_end (I.ok.hd hc) st (by have:n≤i:=hg;omega) fun h' eb=>⟨rfl,I.turned (t':=s.toks) (fun b o hb e=>eb b o hb e) f0 f1 f3 f4 f5⟩
 self:=fun _ _ _ _ _ st h=>wpAny_pyIter_rangeiter st h
end L2
namespace L2
open PySem PySem.Spec PyProof.Rows
section
variable {X:Cx}{tg:Expr}
theorem jJJ {pins:List (Addr×Obj)}{σ:St}{H:Hp}{s:Shared}{R:It→Hp→Prop}{E:Value→Shared→Prop}{lo hi:Int}{t u v:Tok}{tk:Nat}(I:Inv X pins σ H s) (h1:-(2^62)≤lo) (h2:lo<2^62) (h3:-(2^62)≤hi) (h4:hi<2^62)
 (q:R (Itr lo (hi-lo).toNat) H):wpAny (model X.prog X.w) X.A (pyIter (.ref s.heap.objs.size)) (PIE X pins σ tg R) E { s with heap:=s.heap.push { cls:=.type "range",data:=.fields #[.int lo t,.int hi u,.int 1 v] },toks:=tk }:=by
 refine wpAny_pyIter_range (IsRange.new ..) (small_one h1 h2 h3 h4) ?_
 have I1:Inv X pins σ H { s with heap:=s.heap.push { cls:=.type "range",data:=.fields #[.int lo t,.int hi u,.int 1 v] },toks:=tk }:=I.kept fun b o e=>Heap.get?_push_of_some _ e
 refine⟨(s.heap.push { cls:=.type "range",data:=.fields #[.int lo t,.int hi u,.int 1 v] }).objs.size,[(s.heap.push { cls:=.type "range",data:=.fields #[.int lo t,.int hi u,.int 1 v] }).objs.size],_,_,H,rfl,
  I1.kept (t':=tk) fun b o e=>Heap.get?_push_of_some _ e,jKq _ lo (hi-lo).toNat,?_,fun b hb=>?_,q⟩
 ·have e1:lo+((0:Nat):Int)*1=lo:=by simp
  have e2:(((hi-lo).toNat:Nat):Int)-((0:Nat):Int)=Builtin.Range.rangeSize lo hi 1:=by rw[rangeSize_one];split<;>omega
  show IsRangeIter _ _ (lo+((0:Nat):Int)*1) ((((hi-lo).toNat:Nat):Int)-((0:Nat):Int)) 1
  rw[e1,e2]
  exact Heap.get?_push_size _ rfl
 ·have e:b=(s.heap.push { cls:=.type "range",data:=.fields #[.int lo t,.int hi u,.int 1 v] }).objs.size:=by simpa using hb
  subst e
  exact I1.fpOk (Nat.le_refl _) (I1.hok.fresh (Nat.le_refl _))
def jOz (ta:TA):TI:=fun σ H R=>ta σ H fun vs H1=>∃j:Int,vs=[.int j]∧-(2^62)≤j∧j<2^62∧R (Itr 0 j.toNat) H1
def jO1 (ta:TA):TI:=fun σ H R=>ta σ H fun vs H1=>∃i j:Int,vs=[.int i,.int j]∧(-(2^62)≤i∧i<2^62∧-(2^62)≤j∧j<2^62)∧R (Itr i (j-i).toNat) H1
theorem jDA {a:Expr}{ta:TA}{p pos:Pos}(hg:Gl X "range") (hm:X.mg "range"=none) (ha:PA X [a] ta) (hs:starEach [a] X.env=[(false,eval a X.env)]:=by rfl):PI X tg (.Call (.Name "range" p) [a] [] pos) (jOz ta):=by
 intro pins s σ H R I h
 refine Call_ (jFw I hg hm boot_range (PyProof.Rows.callWith_type1 (thn (ha pos pins s σ H _ I h) fun us s1 ⟨vs,H1,I1,r1,q1⟩=>?_) hs rfl))
 obtain⟨j,e,q1,q2,q⟩:=q1
 subst e
 cases r1 with
 |cons r rr =>
  cases rr
  obtain⟨t,rfl⟩:=r
  exact call_range_1 (jJJ I1 (by omega) (by omega) q1 q2 (by simpa using q))
theorem jC4 {a b:Expr}{ta:TA}{p pos:Pos}(hg:Gl X "range") (hm:X.mg "range"=none) (ha:PA X [a,b] ta) (hs:starEach [a,b] X.env=[(false,eval a X.env),(false,eval b X.env)]:=by rfl) (hs2:starEach [b] X.env=[(false,eval b X.env)]:=by rfl) :
 PI X tg (.Call (.Name "range" p) [a,b] [] pos) (jO1 ta):=by
 intro pins s σ H R I h
 refine Call_ (jFw I hg hm boot_range (PyProof.Rows.callWith_type1 (thn (ha pos pins s σ H _ I h) fun us s1 ⟨vs,H1,I1,r1,q1⟩=>?_) (by rw[hs,hs2]) (by rw[hs2];rfl)))
 obtain⟨i,j,e,⟨q1,q2,q3,q4⟩,q⟩:=q1
 subst e
 cases r1 with
 |cons r rr =>
  cases rr with
  |cons r' rr =>
   cases rr
   obtain⟨t,rfl⟩:=r
   obtain⟨t',rfl⟩:=r'
   exact call_range_2 (jJJ I1 q1 q2 q3 q4 q)
def jN1 (wi:TI)(g:TG)(tb:TS):TS:=fun D σ H=>wi σ H fun J H1=>∃W:Nat→Nat→St→Hp→Prop,(∃m,W 0 m σ H1)∧∀i m σ H,W i m σ H →
 (J.stop i H∧D.nx σ H)∨(J.go i H∧∃N:St→Hp→Prop,(∀σ' H',N σ' H'→∃m',m'<m∧W (i+1) m' σ' H')∧∀x H',J.yld i H x H'→g x σ H' fun σ2 H2=>tb { D with nx:=N,ct:=N,bk:=D.nx } σ2 H2)
def jGM (fp:List Addr)(h:Heap):List (Addr×Obj):=fp.filterMap fun b=>(h.get? b).map fun o=>(b,o)
theorem jCl {fp:List Addr}{h:Heap}{b:Addr}{o:Obj}(hb:b∈fp) (e:h.get? b=some o):(b,o)∈jGM fp h:=List.mem_filterMap.mpr ⟨b,hb,by rw[e];rfl⟩
theorem jLE {fp:List Addr}{h:Heap}{p:Addr×Obj}(hp:p∈jGM fp h):p.1∈fp∧h.get? p.1=some p.2:=by
 obtain⟨b,hb,e⟩:=List.mem_filterMap.mp hp
 cases q:h.get? b with
 |none=>rw[q] at e;cases e
 |some o =>
  rw[q] at e
  have e':(b,o)=p:=Option.some.inj e
  subst e'
  exact⟨hb,q⟩
theorem Inv.pinned {pins:List (Addr×Obj)}{σ:St}{H:Hp}{s:Shared}{fp:List Addr}(I:Inv X pins σ H s) (hf:∀b∈fp,jJ9 X pins H b) (ho:∀b∈fp,∃o,s.heap.get? b=some o∧∀v,o.data≠.cell v):Inv X (pins++jGM fp s.heap) σ H s :=
 I.pins_of fun p hp=>(List.mem_append.mp hp).elim (fun z=>I.pin p (List.mem_append_right _ z)) fun z=>by
  obtain⟨hb,e⟩:=jLE z
  obtain⟨f0,f1,f2,_⟩:=hf p.1 hb
  obtain⟨o,e',d⟩:=ho p.1 hb
  rw[e] at e';cases e'
  exact⟨e,f0,f1,f2,d⟩
theorem Inv.unpinned {pins pl:List (Addr×Obj)}{σ:St}{H:Hp}{s:Shared}(I:Inv X (pins++pl) σ H s):Inv X pins σ H s:=I.pins_of fun p hp=>I.pin p (List.mem_append_right _ (List.mem_append_left _ hp))
theorem jC2 {iter:Expr}{body:List Stmt}{wi:TI}{g:TG}{tb:TS}{pos:Pos}(hp:PassesOwn (model X.prog X.w) X.A X.env X.xe) (hc:X.calm=true) (hi:PI X tg iter wi) (hg:PG X tg g) (hb:PSs X body tb)
 (hs:∀x,foldedSetIterable iter X.env x=pure x:=by intro _;rfl):PS X (.For tg iter body [] pos) (jN1 wi g tb):=by
 intro pins s σ H D I h
 refine wpAny_For (thn (hi pins s σ H _ I h) fun v s1 h1=>thn h1 fun itv s2 h2=>?_) hs
 obtain⟨it,fp,tn,J,H2,e,I2,T,st2,f2,W,⟨m0,w0⟩,turn⟩:=h2
 subst e
 have stat:∀{H':Hp},(∀b∈fp,H' b=none)→∀b∈fp,jJ9 X pins H' b:=fun hn b hb=>⟨hn b hb,(f2 b hb).2⟩
 refine codeAny_forLoop_any (fun n s'=>∃i σ' H',Inv X pins σ' H' s'∧tn i s'.heap∧(∀b∈fp,H' b=none)∧W i n σ' H') ?_ m0 ⟨0,σ,H2,I2,st2,fun b hb=>(f2 b hb).1,w0⟩
 rintro n s3 ⟨i,σ3,H3,I3,st3,fr3,w3⟩
 rcases turn i n σ3 H3 w3 with⟨stop,qn⟩|⟨go,N,hN,step⟩
 ·refine wpAny_passesOwn hp (thn (T.done X rfl rfl rfl hc i pins s3 σ3 H3 X.xe I3 (stat fr3) st3 stop) fun r s4 hh=>?_)
  obtain⟨hr,I4⟩:=hh
  subst hr
  exact wpAny_execs_nil ⟨σ3,H3,I4,qn⟩
 ·refine wpAny_passesOwn hp (thn (T.item X rfl rfl rfl hc i pins s3 σ3 H3 X.xe I3 (stat fr3) st3 go) fun r s4 hh=>?_)
  obtain⟨u,hr,h4⟩:=hh
  subst hr
  refine wpAny_passesOwn hp (thn h4 fun _ s5 hh=>?_)
  obtain⟨x,H5,I5,r5,y5,st5,fr5⟩:=hh
  have I5':=I5.pinned (stat fr5) (T.obj _ _ st5)
  refine wpAny_passesOwn hp (thn (hg _ s5 σ3 H5 x u _ I5' r5 (step x H5 y5)) fun _ s6 hh=>?_)
  obtain⟨σ6,H6,I6,q6⟩:=hh
  refine wpAny_passesOwn hp (thn (hb _ s6 σ6 H6 _ I6 q6) fun f s7 q7=>?_)
  have again:∀{σ7:St}{H7:Hp},Inv X (pins++jGM fp s5.heap) σ7 H7 s7→N σ7 H7→∃m,m<n∧∃i σ' H',Inv X pins σ' H' s7∧tn i s7.heap∧(∀b∈fp,H' b=none)∧W i m σ' H':=fun {σ7 H7} I7 n7=>by
   obtain⟨m',hm,w7⟩:=hN σ7 H7 n7
   refine⟨m',hm,i+1,σ7,H7,I7.unpinned,T.keep _ _ _ st5 fun b hb o e=>(I7.pin (b,o) (List.mem_append_right _ (List.mem_append_right _ (jCl hb e)))).1,fun b hb=>?_,w7⟩
   obtain⟨o,e,d⟩:=T.obj _ _ st5 b hb
   exact(I7.pin (b,o) (List.mem_append_right _ (List.mem_append_right _ (jCl hb e)))).2.1
  cases f with
  |next=>obtain⟨σ7,H7,I7,n7⟩:=q7;exact again I7 n7
  |cont=>obtain⟨σ7,H7,I7,n7⟩:=q7;exact again I7 n7
  |brk=>obtain⟨σ7,H7,I7,q7⟩:=q7;exact⟨σ7,H7,I7.unpinned,q7⟩
  |ret v=>obtain⟨x7,σ7,H7,I7,r7,q7⟩:=q7;exact⟨x7,σ7,H7,I7.unpinned,r7,q7⟩
end
theorem jNd {K:PySem.W.Frag}{a:Addr}{xs:List V}{g:TG}{tb:TS}{D:jJe}{σ:St}{H:Hp}(Pv:Nat→St→Hp→Prop) (h0:Pv 0 σ H) (hl:∀i σ H,i≤xs.length→Pv i σ H→SqL K H a xs)
 (hs:∀i x σ H,xs[i]? = some x→Pv i σ H→g x σ H fun σ2 H2=>tb { D with nx:=Pv (i+1),ct:=Pv (i+1),bk:=D.nx } σ2 H2) (hd:∀σ H,Pv xs.length σ H→D.nx σ H) :
 ∃W:Nat→Nat→St→Hp→Prop,(∃m,W 0 m σ H)∧∀i m σ H,W i m σ H →
  ((Itl K a).stop i H∧D.nx σ H)∨((Itl K a).go i H∧∃N:St→Hp→Prop,(∀σ' H',N σ' H'→∃m',m'<m∧W (i+1) m' σ' H')∧∀x H',(Itl K a).yld i H x H'→g x σ H' fun σ2 H2=>tb { D with nx:=N,ct:=N,bk:=D.nx } σ2 H2):=by
 refine⟨fun i m σ H=>m=xs.length-i∧i≤xs.length∧Pv i σ H,⟨xs.length,by simp,Nat.zero_le _,h0⟩,?_⟩
 rintro i m σ H ⟨rfl,hi,p⟩
 have q:=hl i σ H hi p
 by_cases hlt:i<xs.length
 ·refine .inr ⟨⟨xs,xs[i],q,by simp[hlt]⟩,Pv (i+1),fun σ' H' p'=>⟨xs.length-(i+1),by omega,rfl,hlt,p'⟩,fun x H' y=>?_⟩
  obtain⟨e,y⟩:=y
  subst e
  exact hs i x σ _ (y xs q) p
 ·have e:i=xs.length:=by omega
  subst e
  exact .inl ⟨⟨xs,q,Nat.le_refl _⟩,hd σ H p⟩
theorem jPk {K:PySem.W.Frag}{a:Addr}{xs:List V}{g:TG}{tb:TS}{D:jJe}{σ:St}{H:Hp}(Pv:Nat→St→Hp→Prop) (h0:Pv 0 σ H) (hl:∀i σ H,i≤xs.length→Pv i σ H→SqT K H a xs)
 (hs:∀i x σ H,xs[i]? = some x→Pv i σ H→g x σ H fun σ2 H2=>tb { D with nx:=Pv (i+1),ct:=Pv (i+1),bk:=D.nx } σ2 H2) (hd:∀σ H,Pv xs.length σ H→D.nx σ H) :
 ∃W:Nat→Nat→St→Hp→Prop,(∃m,W 0 m σ H)∧∀i m σ H,W i m σ H →
  ((Itt K a).stop i H∧D.nx σ H)∨((Itt K a).go i H∧∃N:St→Hp→Prop,(∀σ' H',N σ' H'→∃m',m'<m∧W (i+1) m' σ' H')∧∀x H',(Itt K a).yld i H x H'→g x σ H' fun σ2 H2=>tb { D with nx:=N,ct:=N,bk:=D.nx } σ2 H2):=by
 refine⟨fun i m σ H=>m=xs.length-i∧i≤xs.length∧Pv i σ H,⟨xs.length,by simp,Nat.zero_le _,h0⟩,?_⟩
 rintro i m σ H ⟨rfl,hi,p⟩
 have q:=hl i σ H hi p
 by_cases hlt:i<xs.length
 ·refine .inr ⟨⟨xs,xs[i],q,by simp[hlt]⟩,Pv (i+1),fun σ' H' p'=>⟨xs.length-(i+1),by omega,rfl,hlt,p'⟩,fun x H' y=>?_⟩
  obtain⟨e,y⟩:=y
  subst e
  exact hs i x σ _ (y xs q) p
 ·have e:i=xs.length:=by omega
  subst e
  exact .inl ⟨⟨xs,q,Nat.le_refl _⟩,hd σ H p⟩
theorem jHT {lo:Int}{n:Nat}{g:TG}{tb:TS}{D:jJe}{σ:St}{H:Hp}(Pv:Nat→St→Hp→Prop) (h0:Pv 0 σ H)
 (hs:∀i σ H,i<n→Pv i σ H→g (.int (lo+i)) σ H fun σ2 H2=>tb { D with nx:=Pv (i+1),ct:=Pv (i+1),bk:=D.nx } σ2 H2) (hd:∀σ H,Pv n σ H→D.nx σ H) :
 ∃W:Nat→Nat→St→Hp→Prop,(∃m,W 0 m σ H)∧∀i m σ H,W i m σ H →
  ((Itr lo n).stop i H∧D.nx σ H)∨((Itr lo n).go i H∧∃N:St→Hp→Prop,(∀σ' H',N σ' H'→∃m',m'<m∧W (i+1) m' σ' H')∧∀x H',(Itr lo n).yld i H x H'→g x σ H' fun σ2 H2=>tb { D with nx:=N,ct:=N,bk:=D.nx } σ2 H2):=by
 refine⟨fun i m σ H=>m=n-i∧i≤n∧Pv i σ H,⟨n,by simp,Nat.zero_le _,h0⟩,?_⟩
 rintro i m σ H ⟨rfl,hi,p⟩
 by_cases hlt:i<n
 ·refine .inr ⟨hlt,Pv (i+1),fun σ' H' p'=>⟨n-(i+1),by omega,rfl,hlt,p'⟩,fun x H' y=>?_⟩
  obtain⟨e,y⟩:=y
  subst e y
  exact hs i σ _ hlt p
 ·have e:i=n:=by omega
  subst e
  exact .inl ⟨Nat.le_refl _,hd σ H p⟩
end L2
namespace L2
open PySem PySem.Spec PyProof.Rows
abbrev R2:=V→V→Hp→VK→Prop
def OpR (X:Cx)(f:Value→Value→Sem Value)(r:R2):Prop :=
 ∀(pins:List (Addr×Obj))(s:Shared)(σ:St)(H:Hp)(x y:V)(v u:Value)(Q:VK),Inv X pins σ H s→jBM x v→jBM y u→r x y H Q →
  wpAny (model X.prog X.w) X.A (f v u) (EP X pins σ Q) X.xe s
def UnR (X:Cx)(f:Value→Sem Value)(r:V→Hp→VK→Prop):Prop :=
 ∀(pins:List (Addr×Obj))(s:Shared)(σ:St)(H:Hp)(x:V)(v:Value)(Q:VK),Inv X pins σ H s→jBM x v→r x H Q →
  wpAny (model X.prog X.w) X.A (f v) (EP X pins σ Q) X.xe s
def jFa (X:Cx)(f:Value)(r:List V→Hp→VK→Prop):Prop :=
 ∀(pins:List (Addr×Obj))(s:Shared)(σ:St)(H:Hp)(xs:List V)(us:List Value)(Q:VK),Inv X pins σ H s→jBJ xs us→r xs H Q →
  wpAny (model X.prog X.w) X.A (call f us) (EP X pins σ Q) X.xe s
def jTr (X:Cx)(r:V→Hp→(Bool→Hp→Prop)→Prop):Prop :=
 ∀(pins:List (Addr×Obj))(s:Shared)(σ:St)(H:Hp)(x:V)(v:Value)(Q:Bool→Hp→Prop),Inv X pins σ H s→jBM x v→r x H Q →
  wpAny (model X.prog X.w) X.A (truthy v) (TP X pins σ Q) X.xe s
def tOp (r:R2)(ta tb:TE):TE:=fun σ H Q=>ta σ H fun x H1=>tb σ H1 fun y H2=>r x y H2 Q
def tUn (r:V→Hp→VK→Prop)(ta:TE):TE:=fun σ H Q=>ta σ H fun x H1=>r x H1 Q
def rI (C:Int→Int→Prop)(g:Int→Int→V):R2:=fun x y H Q=>∃i j,x=.int i∧y=.int j∧C i j∧Q (g i j) H
def rI0 (g:Int→Int→V):R2:=fun x y H Q=>∃i j,x=.int i∧y=.int j∧Q (g i j) H
def rU (g:Int→V):V→Hp→VK→Prop:=fun x H Q=>∃i,x=.int i∧Q (g i) H
section
variable {X:Cx}{a b c:Expr}{ta tb tc:TE}{pos:Pos}
theorem jSi (ha:PE X a ta)(hb:PE X b tb){pins:List (Addr×Obj)}{s:Shared}{σ:St}{H:Hp}{R:V→V→Hp→Prop}(I:Inv X pins σ H s)
 (h:ta σ H fun x H1=>tb σ H1 fun y H2=>R x y H2){Q:Value→Shared→Prop}{f:Value→Value→Sem Value}
 (hf:∀v u s2 x y H2,Inv X pins σ H2 s2→jBM x v→jBM y u→R x y H2→wpAny (model X.prog X.w) X.A (f v u) Q X.xe s2) :
 wpAny (model X.prog X.w) X.A (eval a X.env) (fun v s₁=>wpAny (model X.prog X.w) X.A (eval b X.env) (fun u s₂=>wpAny (model X.prog X.w) X.A (f v u) Q X.xe s₂) X.xe s₁) X.xe s:=by
 refine thn (ha pins s σ H _ I h) fun v s1 hh=>?_
 obtain⟨x,H1,I1,r1,q1⟩:=hh
 refine thn (hb pins s1 σ H1 _ I1 q1) fun u s2 hh=>?_
 obtain⟨y,H2,I2,r2,q2⟩:=hh
 exact hf v u s2 x y H2 I2 r1 r2 q2
theorem jPe {op:Operator}{r:R2}(ho:OpR X (binaryOp op) r) (ha:PE X a ta) (hb:PE X b tb):PE X (.BinOp a op b pos) (tOp r ta tb):=by
 intro pins s σ H Q I h
 exact wpAny_BinOp (jSi ha hb I h fun v u s2 x y H2 I2 rx ry q=>ho pins s2 σ H2 x y v u Q I2 rx ry q)
theorem jR2 {op:UnaryOp}{r:V→Hp→VK→Prop}(ho:UnR X (unaryOp op) r) (ha:PE X a ta):PE X (.UnaryOp op a pos) (tUn r ta):=by
 intro pins s σ H Q I h
 exact UnaryOp_ (thn (ha pins s σ H _ I h) fun v s1 ⟨x,H1,I1,r1,q1⟩=>ho pins s1 σ H1 x v Q I1 r1 q1)
theorem opI {f:Value→Value→Sem Value}{C:Int→Int→Prop}{g:Int→Int→Int}
 (rule:∀(i j:Int)(t u:Tok)(s:Shared)(Q:Value→Shared→Prop)(E:Value→Shared→Prop),C i j→Q (.int (g i j) s.toks) { s with toks:=s.toks+1 }→wpAny (model X.prog X.w) X.A (f (.int i t) (.int j u)) Q E s) :
 OpR X f (rI C fun i j=>.int (g i j)):=by
 intro pins s σ H x y v u Q I rx ry h
 obtain⟨i,j,rfl,rfl,hc,q⟩:=h
 obtain⟨t,rfl⟩:=rx
 obtain⟨t',rfl⟩:=ry
 exact rule i j t t' s _ _ hc ⟨.int (g i j),H,I.tok _,⟨_,rfl⟩,q⟩
theorem jSK {f:Value→Value→Sem Value}{g:Int→Int→Int}
 (rule:∀(i j:Int)(t u:Tok)(s:Shared)(Q:Value→Shared→Prop)(E:Value→Shared→Prop),Q (.int (g i j) s.toks) { s with toks:=s.toks+1 }→wpAny (model X.prog X.w) X.A (f (.int i t) (.int j u)) Q E s) :
 OpR X f (rI0 fun i j=>.int (g i j)):=by
 intro pins s σ H x y v u Q I rx ry h
 obtain⟨i,j,rfl,rfl,q⟩:=h
 obtain⟨t,rfl⟩:=rx
 obtain⟨t',rfl⟩:=ry
 exact rule i j t t' s _ _ ⟨.int (g i j),H,I.tok _,⟨_,rfl⟩,q⟩
theorem jSx {f:Value→Value→Sem Value}{g:Int→Int→Bool}
 (rule:∀(i j:Int)(t u:Tok)(s:Shared)(Q:Value→Shared→Prop)(E:Value→Shared→Prop),Q (.bool (g i j)) s→wpAny (model X.prog X.w) X.A (f (.int i t) (.int j u)) Q E s) :
 OpR X f (rI0 fun i j=>.bl (g i j)):=by
 intro pins s σ H x y v u Q I rx ry h
 obtain⟨i,j,rfl,rfl,q⟩:=h
 obtain⟨t,rfl⟩:=rx
 obtain⟨t',rfl⟩:=ry
 exact rule i j t t' s _ _ ⟨.bl (g i j),H,I,rfl,q⟩
def jSr (i j:Int):Prop:=0≤j∧j≤1000000∧i.natAbs<2^64
theorem jNE:OpR X (binaryOp .Add) (rI0 fun i j=>.int (i+j)):=jSK fun _ _ _ _ _ _ _ q=>add_int q
theorem jQy:OpR X (binaryOp .Sub) (rI0 fun i j=>.int (i-j)):=jSK fun _ _ _ _ _ _ _ q=>sub_int q
theorem jOT:OpR X (binaryOp .Mod) (rI (fun _ j=>j≠0) fun i j=>.int (i.fmod j)):=opI fun _ _ _ _ _ _ _ hc q=>mod_int' hc q
theorem jQZ:OpR X (binaryOp .Pow) (rI jSr fun i j=>.int (i^j.toNat)):=opI fun _ _ _ _ _ _ _ hc q=>pow_int_small hc.1 hc.2.1 hc.2.2 q
theorem unI {f:Value→Sem Value}{g:Int→Int}
 (rule:∀(i:Int)(t:Tok)(s:Shared)(Q:Value→Shared→Prop)(E:Value→Shared→Prop),Q (.int (g i) s.toks) { s with toks:=s.toks+1 }→wpAny (model X.prog X.w) X.A (f (.int i t)) Q E s) :
 UnR X f (rU fun i=>.int (g i)):=by
 intro pins s σ H x v Q I rx h
 obtain⟨i,rfl,q⟩:=h
 obtain⟨t,rfl⟩:=rx
 exact rule i t s _ _ ⟨.int (g i),H,I.tok _,⟨_,rfl⟩,q⟩
theorem jQL:UnR X (unaryOp .USub) (rU fun i=>.int (-i)):=unI fun _ _ _ _ _ q=>neg_int q
end
def jSD:V→V→Bool
 |.non,.non=>true|.non,.int _=>true|.int _,.non=>true|.non,.bl _=>true|.bl _,.non=>true|.non,.str _=>true|.str _,.non=>true
 |.int _,.int _=>true|.bl _,.bl _=>true|.str _,.str _=>true|.byt _,.byt _=>true
 |.int _,.str _=>true|.str _,.int _=>true|.bl _,.str _=>true|.str _,.bl _=>true
 |_,_=>false
def rEq:R2:=fun x y H Q=>jSD x y=true∧Q (.bl (decide (x=y))) H
def rNe:R2:=fun x y H Q=>jSD x y=true∧Q (.bl (!decide (x=y))) H
theorem jL8 {i j:Int}:decide (V.int i=V.int j)=(i==j):=by
 rw[Bool.eq_iff_iff]
 simp
theorem jNn {i j:Bool}:decide (V.bl i=V.bl j)=(i==j):=by
 rw[Bool.eq_iff_iff]
 simp
theorem jKV {i j:Str}:decide (V.str i=V.str j)=(i==j):=by
 rw[Bool.eq_iff_iff]
 simp
theorem jLF {i j:Array UInt8}:decide (V.byt i=V.byt j)=(i.toList==j.toList):=by
 rw[Bool.eq_iff_iff]
 cases i
 cases j
 simp
section
variable {X:Cx}{a b c:Expr}{ta tb tc:TE}{pos:Pos}
theorem jAS {pins:List (Addr×Obj)}{σ:St}{H:Hp}{s:Shared}{Q:VK}{k k':Bool}(I:Inv X pins σ H s) (q:Q (.bl k) H) (e:k=k'):EP X pins σ Q (.bool k') s:=by
 subst e
 exact⟨.bl k,H,I,rfl,q⟩
theorem jSg:OpR X (compareOp .Eq) rEq:=by
 intro pins s σ H x y v u Q I rx ry h
 obtain⟨hs,q⟩:=h
 cases x with
 |non =>
  cases rx
  cases y with
  |non=>cases ry;exact PySem.EqNone.eq_none_none (jAS I q (by simp))
  |bl j=>cases ry;exact PySem.EqNone.eq_none_bool (jAS I q (by simp))
  |int j=>obtain⟨t',rfl⟩:=ry;exact PySem.EqNone.eq_none_int (jAS I q (by simp))
  |str j=>obtain⟨t',rfl⟩:=ry;exact PySem.EqNone.eq_none_str (jAS I q (by simp))
  |_=>exact absurd (show false=true from hs) Bool.false_ne_true
 |bl i =>
  cases rx
  cases y with
  |non=>cases ry;exact PySem.EqNone.eq_bool_none (jAS I q (by simp))
  |bl j=>cases ry;exact eq_bool (jAS I q jNn)
  |str j=>obtain⟨t',rfl⟩:=ry;exact PySem.EqMixed.eq_bool_str (jAS I q (by simp))
  |_=>exact absurd (show false=true from hs) Bool.false_ne_true
 |int i =>
  obtain⟨t,rfl⟩:=rx
  cases y with
  |non=>cases ry;exact PySem.EqNone.eq_int_none (jAS I q (by simp))
  |int j=>obtain⟨t',rfl⟩:=ry;exact eq_int (jAS I q jL8)
  |str j=>obtain⟨t',rfl⟩:=ry;exact PySem.EqMixed.eq_int_str (jAS I q (by simp))
  |_=>exact absurd (show false=true from hs) Bool.false_ne_true
 |str i =>
  obtain⟨t,rfl⟩:=rx
  cases y with
  |non=>cases ry;exact PySem.EqNone.eq_str_none (jAS I q (by simp))
  |bl j=>cases ry;exact PySem.EqMixed.eq_str_bool (jAS I q (by simp))
  |int j=>obtain⟨t',rfl⟩:=ry;exact PySem.EqMixed.eq_str_int (jAS I q (by simp))
  |str j=>obtain⟨t',rfl⟩:=ry;exact eq_str (jAS I q jKV)
  |_=>exact absurd (show false=true from hs) Bool.false_ne_true
 |byt i =>
  obtain⟨t,rfl⟩:=rx
  cases y with
  |byt j=>obtain⟨t',rfl⟩:=ry;exact PySem.W.eq_bytes (jAS I q jLF)
  |_=>exact absurd (show false=true from hs) Bool.false_ne_true
 |_=>cases y<;>exact absurd (show false=true from hs) Bool.false_ne_true
theorem jRH:OpR X (compareOp .NotEq) rNe:=by
 intro pins s σ H x y v u Q I rx ry h
 obtain⟨hs,q⟩:=h
 cases x with
 |non =>
  cases rx
  cases y with
  |non=>cases ry;exact PySem.EqNone.ne_none_none (jAS I q (by simp))
  |bl j=>cases ry;exact PySem.EqNone.ne_none_bool (jAS I q (by simp))
  |int j=>obtain⟨t',rfl⟩:=ry;exact PySem.EqNone.ne_none_int (jAS I q (by simp))
  |str j=>obtain⟨t',rfl⟩:=ry;exact PySem.EqNone.ne_none_str (jAS I q (by simp))
  |_=>exact absurd (show false=true from hs) Bool.false_ne_true
 |bl i =>
  cases rx
  cases y with
  |non=>cases ry;exact PySem.EqNone.ne_bool_none (jAS I q (by simp))
  |bl j=>cases ry;exact ne_bool (jAS I q (congrArg not jNn))
  |str j=>obtain⟨t',rfl⟩:=ry;exact PySem.EqMixed.ne_bool_str (jAS I q (by simp))
  |_=>exact absurd (show false=true from hs) Bool.false_ne_true
 |int i =>
  obtain⟨t,rfl⟩:=rx
  cases y with
  |non=>cases ry;exact PySem.EqNone.ne_int_none (jAS I q (by simp))
  |int j=>obtain⟨t',rfl⟩:=ry;exact ne_int (jAS I q (congrArg not jL8))
  |str j=>obtain⟨t',rfl⟩:=ry;exact PySem.EqMixed.ne_int_str (jAS I q (by simp))
  |_=>exact absurd (show false=true from hs) Bool.false_ne_true
 |str i =>
  obtain⟨t,rfl⟩:=rx
  cases y with
  |non=>cases ry;exact PySem.EqNone.ne_str_none (jAS I q (by simp))
  |bl j=>cases ry;exact PySem.EqMixed.ne_str_bool (jAS I q (by simp))
  |int j=>obtain⟨t',rfl⟩:=ry;exact PySem.EqMixed.ne_str_int (jAS I q (by simp))
  |str j=>obtain⟨t',rfl⟩:=ry;exact ne_str (jAS I q (congrArg not jKV))
  |_=>exact absurd (show false=true from hs) Bool.false_ne_true
 |byt i =>
  obtain⟨t,rfl⟩:=rx
  cases y with
  |byt j=>obtain⟨t',rfl⟩:=ry;exact PySem.W.ne_bytes (jAS I q (congrArg not jLF))
  |_=>exact absurd (show false=true from hs) Bool.false_ne_true
 |_=>cases y<;>exact absurd (show false=true from hs) Bool.false_ne_true
theorem jSc:OpR X (compareOp .Lt) (rI0 fun i j=>.bl (decide (i<j))):=jSx fun _ _ _ _ _ _ _ q=>lt_int q
theorem jSh:OpR X (compareOp .Gt) (rI0 fun i j=>.bl (decide (j<i))):=jSx fun _ _ _ _ _ _ _ q=>gt_int q
theorem jQ5:OpR X (compareOp .Is) (fun x y H Q=>y=.non∧Q (.bl (decide (x=.non))) H):=by
 intro pins s σ H x y v u Q I rx ry h
 obtain⟨rfl,q⟩:=h
 cases ry
 refine is_none_gen (jAS I q ?_)
 cases x<;>first
  |(cases rx;rfl)
  |(obtain⟨t,rfl⟩:=rx;rfl)
theorem jOg:OpR X (compareOp .IsNot) (fun x y H Q=>y=.non∧Q (.bl (!decide (x=.non))) H):=by
 intro pins s σ H x y v u Q I rx ry h
 obtain⟨rfl,q⟩:=h
 cases ry
 refine isnot_none_gen (jAS I q ?_)
 cases x<;>first
  |(cases rx;rfl)
  |(obtain⟨t,rfl⟩:=rx;rfl)
theorem OpR.or {f:Value→Value→Sem Value}{r r':R2}(h:OpR X f r) (h':OpR X f r'):OpR X f (fun x y H Q=>r x y H Q∨r' x y H Q):=by
 intro pins s σ H x y v u Q I rx ry q
 rcases q with q|q
 ·exact h pins s σ H x y v u Q I rx ry q
 ·exact h' pins s σ H x y v u Q I rx ry q
theorem jG3 (b:Expr){op:CmpOp}(h:op≠.In:=by decide) (h2:op≠.NotIn:=by decide):behindInMarks op b=false:=by
 have e1:(op==CmpOp.In)=false:=by cases op<;>first|rfl|exact absurd rfl h
 have e2:(op==CmpOp.NotIn)=false:=by cases op<;>first|rfl|exact absurd rfl h2
 cases b<;>simp[behindInMarks,e1,e2]
theorem jOr {op:CmpOp}{r:R2}(ho:OpR X (compareOp op) r) (ha:PE X a ta) (hb:PE X b tb) (hm:behindInMarks op b=false):PE X (.Compare a [op] [b] pos) (tOp r ta tb):=by
 intro pins s σ H Q I h
 exact wpAny_Compare1 (jSi ha hb I h fun v u s2 x y H2 I2 rx ry q=>ho pins s2 σ H2 x y v u Q I2 rx ry q) hm
def jR4 (t:TE):TT:=fun σ H Q=>t σ H fun x H'=>∃k,x=.bl k∧Q k H'
theorem jOc {op:CmpOp}{r:R2}(ho:OpR X (compareOp op) r) (ha:PE X a ta) (hb:PE X b tb) (hm:behindInMarks op b=false):PT X (.Compare a [op] [b] pos) (jR4 (tOp r ta tb)):=by
 intro pins s σ H Q I h
 refine wpAny_isTrue_Compare1 (thn (ha pins s σ H _ I h) fun v s1 ⟨x,H1,I1,r1,q1⟩=>thn (hb pins s1 σ H1 _ I1 q1) fun u s2 ⟨y,H2,I2,r2,q2⟩ =>
  thn (ho pins s2 σ H2 x y v u _ I2 r1 r2 q2) fun c s3 ⟨z,H3,I3,r3,k,e,q3⟩=>?_) hm
 subst e
 cases r3
 exact wpAny_truthy_bool ⟨H3,I3,q3⟩
def jSt (K:PySem.W.Frag)(x:V)(H:Hp)(k:Bool):Prop :=
 match x with
 |.non=>k=false
 |.bl b=>k=b
 |.int i=>k=(i != 0)
 |.str y=>y.length≤sizeLine∧k=((y.length:Int) != 0)
 |.byt y=>y.size≤sizeLine∧k=((y.size:Int) != 0)
 |.ref p=>(∃xs,SqL K H p xs∧k=!xs.isEmpty)∨(∃xs,SqT K H p xs∧k=!xs.isEmpty)∨∃kvs,H p=some (.dK kvs)∧k=!kvs.isEmpty
 |_=>False
theorem jKn {κ:Type}{kvs:List (κ×V)}{vs:List (κ×Value)}(r:KV kvs vs):(!vs.isEmpty)=!kvs.isEmpty:=by
 cases r<;>rfl
theorem jGN {xs:List V}{its:List Value}(r:jBJ xs its):(!its.toArray.isEmpty)=!xs.isEmpty:=by
 cases r<;>simp
theorem jJj:(sizeLine:Nat)<2^63:=by rw[sizeLine_eq];decide
theorem jQp:jTr X (fun x H Q=>∃k,jSt X.K x H k∧Q k H):=by
 intro pins s σ H x v Q I rx h
 obtain⟨k,e,q⟩:=h
 have hl:=jJj
 have hs:sizeLine=16777216:=sizeLine_eq
 cases x with
 |non =>
  cases rx
  have e':k=false:=e
  subst e'
  exact truthy_none ⟨H,I,q⟩
 |bl b =>
  cases rx
  have e':k=b:=e
  subst e'
  exact wpAny_truthy_bool ⟨H,I,q⟩
 |int i =>
  obtain⟨t,rfl⟩:=rx
  have e':k=(i != 0):=e
  subst e'
  exact PySem.P.truthy_int ⟨H,I,q⟩
 |str y =>
  obtain⟨t,rfl⟩:=rx
  obtain⟨hy,e'⟩:y.length≤sizeLine∧k=((y.length:Int) != 0):=e
  subst e'
  exact PySem.P.truthy_str (by omega) ⟨H,I.tok _,q⟩
 |byt y =>
  obtain⟨t,rfl⟩:=rx
  obtain⟨hy,e'⟩:y.size≤sizeLine∧k=((y.size:Int) != 0):=e
  subst e'
  exact PySem.W.truthy_bytes (by omega) ⟨H,I.tok _,q⟩
 |ref p =>
  cases rx
  have e':(∃xs,SqL X.K H p xs∧k=!xs.isEmpty)∨(∃xs,SqT X.K H p xs∧k=!xs.isEmpty)∨∃kvs,H p=some (.dK kvs)∧k=!kvs.isEmpty:=e
  rcases e' with⟨xs,hx,e'⟩|⟨xs,hx,e'⟩|⟨kvs,hx,e'⟩
  ·subst e'
   obtain⟨its,r,pl,hz⟩:=I.list hx
   have hlen:=r.length
   exact wpAny_truthy_list pl.isList (by simp only[List.size_toArray];omega) ⟨H,I.tok _,by rw[jGN r];exact q⟩
  ·subst e'
   obtain⟨its,r,pl,hz⟩:=I.tuple hx
   have hlen:=r.length
   exact truthy_tuple pl (by simp only[List.size_toArray];omega) ⟨H,I.tok _,by rw[jGN r];exact q⟩
  ·subst e'
   obtain⟨hz,hS,vs,r,m⟩:kvs.length≤sizeLine∧(p==sysModules)=false∧∃vs,KV kvs vs∧s.heap.DictOf (jIX X.prog X.w) p vs:=I.hok p _ hx
   have hlen:kvs.length=vs.length:=Paired.length r
   exact wpAny_truthy_dict hS m (by omega) ⟨H,I.tok _,by rw[jKn r];exact q⟩
 |_=>exact(show False from e).elim
theorem jMy (ha:PE X a ta)(he:∀whole,isTrue a X.env whole=(do let v ←whole;standAt a.pos;holding [v] (truthy v))) :
 PT X a (fun σ H Q=>ta σ H fun x H'=>∃k,jSt X.K x H' k∧Q k H'):=by
 intro pins s σ H Q I h
 exact isTrue_plain (thn (ha pins s σ H _ I h) fun v s1 ⟨x,H1,I1,r1,q1⟩=>jQp pins s1 σ H1 x v Q I1 r1 q1) (he _)
theorem jNm {x:V}{us:List Value}(r:jBJ [x] us):∃u,us=[u]∧jBM x u:=by
 cases r with
 |cons r1 r2=>cases r2;exact⟨_,rfl,r1⟩
theorem jM7 {x y:V}{us:List Value}(r:jBJ [x,y] us):∃u w',us=[u,w']∧jBM x u∧jBM y w':=by
 cases r with
 |cons r1 r2 =>
  cases r2 with
  |cons r3 r4=>cases r4;exact⟨_,_,rfl,r1,r3⟩
theorem jMz:jFa X (.builtin "abs") (fun xs H Q=>∃i,xs=[.int i]∧Q (.int (if i<0 then -i else i)) H):=by
 intro pins s σ H xs us Q I r h
 obtain⟨i,rfl,q⟩:=h
 obtain⟨u,rfl,t,rfl⟩:=jNm r
 exact call_abs_int fun u tk=>⟨.int (if i<0 then -i else i),H,I.tok _,⟨_,rfl⟩,q⟩
theorem jKE (hc:X.calm=true):jFa X (.builtin "max") (fun xs H Q=>∃i j,xs=[.int i,.int j]∧Q (.int (if j>i then j else i)) H):=by
 intro pins s σ H xs us Q I r h
 obtain⟨i,j,rfl,q⟩:=h
 obtain⟨u,w',rfl,⟨t,rfl⟩,⟨t',rfl⟩⟩:=jM7 r
 refine max_two_ints (I.ok.hd hc) fun h' tk k=>⟨_,H,I.kept k,?_,q⟩
 by_cases hj:j>i
 ·rw[if_pos hj,if_pos hj];exact⟨_,rfl⟩
 ·rw[if_neg hj,if_neg hj];exact⟨_,rfl⟩
theorem jLG (hc:X.calm=true):jFa X (.builtin "min") (fun xs H Q=>∃i j,xs=[.int i,.int j]∧Q (.int (if j<i then j else i)) H):=by
 intro pins s σ H xs us Q I r h
 obtain⟨i,j,rfl,q⟩:=h
 obtain⟨u,w',rfl,⟨t,rfl⟩,⟨t',rfl⟩⟩:=jM7 r
 refine min_two_ints (I.ok.hd hc) fun h' tk k=>⟨_,H,I.kept k,?_,q⟩
 by_cases hj:j<i
 ·rw[if_pos hj,if_pos hj];exact⟨_,rfl⟩
 ·rw[if_neg hj,if_neg hj];exact⟨_,rfl⟩
end
end L2
namespace L2
open PySem PySem.Spec PyProof.Rows
structure jR7 (h:Heap)(x dx C:Addr)(mA:Str→Option Value):Prop where
 obj:h.get? x=some (PySem.W.instObj C dx)
 ns:h.Ns1 dx mA
 ne:dx≠x
theorem jKH {h:Heap}{dx:Addr}{mA:Str→Option Value}(n:h.Ns1 dx mA):∃od,h.get? dx=some od∧∀name,PySem.W.lookIn name od=some (mA name):=by
 obtain⟨o,es,ep,ho,hd,hk,_,hm⟩:=n
 refine⟨o,ho,fun name=>?_⟩
 have e:=hm name
 unfold nsFind findBy at e
 rw[←Array.find?_toList] at e
 unfold PySem.W.lookIn
 rw[hd]
 dsimp only
 split
 ·rename_i y q
  rw[q] at e
  exact congrArg some e
 ·rename_i q
  rw[q] at e
  have a:es.toList.any (·.refKey)=false:=by
   rw[List.any_eq_false]
   intro y hy
   obtain⟨z,t,hkey⟩:=hk y (Array.mem_toList_iff.mp hy)
   simp[DictEntry.refKey,hkey]
  have a':¬es.toList.any (·.refKey)=true:=by rw[a];exact Bool.false_ne_true
  rw[if_neg a']
  exact congrArg some e
theorem jR7.look {h:Heap}{x dx C:Addr}{mA:Str→Option Value}(I:jR7 h x dx C mA):∃od,PySem.W.InstAt h x (PySem.W.instObj C dx) C (some od)∧∀name,PySem.W.lookIn name od=some (mA name) :=
 let ⟨od,ho,hl⟩:=jKH I.ns
 ⟨od,⟨I.obj,rfl,rfl,ho⟩,hl⟩
section
variable {prog:Program}{w:World}{A:Around}{E:Value→Shared→Prop}{s:Shared}{K:PySem.W.Frag}{x dx C f:Addr}{mA:Str→Option Value}{name:Str}{v:Value}
end
section
variable {P:Program}{w:World}{H H':Hp}{h h':Heap}{a C dx:Addr}{fs fs':List (Str×V)}
theorem jPi (hok:HOk P w H h)(e:H a=some (.ins C dx fs)):∃mA,jR7 h a dx C mA∧(∀f,jRA (fs.lookup f) (mA f))∧PySem.Within mA (fs.map (·.1))∧fs.length≤1000∧H dx=some (.own a):=by
 obtain⟨d,z,ne,ob,mA,n,r,q⟩:=(show jCo P w H h a (.ins C dx fs) from hok a _ e)
 exact⟨mA,⟨ob,n,ne⟩,r,q,z,d⟩
end
structure Cls (K:PySem.W.Frag)(C:Addr):Prop where
 pg:PySem.W.plainGet K C Str.empty=true
 hd:PySem.W.hasDictIn K C=true
 po:PySem.W.plainOver K C=true
 sa:PySem.W.findIn K (.ref C) "__setattr__"=some (some (.builtin "object.__setattr__"))
theorem Cls.get {K:PySem.W.Frag}{C:Addr}(c:Cls K C) (f:Str):PySem.W.plainGet K C f=true:=c.pg
section
variable {X:Cx}{pins:List (Addr×Obj)}{σ:St}{H:Hp}{s:Shared}{a C dx:Addr}{fs:List (Str×V)}{f:Str}{v:V}{A:Around}{E:Value→Shared→Prop}
end
section
variable {X:Cx}{o e value:Expr}{f:Str}{pos pos' tpos:Pos}{ta tv:TE}
end
section
variable {X:Cx}{pins:List (Addr×Obj)}{σ:St}{H:Hp}{s:Shared}{A:Around}{E:Value→Shared→Prop}{Q:Value→Shared→Prop}{c:Value}{b:Bool}
inductive jKt (K:PySem.W.Frag)(H:Hp):V→Value→Prop where
 |non:jKt K H .non (.type "NoneType")
 |bl (x:Bool):jKt K H (.bl x) (.type "bool")
 |int (i:Int):jKt K H (.int i) (.type "int")
 |str (x:Str):jKt K H (.str x) (.type "str")
 |flt (x:UInt64):jKt K H (.flt x) (.type "float")
 |lst {a:Addr}{xs:List V}(e:H a=some (.lst xs)):jKt K H (.ref a) (.type "list")
 |frz {a:Addr}{o:Obj}{xs:List V}(e:H a=some (.frz o (.lst xs))):jKt K H (.ref a) (.type "list")
 |tup {a:Addr}{xs:List V}(e:H a=some (.tup xs)):jKt K H (.ref a) (.type "tuple")
 |dK {a:Addr}{kvs:List (Key×V)}(e:H a=some (.dK kvs)):jKt K H (.ref a) (.type "dict")
 |dT {a:Addr}{kvs:List (List Key×V)}(e:H a=some (.dT kvs)):jKt K H (.ref a) (.type "dict")
 |ins {a C dx:Addr}{fs:List (Str×V)}(e:H a=some (.ins C dx fs)) (cl:Cls K C) (ha:PySem.W.findIn K (.ref C) "__class__"=some (some (.builtin "object.__class__")))
  (hn:PySem.W.specialIn K (.builtin "object.__class__") "__get__"=some (some (.builtin "getset_descriptor.__get__"))) (htk:PySem.W.takesIn K (.builtin "object.__class__")=some true)
  (hm:PySem.W.mroIn K C (.type "object")=some true):jKt K H (.ref a) (.ref C)
theorem jE2 {x:V}{u t:Value}(I:Inv X pins σ H s) (rx:jBM x u) (ty:jKt X.K H x t) (e:PySem.W.kitOne X.K t c=some b) (h:∀tk,Q (.bool b) { s with toks:=tk }) :
 wpAny (model X.prog X.w) A (call (.builtin "isinstance") [u,c]) Q E s:=by
 cases ty with
 |non=>cases (show u=Value.none from rx);exact PySem.W.kia_one PySem.W.kitx_none I.kIn True.intro e (fun z=>nomatch z) h
 |bl y=>cases (show u=Value.bool y from rx);exact PySem.W.kia_one PySem.W.kitx_bool I.kIn True.intro e (fun z=>nomatch z) h
 |int i=>obtain⟨t,q⟩:=(show ∃t,u=Value.int i t from rx);cases q;exact PySem.W.kia_one PySem.W.kitx_int I.kIn True.intro e (fun z=>nomatch z) h
 |str y=>obtain⟨t,q⟩:=(show ∃t,u=Value.str y t from rx);cases q;exact PySem.W.kia_one PySem.W.kitx_str I.kIn True.intro e (fun z=>nomatch z) h
 |flt y=>obtain⟨t,q⟩:=(show ∃t,u=Value.float y t from rx);cases q;exact PySem.W.kia_one PySem.W.kitx_float I.kIn True.intro e (fun z=>nomatch z) h
 |@lst a xs ea =>
  cases (show u=Value.ref a from rx)
  obtain⟨_,_,n,_,h1⟩:=(show jCo X.prog X.w H s.heap a (.lst xs) from I.hok a _ ea)
  exact PySem.W.kia_one PySem.W.kitx_list I.kIn ⟨_,h1,rfl⟩ e (fun z=>nomatch z) h
 |@frz a ob xs ea =>
  cases (show u=Value.ref a from rx)
  obtain⟨_,_,_,n,_,h1⟩:=(show jCo X.prog X.w H s.heap a (.frz ob (.lst xs)) from I.hok a _ ea)
  exact PySem.W.kia_one PySem.W.kitx_list I.kIn ⟨_,h1,rfl⟩ e (fun z=>nomatch z) h
 |@tup a xs ea =>
  cases (show u=Value.ref a from rx)
  obtain⟨_,_,_,p⟩:=(show jCo X.prog X.w H s.heap a (.tup xs) from I.hok a _ ea)
  obtain⟨o,h1,h2,_⟩:=p
  exact PySem.W.kia_one PySem.W.kitx_tuple I.kIn ⟨o,h1,h2⟩ e (fun z=>nomatch z) h
 |@dK a kvs ea =>
  cases (show u=Value.ref a from rx)
  obtain⟨_,_,vs,_,p⟩:=(show jCo X.prog X.w H s.heap a (.dK kvs) from I.hok a _ ea)
  obtain⟨o,es,ep,h1,h2,_⟩:=p
  exact PySem.W.kia_one PySem.W.kitx_dict I.kIn ⟨o,h1,h2.1⟩ e (fun z=>nomatch z) h
 |@dT a kvs ea =>
  cases (show u=Value.ref a from rx)
  obtain⟨_,_,xs,_,o,es,ep,h1,h2,_⟩:=(show jCo X.prog X.w H s.heap a (.dT kvs) from I.hok a _ ea)
  exact PySem.W.kia_one PySem.W.kitx_dict I.kIn ⟨o,h1,h2.1⟩ e (fun z=>nomatch z) h
 |@ins a C dx fs ea cl ha hn htk hm =>
  cases (show u=Value.ref a from rx)
  obtain⟨mA,O,_⟩:=jPi I.hok ea
  obtain⟨od,J,_⟩:=O.look
  exact PySem.W.kia_one (PySem.W.kitx_own (cl.get _) cl.hd ha hn htk hm) I.kIn J e (fun z=>nomatch z) h
end
end L2
namespace L2
open PySem PySem.Spec PyProof.Rows
structure jDO (k:Nat)(A:Around):Prop where
 hd:A.handled=none
 dp:A.depth+3*k+5<recursionLimit
 un:A.units+16*k+200<cLine
theorem jDO.mono {j k:Nat}{A:Around}(r:jDO k A) (h:j≤k):jDO j A:=⟨r.hd,by have:=r.dp;omega,by have:=r.un;omega⟩
theorem jDO.deeper {k:Nat}{A:Around}(r:jDO (k+1) A) (env:Env):jDO k (A.deeper env) :=
 ⟨r.hd,by have:=r.dp;show A.depth+1+3*k+5<_;omega,by have:=r.un;show A.units+3+16*k+200<_;omega⟩
theorem jDO.depth {k:Nat}{A:Around}(r:jDO k A):A.depth<recursionLimit:=by have:=r.dp;omega
def jSF:TA:=fun _ H Q=>Q [] H
def jPN (ta:TE)(tr:TA):TA:=fun σ H Q=>ta σ H fun x H1=>tr σ H1 fun xs H2=>Q (x::xs) H2
section
variable {X:Cx}{e:Expr}{es:List Expr}{te:TE}{t:TA}{pos:Pos}
theorem jB9:PA X [] jSF:=fun _ _ _ _ H Q I h=>Calls.spliced_nil ⟨[],H,I,.nil,h⟩
theorem jA2 (ha:PE X e te)(hr:PA X es t)(hs:starEach (e::es) X.env=(false,eval e X.env)::starEach es X.env:=by rfl):PA X (e::es) (jPN te t):=by
 intro pos pins s σ H Q I h
 rw[hs]
 show wpAny _ _ (spliced ((false,eval e X.env)::backTo pos (starEach es X.env))) _ _ s
 refine Calls.spliced_cons (thn (ha pins s σ H _ I h) fun u s1 hh=>?_)
 obtain⟨x,H1,I1,r1,q1⟩:=hh
 exact thn (hr pos pins s1 σ H1 _ I1 q1) fun us s2 ⟨xs,H2,I2,r2,q2⟩=>⟨x::xs,H2,I2,.cons r1 r2,q2⟩
def jTy (t:TA):TE:=fun σ H Q=>t σ H fun xs H1=>xs.length≤sizeLine∧∀p,H1 p=none→Q (.ref p) (upd H1 p (.tup xs))
theorem jQj {x1}(h:PA X es t):PE X (.Tuple es x1 pos) (jTy t):=by
 intro pins s σ H Q I hq
 refine wpAny_Tuple_spliced (thn (h pos pins s σ H _ I hq) fun us s1 ⟨xs,H1,I1,r,z,q⟩=>⟨by rw[←r.length];exact z,?_⟩)
 have hf:H1 s1.heap.objs.size=none:=I1.hok.fresh (Nat.le_refl _)
 refine⟨.ref s1.heap.objs.size,upd H1 s1.heap.objs.size (.tup xs),I1.laid (t':=s1.toks) (fun b u e=>Heap.get?_push_of_some _ e) (Nat.le_refl _) ?_,rfl,q _ hf⟩
 exact⟨z,us,r,⟨_,Heap.get?_push_size _ rfl,rfl,_,rfl⟩⟩
end
abbrev Sp:=List V→Hp→VK→XK→Prop
abbrev CXT:=List Env→Hp→Shared→XK→Value→Shared→Prop
structure jPd (P:Program)(w:World)(K:PySem.W.Frag)(mg:Str→Option Value)(base:Heap)(A:Around)(outer:List Env)(s:Shared)(H:Hp):Prop where
 frames:A.frames=some outer
 mod:Mod K mg base
 bs:∀b o,base.get? b=some o→s.heap.get? b=some o∧H b=none
 bsz:base.objs.size≤s.heap.objs.size
 funs:s.heap.FunFrames base outer
 frf:∀b∈frs outer,H b=none
 hok:HOk P w H s.heap
 bare:AllBare s.gens
 tb:TB P K mg base H
def CE (outer:List Env)(P:Program)(w:World)(H:Hp)(s:Shared)(Q:VK)(u:Value)(s':Shared):Prop :=
 ∃v H',s'.os=s.os∧AllBare s'.gens∧Un (frs outer) [] H H' s.heap s'.heap∧HOk P w H' s'.heap∧jBM v u∧Q v H'
def CR (CX:CXT)(outer:List Env)(P:Program)(w:World)(H:Hp)(s:Shared)(Q:VK)(E:XK)(r:Result)(s':Shared):Prop :=
 match r with
 |.ok (.ret u)=>CE outer P w H s Q u s'
 |.ok _=>False
 |.error e=>CX outer H s E e s'
structure jAz (P:Program)(w:World)(K:PySem.W.Frag)(mg:Str→Option Value)(base:Heap)(CX:CXT)(k:Nat)(f:Addr)(fd:FuncData)(ps:List Str)(sp:Sp):Prop where
 len:∀vs H Q E,sp vs H Q E→vs.length=ps.length
 run:∀(A:Around)(outer:List Env)(s:Shared)(H:Hp)(args:Args)(us:List Value)(vs:List V)(Q:VK)(E:XK),jDO k A→jPd P w K mg base A outer s H→BindsTo s fd args (ps.zip us)→jBJ vs us→sp vs H Q E →
  codeAny (model P w) A (.call (.ref f) args) (CR CX outer P w H s Q E) s
section
variable {X:Cx}{pins:List (Addr×Obj)}{σ:St}{H:Hp}{s s':Shared}
theorem Inv.env0 (I:Inv X pins σ H s):jPd X.prog X.w X.K X.mg X.base X.A X.stack s H :=
 ⟨I.ok.frames,I.ok.mod,I.bs,Nat.le_trans I.ok.bsz I.sz,I.stack,I.stkFree,I.hok,I.bare,I.tb⟩
theorem Inv.after {Q:VK}{u:Value}(I:Inv X pins σ H s) (h:CE X.stack X.prog X.w H s Q u s'):EP X pins σ Q u s':=by
 obtain⟨v,H',os,bare,un,hok,r,q⟩:=h
 obtain⟨hh,g,d,t,os'⟩:=s'
 obtain rfl:os'=s.os:=os
 exact⟨v,H',I.call (h':=hh) (g':=g) (d':=d) (t':=t) (ch:=[]) un hok bare (fun b z=>absurd z (by simp)),r,q⟩
end
def jRP (sp:Sp)(dvs:List V)(E:XK)(t:TA):TE:=fun σ H Q=>t σ H fun vs H1=>sp (vs++dvs) H1 Q E
def Binds (K:PySem.W.Frag)(fd:FuncData)(ps:List Str)(ds:List Value):Prop :=
 ∀(s:Shared)(us:List Value),K.In s.heap→(us++ds).length=ps.length→BindsTo s fd ⟨us,[]⟩ (ps.zip (us++ds))
theorem Binds.all {K:PySem.W.Frag}{fd:FuncData}{ps:List Str}(h:∀us:List Value,us.length=ps.length→bindArgs fd ⟨us,[]⟩=pure (ps.zip us)):Binds K fd ps []:=fun s us _ hl=>by
 rw[List.append_nil] at hl ⊢
 exact .of_eq (h us hl)
def jKF (CX:CXT)(X:Cx)(E:XK):Prop:=∀(pins:List (Addr×Obj))(σ:St)(H:Hp)(s:Shared)(e:Value)(s':Shared),Inv X pins σ H s→CX X.stack H s E e s'→X.xe e s'
section
variable {X:Cx}{CX:CXT}{k:Nat}{f C:Addr}{fd:FuncData}{ps:List Str}{sp:Sp}{dvs:List V}{ds:List Value}{E:XK}{x m:Str}{p pos apos:Pos}{e o:Expr}{es:List Expr}{ta:TE}{t:TA}
theorem jP8 {pins:List (Addr×Obj)}{σ:St}{H:Hp}{s:Shared}{Q:VK}{us:List Value}{vs:List V}(F:jAz X.prog X.w X.K X.mg X.base CX k f fd ps sp) (hr:jDO k X.A) (hb:Binds X.K fd ps ds) (hd:jBJ dvs ds) (hx:jKF CX X E)
 (I:Inv X pins σ H s) (r:jBJ vs us) (h:sp (vs++dvs) H Q E):wpAny (model X.prog X.w) X.A (call (.ref f) us) (EP X pins σ Q) X.xe s:=by
 have r2:jBJ (vs++dvs) (us++ds):=r.append hd
 have hl:(us++ds).length=ps.length:=by rw[←r2.length];exact F.len _ _ _ _ h
 refine wpAny_call (codeAny_mono (F.run X.A X.stack s H ⟨us,[]⟩ (us++ds) (vs++dvs) Q E hr I.env0 (hb s us I.kIn hl) r2 h) fun r s' hq=>?_)
 cases r with
 |error e=>exact hx pins σ H s e s' I hq
 |ok fl =>
  cases fl with
  |ret u=>exact I.after hq
  |next=>exact False.elim hq
  |brk=>exact False.elim hq
  |cont=>exact False.elim hq
theorem jKZ (F:jAz X.prog X.w X.K X.mg X.base CX k f fd ps sp)(hr:jDO k X.A)(hg:Gl X x)(hm:X.mg x=some (.ref f))(hk:PySem.W.keepIn X.K (.ref f)=true)(hb:Binds X.K fd ps ds)(hd:jBJ dvs ds)(hx:jKF CX X E)
 (ha:PA X (e::es) t)(hdb:(x==("__debug__":Str))=false:=by decide)(he:starEach (e::es) X.env=(false,eval e X.env)::starEach es X.env:=by rfl)(hpl:(backTo pos (starEach es X.env)).any (·.1)=false:=by rfl) :
 PE X (.Call (.Name x p) (e::es) [] pos) (jRP sp dvs E t):=by
 intro pins s σ H Q I h
 refine wpAny_Call_Name_kw (jE6 I hg hm ?_ hdb)
 refine PySem.W.callWith_K (h₀:=X.base) I.ok.mod.kin hk (thn (ha pos pins s σ H _ I h) fun us s1 ⟨vs,H1,I1,r,q⟩=>⟨I1.kIn,?_⟩) he hpl
 exact jP8 F hr hb hd hx I1 r q
end
section
variable {X:Cx}{CX:CXT}{k:Nat}{f C:Addr}{fd:FuncData}{ps ks:List Str}{sp:Sp}{E:XK}{x m:Str}{p pos apos kpos:Pos}{e o:Expr}{es:List Expr}{kws:List Keyword}{te ta:TE}{t tk:TA}{nm:Option Str}
variable {g:List Value→List Value→List Value}{gV:List V→List V→List V}
end
structure jAe (N P:List Str)(sc:Scope):Prop where
 kind:sc.kind=.function
 co:sc.isCoroutine=false
 gen:sc.isGenerator=false
 nd:N.Nodup
 pre:N.take P.length=P
 par:∀x∈P,sc.names.lookup x=some .local∨sc.names.lookup x=some .cell
 nofree:∀y∈sc.names,y.2≠.free
theorem jHV {kindOf:Str→Option NameKind}{x:Str}:∀{binds:List (Str×Value)}{m:Str→Option Value},(∀v,(x,v)∉binds)→bindL kindOf binds m x=m x
 |[],_,_=>rfl
 |(n,v)::r,m,h=>by
  unfold bindL
  rw[jHV fun w hw=>h w (List.mem_cons_of_mem _ hw)]
  split
  ·have:x≠n:=by rintro rfl;exact h v List.mem_cons_self
   simp[this]
  ·rfl
theorem jH4 {kindOf:Str→Option NameKind}{x:Str}:∀{binds:List (Str×Value)}{m:Str→Option Value},(∀v,(x,v)∉binds)→bindC kindOf binds m x=m x
 |[],_,_=>rfl
 |(n,v)::r,m,h=>by
  unfold bindC
  rw[jH4 fun w hw=>h w (List.mem_cons_of_mem _ hw)]
  split
  ·rfl
  ·have:x≠n:=by rintro rfl;exact h v List.mem_cons_self
   simp[this]
theorem jH7 {kindOf:Str→Option NameKind}{x:Str}{v:Value}:∀{P:List Str}{vs:List Value}{i:Nat}{m:Str→Option Value},P.Nodup→P[i]? = some x→vs[i]? = some v→kindOf x=some .local →
 bindL kindOf (P.zip vs) m x=some v
 |[],_,_,_,_,h,_,_=>by simp at h
 |_::_,[],_,_,_,_,h,_=>by simp at h
 |p::P,w::vs,0,m,nd,h1,h2,hk=>by
  simp at h1 h2;subst h1;subst h2
  show bindL kindOf ((p,w)::P.zip vs) m p=_
  unfold bindL
  rw[jHV fun v hv=>(List.nodup_cons.mp nd).1 (List.of_mem_zip hv).1,if_pos hk]
  simp
 |p::P,w::vs,i+1,m,nd,h1,h2,hk=>by
  show bindL kindOf ((p,w)::P.zip vs) m x=_
  unfold bindL
  exact jH7 (i:=i) (List.nodup_cons.mp nd).2 (by simpa using h1) (by simpa using h2) hk
theorem jHN {kindOf:Str→Option NameKind}{x:Str}{v:Value}:∀{P:List Str}{vs:List Value}{i:Nat}{m:Str→Option Value},P.Nodup→P[i]? = some x→vs[i]? = some v→kindOf x≠some .local →
 bindC kindOf (P.zip vs) m x=some v
 |[],_,_,_,_,h,_,_=>by simp at h
 |_::_,[],_,_,_,_,h,_=>by simp at h
 |p::P,w::vs,0,m,nd,h1,h2,hk=>by
  simp at h1 h2;subst h1;subst h2
  show bindC kindOf ((p,w)::P.zip vs) m p=_
  unfold bindC
  rw[jH4 fun v hv=>(List.nodup_cons.mp nd).1 (List.of_mem_zip hv).1,if_neg hk]
  simp
 |p::P,w::vs,i+1,m,nd,h1,h2,hk=>by
  show bindC kindOf ((p,w)::P.zip vs) m x=_
  unfold bindC
  exact jHN (i:=i) (List.nodup_cons.mp nd).2 (by simpa using h1) (by simpa using h2) hk
def start (N:List Str)(vs:List V):St:=vs.map some++List.replicate (N.length-vs.length) none
def jH8 (CX:CXT)(P:Program)(w:World)(K:PySem.W.Frag)(mg:Str→Option Value)(base:Heap)(N:List Str)(qual:Str)(scope:Scope)(f:Addr)(cd:Value)(A:Around)(outer:List Env)(s:Shared)(H:Hp)(E:XK):Cx where
 prog:=P
 w:=w
 K:=K
 mg:=mg
 base:=base
 A:=A.deeper (envOfC qual scope s.heap.objs.size f cd)
 N:=N
 s₀:=s
 H₀:=H
 env:=envOfC qual scope s.heap.objs.size f cd
 outer:=outer
 stack:=envOfC qual scope s.heap.objs.size f cd::outer
 ex:=[]
 calm:=true
 fn:=fun _=>true
 pn:=[]
 xe:=fun e s'=>wpAny (model P w) (A.deeper (envOfC qual scope s.heap.objs.size f cd)) (leaving (envOfC qual scope s.heap.objs.size f cd) e) (fun _ s''=>CX outer H s E e s'') (fun e' s''=>CX outer H s E e' s'') s'
theorem jJD {sc:Scope}{n:Nat}{x:Str}(h:sc.names.lookup x=some .cell):∃c,(cellsFrom n sc.names []).lookup x=some c:=by
 have q:=PySem.W.cellsFrom_some sc.names n [] (.inl h)
 exact Option.isSome_iff_exists.mp q
theorem jIq {CX:CXT}{P:Program}{w:World}{K:PySem.W.Frag}{mg:Str→Option Value}{base:Heap}{N ps:List Str}{qual:Str}{scope:Scope}{f:Addr}{cd:Value}{A:Around}{outer:List Env}{s s1:Shared}{H:Hp}{E:XK}{us:List Value}{vs:List V}
 (S:jAe N ps scope) (hd:A.handled=none) (e0:jPd P w K mg base A outer s H) (hl:vs.length=ps.length) (r:jBJ vs us)
 (x:InCallC s s.heap.objs.size (bindL (envOfC qual scope s.heap.objs.size f cd).kindOf (ps.zip us) fun _=>none) (cellsFrom (s.heap.objs.size+1) scope.names []) (bindC (envOfC qual scope s.heap.objs.size f cd).kindOf (ps.zip us) fun _=>none) s1) :
 Inv (jH8 CX P w K mg base N qual scope f cd A outer s H E) [] (start N vs) H s1:=by
 have hpl:ps.length≤N.length:=by have:=congrArg List.length S.pre;rw[List.length_take] at this;omega
 obtain⟨h1,tk,rfl,hk⟩:=x.done
 have noA:∀b:Addr,b∉(jH8 CX P w K mg base N qual scope f cd A outer s H E).ex:=fun b z=>absurd (show b∈([]:List Addr) from z) (by simp)
 refine⟨⟨e0.mod,S.kind,rfl,rfl,Nat.le_refl _,fun y z c h1 h2=>?_,fun y hy=>?_,fun y c _ h=>?_,fun _=>hd,Around.frames_deeper e0.frames,.inr ⟨rfl,rfl⟩,fun b z=>absurd z (noA b),e0.bs,e0.bsz,fun b _ _=>noA b,fun b z=>absurd z (noA b),e0.funs,e0.frf,e0.tb⟩,
  rfl,e0.bare,Un.kept hk,⟨_,x.toInCall.ns,fun i y v h1 h2 h3=>?_⟩,fun y c h=>⟨_,x.cell y c h⟩,e0.hok.fresh (Nat.le_refl _),fun y c h=>?_,fun p hp=>absurd (show p∈([]:List (Addr×Obj)) from hp) (by simp),e0.hok.kept hk,?_⟩
 ·exact name_of_addr x.apart (PySem.mem_of_lookup h1) (PySem.mem_of_lookup h2)
 ·have hy:scope.names.lookup y=some .cell∨scope.names.lookup y=some .free:=hy
  rcases hy with hy|hy
  ·exact jJD hy
  ·exact absurd rfl (S.nofree _ (PySem.mem_of_lookup hy))
 ·exact Nat.le_of_lt (x.above y c (PySem.mem_of_lookup h))
 ·have hi:i<vs.length:=by
   unfold start at h2
   by_cases hi:i<vs.length
   ·exact hi
   ·rw[List.getElem?_append_right (by simpa using hi)] at h2
    rw[List.getElem?_replicate] at h2
    split at h2<;>cases h2
  have ha:vs[i]? = some v:=by
   unfold start at h2
   rw[List.getElem?_append_left (by simpa using hi),List.getElem?_map] at h2
   cases e:vs[i]? with
   |none=>rw[e] at h2;cases h2
   |some a=>rw[e] at h2;cases h2;rfl
  obtain⟨u,hu,rv⟩:=r.get ha
  have hp:ps[i]? = some y:=by
   rw[←S.pre,List.getElem?_take_of_lt (by omega)];exact h1
  have ndP:ps.Nodup:=by rw[←S.pre];exact S.nd.sublist (List.take_sublist _ _)
  refine⟨u,rv,?_⟩
  rcases S.par y (List.mem_of_getElem? hp) with k|k
  ·exact .inl ⟨k,jH7 ndP hp hu k⟩
  ·obtain⟨c,e⟩:=jJD (n:=s.heap.objs.size+1) k
   refine .inr ⟨.inl k,c,e,?_⟩
   have q:=x.cell y c e
   rw[jHN ndP hp hu (by show scope.names.lookup y≠_;rw[k];decide)] at q
   exact q
 ·exact e0.hok.fresh (Nat.le_of_lt (x.above y c (PySem.mem_of_lookup h)))
 ·unfold start
  show _=N.length
  rw[List.length_append,List.length_map,List.length_replicate]
  omega
theorem jM0 {CX:CXT}{P:Program}{w:World}{K:PySem.W.Frag}{mg:Str→Option Value}{base:Heap}{k:Nat}{f:Addr}{name qual:Str}{params:Arguments}{body:List Stmt}{scope:Scope}{dV kV doc pm cdv ct oc:Value}{an od:Option Addr}
 {osl:Array (Option Value)}{N ps:List Str}{sp:Sp}(lk:K.lookup f=some ⟨oc,od,.func (PySem.W.fnOf name qual params body scope dV kV doc pm an cdv ct),osl⟩) (hcd:PySem.W.codeIn K cdv qual=true) (S:jAe N ps scope)
 (len:∀vs H Q E,sp vs H Q E→vs.length=ps.length)
 (hbody:∀(A:Around)(outer:List Env)(s:Shared)(H:Hp)(vs:List V)(Q:VK)(E:XK),jDO k (A.deeper (envOfC qual scope s.heap.objs.size f cdv))→sp vs H Q E →
  ∃t,PSs (jH8 CX P w K mg base N qual scope f cdv A outer s H E) body t∧t { nx:=fun _ H'=>Q .non H',rt:=Q } (start N vs) H) :
 jAz P w K mg base CX (k+1) f (PySem.W.fnOf name qual params body scope dV kV doc pm an cdv ct) ps sp:=by
 refine⟨len,fun A outer s H args us vs Q E hr e0 hb r hsp=>?_⟩
 have hl:=len _ _ _ _ hsp
 have KX:K.In s.heap:=e0.mod.kin.keeps fun b o e=>(e0.bs b o e).1
 have lim:s.heap.NoLimit:=e0.mod.nolimit.keeps fun b o e=>(e0.bs b o e).1
 have hkind:∀y∈ps.zip us,scope.names.lookup y.1=some .local∨(scope.names.lookup y.1=some .cell∧((cellsFrom (s.heap.objs.size+1) scope.names []).lookup y.1).isSome=true):=fun⟨n,v⟩ hy=>by
  rcases S.par n (List.of_mem_zip hy).1 with q|q
  ·exact .inl q
  ·exact .inr ⟨q,PySem.W.cellsFrom_some _ _ _ (.inl q)⟩
 refine codeAny_call_function hr.depth (KX _ _ lk) rfl S.co S.gen rfl (PySem.W.codeRec_of KX hcd) (hb _ _ _ _ ?_)
 refine wpAny_newFunctionEnv_cells S.kind hkind fun env he s1 x=>?_
 subst he
 refine⟨lim.keeps x.toInCall.keep,codeAny_func ?_⟩
 obtain⟨t,ht,hq⟩:=hbody A outer s H vs Q E (hr.deeper _) hsp
 have I:Inv (jH8 CX P w K mg base N qual scope f cdv A outer s H E) [] (start N vs) H s1:=jIq S hr.hd e0 hl r x
 refine wpAny_mono (ht [] s1 (start N vs) H _ I hq) (fun fl s' hs=>?_) fun e s' hs=>hs
 have fin:∀{σ':St}{H':Hp}{v:V}{u:Value},Inv (jH8 CX P w K mg base N qual scope f cdv A outer s H E) [] σ' H' s'→jBM v u→Q v H'→CE outer P w H s Q u s' :=
  fun {σ' H' v u} J rv q=>⟨v,H',J.os,J.bare,J.base,J.hok,rv,q⟩
 cases fl with
 |ret u =>
  obtain⟨v,σ',H',J,rv,q⟩:=hs
  exact fin J rv q
 |next =>
  obtain⟨σ',H',J,q⟩:=hs
  exact fin (v:=V.non) (u:=Value.none) J rfl q
 |brk =>
  obtain⟨_,_,_,q⟩:=hs
  exact False.elim q
 |cont =>
  obtain⟨_,_,_,q⟩:=hs
  exact False.elim q
end L2
namespace L2
open PySem PySem.Spec PyProof.Rows
section
variable {X:Cx}{x:Str}{p pos:Pos}{e:Expr}{es:List Expr}{t:TA}{id T:String}{r:List V→Hp→VK→Prop}
def tCB (r:List V→Hp→VK→Prop)(t:TA):TE:=fun σ H Q=>t σ H fun vs H1=>r vs H1 Q
theorem jHc (hc:jFa X (.builtin id) r)(hg:Gl X x)(hm:X.mg x=none)(hv:bootBuiltins x=some (.builtin id))(ha:PA X (e::es) t)(hn:x≠"__name__":=by decide)(hdb:(x==("__debug__":Str))=false:=by decide)
 (he:starEach (e::es) X.env=(false,eval e X.env)::starEach es X.env:=by rfl)(hpl:(backTo pos (starEach es X.env)).any (·.1)=false:=by rfl):PE X (.Call (.Name x p) (e::es) [] pos) (tCB r t):=by
 intro pins s σ H Q I h
 refine wpAny_Call_Name_kw (jFw I hg hm hv ?_ hn hdb)
 exact PyProof.Rows.callWith_builtin1 (thn (ha pos pins s σ H _ I h) fun us s1 ⟨vs,H1,I1,r1,q1⟩=>hc pins s1 σ H1 vs us Q I1 r1 q1) he hpl
theorem jIl (hc:jFa X (.type T) r)(hg:Gl X x)(hm:X.mg x=none)(hv:bootBuiltins x=some (.type T))(ha:PA X (e::es) t)(hn:x≠"__name__":=by decide)(hdb:(x==("__debug__":Str))=false:=by decide)
 (he:starEach (e::es) X.env=(false,eval e X.env)::starEach es X.env:=by rfl)(hpl:(backTo pos (starEach es X.env)).any (·.1)=false:=by rfl):PE X (.Call (.Name x p) (e::es) [] pos) (tCB r t):=by
 intro pins s σ H Q I h
 refine wpAny_Call_Name_kw (jFw I hg hm hv ?_ hn hdb)
 exact PyProof.Rows.callWith_type1 (thn (ha pos pins s σ H _ I h) fun us s1 ⟨vs,H1,I1,r1,q1⟩=>hc pins s1 σ H1 vs us Q I1 r1 q1) he hpl
end
end L2
namespace HT
open PySem PyProof.Rows
section
open PySem.SeqAt
open PySem.AutoSeq1 (wpAny_loadPart')
open PySem.MeetsSeq PySem.MeetsSeq2 PySem.MeetsSeq3
end
section
variable {prog:Program}{w:World}{A:Around}{E:Value→Shared→Prop}{s:Shared}
theorem cat_tup {t b:Addr}{vs ws:List Value}{Q:Value→Shared→Prop}(ht:IsTup s.heap t vs.toArray) (hb:IsTup s.heap b ws.toArray) (hv:vs≠[])
 (h1:ws=[]→Q (.ref t) s) (h2:ws≠[]→Q (.ref s.heap.objs.size) { s with heap:=s.heap.push { cls:=.type "tuple",data:=.seq (vs++ws).toArray } })
 (hsz:vs.length+ws.length≤sizeLine):wpAny (model prog w) A (binaryOp .Add (.ref t) (.ref b)) Q E s:=by
 obtain⟨⟨cls,dd,data,sl⟩,ho,hc,n,hd⟩:=id ht
 obtain⟨⟨cls2,dd2,data2,sl2⟩,ho2,hc2,n2,hd2⟩:=id hb
 simp only at hc hd hc2 hd2
 subst hc hd hc2 hd2
 have e:vs.toArray++ws.toArray=(vs++ws).toArray:=by simp
 by_cases hw:ws=[]
 ·exact concat_meets ⟨_,ho,rfl⟩ ⟨_,ho2,rfl⟩ noFill_tuple_add seq_tuple_add PySem.F.slot_tuple_add PySem.F.entry_tuple_add (PySem.F.args_tuple_add_2 _ _)
   (tuple_addW1 t b vs.toArray ws.toArray n n2 dd dd2 sl sl2 (by simpa using hv) (by simp[hw])) ⟨ho,ho2,h1 hw⟩
 ·refine concat_meets ⟨_,ho,rfl⟩ ⟨_,ho2,rfl⟩ noFill_tuple_add seq_tuple_add PySem.F.slot_tuple_add PySem.F.entry_tuple_add (PySem.F.args_tuple_add_2 _ _)
   (tuple_addW2 t b vs.toArray ws.toArray n n2 dd dd2 sl sl2 (by simpa using hv) (by simpa using hw) (by rw[List.size_toArray,List.size_toArray];exact hsz)) ⟨ho,ho2,?_⟩
  rw[e]
  exact h2 hw
def sIx (n d:Nat):Option Int→Nat
 |none=>d
 |some v=>if v<0 then (v+(n:Int)).toNat else min v.toNat n
theorem sIx_nat (n d k:Nat):sIx n d (some (k:Int))=min k n:=by
 show(if (k:Int)<0 then ((k:Int)+(n:Int)).toNat else min (k:Int).toNat n)=min k n
 rw[if_neg (by omega),Int.toNat_natCast]
theorem jPT (n d:Nat)(hd:d≤n)(o:Option Int):sIx n d o≤n:=by
 cases o with
 |none=>exact hd
 |some v =>
  show(if v<0 then (v+(n:Int)).toNat else min v.toNat n)≤n
  by_cases hv:v<0
  ·rw[if_pos hv];omega
  ·rw[if_neg hv];exact Nat.min_le_right _ _
theorem jKz (v:Int)(n d:Nat):(if v<0 then max (v+(n:Int)) 0 else min v (n:Int))=((sIx n d (some v):Nat):Int):=by
 show(if v<0 then max (v+(n:Int)) 0 else min v (n:Int))=(((if v<0 then (v+(n:Int)).toNat else min v.toNat n):Nat):Int)
 by_cases hv:v<0
 ·simp only[if_pos hv];omega
 ·simp only[if_neg hv];omega
theorem jKa (lo hi:Option Int)(n:Nat):Builtin.Slice.sliceAdjust lo hi 1 (n:Int)=(((sIx n 0 lo:Nat):Int),((sIx n n hi:Nat):Int)):=by
 have h1:¬((1:Int)<0):=by omega
 unfold Builtin.Slice.sliceAdjust
 simp only[h1,if_false]
 refine Prod.ext ?_ ?_
 ·cases lo with
  |none=>rfl
  |some v=>exact jKz v n 0
 ·cases hi with
  |none=>rfl
  |some v=>exact jKz v n n
theorem jKp (i j:Nat):Builtin.Slice.slicePlaces (i:Int) (j:Int) 1=j-i:=by
 unfold Builtin.Slice.slicePlaces
 have h1:(1:Int)>0:=by omega
 simp only[h1,if_true,Int.ediv_one]
 split<;>omega
theorem jG1 {v:Value}{o:Option Int}{Q:Option Int→Shared→Prop}(p:IsPart v o) (h:Q o s):wpAny (model prog w) A (Builtin.Slice.slicePartIndex v) Q E s:=by
 cases p with
 |none=>exact slicePart_none h
 |int i t=>exact slicePart_int h
theorem jFD {sl:Addr}{vl vu:Value}{lo hi:Option Int}{n:Nat}{Q:Int×Int×Nat→Shared→Prop}(hs:s.heap.IsSliceOf sl vl vu .none) (pl:IsPart vl lo) (pu:IsPart vu hi)
 (h:Q (((sIx n 0 lo:Nat):Int),1,sIx n n hi-sIx n 0 lo) s):wpAny (model prog w) A (Builtin.Slice.sliceApplied (.ref sl) (pure (n:Int))) Q E s:=by
 obtain⟨os,hos,hcs,hds⟩:=id hs
 unfold Builtin.Slice.sliceApplied Builtin.Slice.sliceFields
 refine wpAny_bind (wpAny_bind (wpAny_field hos hds (x:=vl) rfl (wpAny_bind (wpAny_field hos hds (x:=vu) rfl (wpAny_bind (wpAny_field hos hds (x:=.none) rfl (wpAny_pure ?_)))))))
 refine wpAny_bind (slicePart_none ?_)
 show wpAny _ _ (if ((1:Int)==0)=true then _ else _) _ _ s
 rw[if_neg (by decide)]
 refine wpAny_bind (jG1 pl (wpAny_bind (jG1 pu (wpAny_bind (wpAny_pure ?_)))))
 show wpAny _ _ (match Builtin.Slice.sliceAdjust lo hi 1 (n:Int) with|(lo,hi)=>pure (lo,(1:Int),Builtin.Slice.slicePlaces lo hi 1)) _ _ s
 rw[jKa lo hi n]
 show wpAny _ _ (pure (((sIx n 0 lo:Nat):Int),(1:Int),Builtin.Slice.slicePlaces ((sIx n 0 lo:Nat):Int) ((sIx n n hi:Nat):Int) 1)) _ _ s
 rw[jKp]
 exact wpAny_pure h
theorem jM3 (xs:Array Value)(i k:Nat):((List.range k).filterMap fun(m:Nat)=>xs[((i:Int)+(m:Int)*1).toNat]?).toArray=((xs.toList.drop i).take k).toArray:=by
 have e:(fun(m:Nat)=>xs[((i:Int)+(m:Int)*1).toNat]?)=fun m=>xs[i+m]? := by
  funext m
  have:((i:Int)+(m:Int)*1).toNat=i+m:=by omega
  rw[this]
 rw[e]
 have:=pick_run xs i k
 rw[List.filterMap_map] at this
 have e2:((fun x=>xs[x]?) ∘ fun x=>i+x)=fun m=>xs[i+m]? := rfl
 rw[e2] at this
 rw[this]
theorem getItem_tuple_cut {t sl:Addr}{items:Array Value}{vl vu:Value}{lo hi:Option Int}{Q:Value→Shared→Prop}(ht:IsTup s.heap t items) (hs:s.heap.IsSliceOf sl vl vu .none) (pl:IsPart vl lo) (pu:IsPart vu hi)
 (hw:¬(sIx items.size 0 lo=0∧sIx items.size items.size hi=items.size))
 (h:Q (.ref s.heap.objs.size) { s with heap:=s.heap.push { cls:=.type "tuple",data:=.seq ((items.toList.drop (sIx items.size 0 lo)).take (sIx items.size items.size hi-sIx items.size 0 lo)).toArray } })
 (hsz:items.size≤sizeLine):wpAny (model prog w) A (getItem (.ref t) (.ref sl)) Q E s:=by
 have htake:sizeOk (.seq ((items.toList.drop (sIx items.size 0 lo)).take (sIx items.size items.size hi-sIx items.size 0 lo)).toArray):=by
  show((items.toList.drop (sIx items.size 0 lo)).take (sIx items.size items.size hi-sIx items.size 0 lo)).toArray.size≤sizeLine
  rw[List.size_toArray,List.length_take,List.length_drop,Array.length_toList]
  omega
 have hj:sIx items.size items.size hi≤items.size:=jPT _ _ (Nat.le_refl _) hi
 obtain⟨os,hos,hcs,hds⟩:=id hs
 have hTs:s.TypeIs (.ref sl) "slice":=⟨os,hos,hcs⟩
 unfold getItem
 try with_reducible refine wpAny_holding ?_
 first|refine wpAny_bind (wpAny_pure ?_)|skip
 refine wpAny_bind (wpAny_sequenceKey ht.typeIs (by decide) ?_)
 refine wpAny_bind (wpAny_callSpecial?_slot (name:=Str.ofString "__getitem__") ht.typeIs PyProof.Rows.slot_tuple_getitem
  (wpAny_call_entry PyProof.Rows.slot_tuple_getitem ht.typeIs entry_tuple_getitem ?_ (args_tuple_getitem _ _)))
 show wpAny _ _ (Builtin.Tuple.tupleItemsOf (.ref t) >>= _) _ _ s
 refine wpAny_bind (tupleItemsOf_ ht ?_)
 refine wpAny_bind (wpAny_typeOf hTs ?_)
 rw[if_pos (by decide)]
 refine wpAny_bind (jFD hs pl pu ?_)
 have hno:¬((((sIx items.size 0 lo:Nat):Int)==0&&(1:Int)==1&&(sIx items.size items.size hi-sIx items.size 0 lo)==items.size)=true):=by
  intro q
  rw[Bool.and_eq_true,Bool.and_eq_true] at q
  have q1:((sIx items.size 0 lo:Nat):Int)=0:=eq_of_beq q.1.1
  have q2:sIx items.size items.size hi-sIx items.size 0 lo=items.size:=eq_of_beq q.2
  exact hw ⟨by omega,by omega⟩
 show wpAny _ _ (if (((sIx items.size 0 lo:Nat):Int)==0&&(1:Int)==1&&(sIx items.size items.size hi-sIx items.size 0 lo)==items.size)=true then _ else _) _ _ s
 rw[if_neg hno,jM3]
 first
  |exact wpAny_bind (m:=Builtin.Tuple.tupleExact _) (wpAny_newObj_type (wpAny_pure ⟨_,rfl,wpAny_pure h⟩) htake)
  |exact wpAny_bind (m:=Builtin.Tuple.tupleExact _) (wpAny_newObj_type (wpAny_bind (wpAny_pure (wpAny_pure ⟨_,rfl,wpAny_pure h⟩))) htake)
  |exact wpAny_bind (wpAny_bind (m:=Builtin.Tuple.tupleExact _) (wpAny_newObj_type (wpAny_pure (wpAny_pure ⟨_,rfl,wpAny_pure h⟩)) htake))
  |exact wpAny_bind (wpAny_bind (m:=Builtin.Tuple.tupleExact _) (wpAny_newObj_type (wpAny_pure ⟨_,rfl,wpAny_pure h⟩) htake))
end
end HT
namespace L2
open PySem PySem.Spec PyProof.Rows
abbrev TO:=St→Hp→(Option Int→Hp→Prop)→Prop
def PO (X:Cx)(e:Option Expr)(t:TO):Prop :=
 ∀(pins:List (Addr×Obj))(s:Shared)(σ:St)(H:Hp)(Q:Option Int→Hp→Prop),Inv X pins σ H s→t σ H Q →
  wpAny (model X.prog X.w) X.A (evalPart e X.env) (fun u s'=>∃o H',Inv X pins σ H' s'∧IsPart u o∧Q o H') X.xe s
def jOA:TO:=fun _ H Q=>Q none H
def jRQ (t:TE):TO:=fun σ H Q=>t σ H fun x H1=>∃i,x=.int i∧Q (some i) H1
section
variable {X:Cx}{e:Expr}{te:TE}{lo hi:Option Expr}{tl th:TO}{pos p2:Pos}
theorem jOJ:PO X none jOA:=by
 intro pins s σ H Q I h
 rw[evalPart_none]
 exact wpAny_pure ⟨none,H,I,.none,h⟩
theorem jOi (h:PE X e te):PO X (some e) (jRQ te):=by
 intro pins s σ H Q I hw
 rw[evalPart_some]
 refine thn (h pins s σ H _ I hw) fun u s1 hh=>?_
 obtain⟨x,H1,I1,r1,q1⟩:=hh
 obtain⟨i,rfl,q⟩:=q1
 obtain⟨t,rfl⟩:=r1
 exact⟨some i,H1,I1,.int i t,q⟩
def SlR (X:Cx)(r:V→Option Int→Option Int→Hp→VK→Prop):Prop :=
 ∀(pins:List (Addr×Obj))(s:Shared)(σ:St)(H:Hp)(x:V)(v vl vu:Value)(lo hi:Option Int)(sl:Addr)(Q:VK),Inv X pins σ H s→jBM x v→s.heap.IsSliceOf sl vl vu .none→IsPart vl lo→IsPart vu hi→r x lo hi H Q →
  ∃T id,typeLookup (.type T) "__getitem__"=pure (some (.builtin id))∧s.TypeIs v T∧wpAny (model X.prog X.w) X.A (getItem v (.ref sl)) (EP X pins σ Q) X.xe s
theorem SlR.or {r r':V→Option Int→Option Int→Hp→VK→Prop}(h:SlR X r) (h':SlR X r'):SlR X (fun x lo hi H Q=>r x lo hi H Q∨r' x lo hi H Q):=by
 intro pins s σ H x v vl vu lo hi sl Q I rx hs pl pu q
 rcases q with q|q
 ·exact h pins s σ H x v vl vu lo hi sl Q I rx hs pl pu q
 ·exact h' pins s σ H x v vl vu lo hi sl Q I rx hs pl pu q
def tSl (r:V→Option Int→Option Int→Hp→VK→Prop)(te:TE)(tl th:TO):TE:=fun σ H Q=>te σ H fun x H1=>tl σ H1 fun l H2=>th σ H2 fun u H3=>r x l u H3 Q
theorem jMD {r:V→Option Int→Option Int→Hp→VK→Prop}(hr:SlR X r) (he:PE X e te) (hl:PO X lo tl) (hu:PO X hi th):PE X (.Subscript e (.Slice lo hi none p2) pos) (tSl r te tl th):=by
 intro pins s σ H Q I h
 refine Subscript_ (thn (he pins s σ H _ I h) fun v s1 hh=>?_)
 obtain⟨x,H1,I1,r1,q1⟩:=hh
 refine wpAny_Slice (thn (hl pins s1 σ H1 _ I1 q1) fun vl s2 ⟨l,H2,I2,pl,q2⟩=>thn (hu pins s2 σ H2 _ I2 q2) fun vu s3 hh=>?_)
 obtain⟨u,H3,I3,pu,q3⟩:=hh
 rw[evalPart_none]
 refine wpAny_pure ?_
 have I4:Inv X pins σ H3 { s3 with heap:=s3.heap.push { cls:=.type "slice",data:=.fields #[vl,vu,.none] } }:=I3.kept (t':=s3.toks) fun b ob q=>Heap.get?_push_of_some _ q
 obtain⟨T,id,hT,ht,hg⟩:=hr pins { s3 with heap:=s3.heap.push { cls:=.type "slice",data:=.fields #[vl,vu,.none] } } σ H3 x v vl vu l u s3.heap.objs.size Q I4 r1 (Heap.IsSliceOf.new ..) pl pu q3
 show wpAny (model X.prog X.w) X.A (subscriptTail e (.Slice lo hi none p2) v (.ref s3.heap.objs.size)) (EP X pins σ Q) X.xe { s3 with heap:=s3.heap.push { cls:=.type "slice",data:=.fields #[vl,vu,.none] } }
 exact tail_any (ops:=[.ref s3.heap.objs.size,v]) ht hT hg (by with_unfolding_all rfl)
def jKu (xs:List V)(lo hi:Option Int):List V:=(xs.drop (HT.sIx xs.length 0 lo)).take (HT.sIx xs.length xs.length hi-HT.sIx xs.length 0 lo)
theorem jF4 (xs:List V)(lo hi:Option Int):(jKu xs lo hi).length≤xs.length:=by
 unfold jKu
 rw[List.length_take,List.length_drop]
 omega
def jS5 (K:PySem.W.Frag):V→Option Int→Option Int→Hp→VK→Prop:=fun x lo hi H Q=>∃a xs,x=.ref a∧SqT K H a xs ∧
 ¬(HT.sIx xs.length 0 lo=0∧HT.sIx xs.length xs.length hi=xs.length)∧∀p,H p=none→Q (.ref p) (upd H p (.tup (jKu xs lo hi)))
theorem jQY:SlR X (jS5 X.K):=by
 intro pins s σ H x v vl vu lo hi sl Q I rx hs pl pu h
 obtain⟨a,xs,rfl,hx,hw,q⟩:=h
 cases rx
 obtain⟨its,r,ht,hz⟩:=I.tuple hx
 have hlen:its.toArray.size=xs.length:=by rw[List.size_toArray];exact r.length.symm
 refine⟨"tuple",_,PyProof.Rows.slot_tuple_getitem.lookup,ht.typeIs,?_⟩
 refine HT.getItem_tuple_cut ht hs pl pu (by rw[hlen];exact hw) ?_ (by rw[hlen];exact hz)
 rw[hlen]
 refine⟨.ref s.heap.objs.size,_,I.laid (t':=s.toks) (o:=.tup (jKu xs lo hi)) (fun b ob q=>Heap.get?_push_of_some _ q) (Nat.le_refl _) ?_,rfl,q _ (I.hok.fresh (Nat.le_refl _))⟩
 exact⟨Nat.le_trans (jF4 xs lo hi) hz,_,(r.drop (HT.sIx xs.length 0 lo)).take (HT.sIx xs.length xs.length hi-HT.sIx xs.length 0 lo),IsTup.new _ _⟩
def jRY (K:PySem.W.Frag):R2:=fun x y H Q=>∃a b xs ys,x=.ref a∧y=.ref b∧SqT K H a xs∧SqT K H b ys∧xs≠[]∧xs.length+ys.length≤sizeLine ∧
 (ys=[]→Q (.ref a) H)∧(ys≠[]→∀p,H p=none→Q (.ref p) (upd H p (.tup (xs++ys))))
theorem jBJ.nil_iff {xs:List V}{us:List Value}(r:jBJ xs us):us=[] ↔ xs=[]:=by
 cases r with
 |nil=>simp
 |cons _ _=>simp
theorem jOG:OpR X (binaryOp .Add) (jRY X.K):=by
 intro pins s σ H x y v u Q I rx ry h
 obtain⟨a,b,xs,ys,rfl,rfl,ha,hb,hx,hz,q1,q2⟩:=h
 cases rx
 cases ry
 obtain⟨its,r1,p1,_⟩:=I.tuple ha
 obtain⟨its2,r2,p2,_⟩:=I.tuple hb
 refine HT.cat_tup p1 p2 (fun z=>hx (r1.nil_iff.mp z)) (fun z=>⟨.ref a,H,I,rfl,q1 (r2.nil_iff.mp z)⟩) (fun z=>?_) (by rw[←r1.length,←r2.length];exact hz)
 refine⟨.ref s.heap.objs.size,_,I.laid (t':=s.toks) (o:=.tup (xs++ys)) (fun b ob q=>Heap.get?_push_of_some _ q) (Nat.le_refl _) ?_,rfl,q2 (fun w=>z (r2.nil_iff.mpr w)) _ (I.hok.fresh (Nat.le_refl _))⟩
 exact⟨by rw[List.length_append];exact hz,_,r1.append r2,IsTup.new _ _⟩
end
end L2
namespace L2
open PySem PySem.Spec PyProof.Rows
def ixN (n:Nat)(i:Int):Option Nat:=if 0≤i then (if i<n then some i.toNat else none) else if -(n:Int)≤i then some (i+n).toNat else none
def atI {α:Type}(xs:List α) (i:Int):Option α:=(ixN xs.length i).bind fun j=>xs[j]?
theorem jPa {n:Nat}{i:Int}{j:Nat}(h:ixN n i=some j):seqIndex? i n=some j∧j<n∧-(n:Int)≤i∧i<n:=by
 unfold ixN at h
 by_cases h0:0≤i
 ·rw[if_pos h0] at h
  by_cases h1:i<n
  ·rw[if_pos h1] at h
   have e:i.toNat=j:=Option.some.inj h
   exact⟨by rw[seqIndex_of h0 h1,e],by omega,by omega,h1⟩
  ·rw[if_neg h1] at h;cases h
 ·rw[if_neg h0] at h
  by_cases h1:-(n:Int)≤i
  ·rw[if_pos h1] at h
   have e:(i+n).toNat=j:=Option.some.inj h
   exact⟨by rw[seqIndex_neg (by omega) h1,e],by omega,h1,by omega⟩
  ·rw[if_neg h1] at h;cases h
theorem jLy {α:Type}{xs:List α}{i:Int}{v:α}(h:atI xs i=some v):∃j,seqIndex? i xs.length=some j∧xs[j]? = some v∧j<xs.length∧-(xs.length:Int)≤i∧i<xs.length:=by
 unfold atI at h
 cases e:ixN xs.length i with
 |none=>rw[e] at h;cases h
 |some j =>
  rw[e] at h
  obtain⟨h1,h2,h3,h4⟩:=jPa e
  exact⟨j,h1,h,h2,h3,h4⟩
theorem atI_nat {α:Type}{xs:List α}{j:Nat}{v:α}(h:xs[j]? = some v):atI xs (j:Int)=some v:=by
 have hj:j<xs.length:=(List.getElem?_eq_some_iff.mp h).1
 have e:ixN xs.length (j:Int)=some j:=by
  unfold ixN
  rw[if_pos (by omega),if_pos (by omega)];simp
 unfold atI;rw[e];exact h
def jKB (b:Expr):Prop:=∀o i,subscripted b false o i=operate [o,i] (getItem o i)
def IxR (X:Cx)(r:R2):Prop :=
 ∀(value slice:Expr)(pins:List (Addr×Obj))(s:Shared)(σ:St)(H:Hp)(x y:V)(v u:Value)(Q:VK),Inv X pins σ H s→jBM x v→jBM y u→r x y H Q →
  subscripted slice false v u=operate [v,u] (getItem v u)→wpAny (model X.prog X.w) X.A (subscriptTail value slice v u) (EP X pins σ Q) X.xe s
def MtR (X:Cx)(id:String)(r:V→List V→Hp→VK→Prop):Prop :=
 ∀(pins:List (Addr×Obj))(s:Shared)(σ:St)(H:Hp)(x:V)(xs:List V)(v:Value)(us:List Value)(Q:VK),Inv X pins σ H s→jBM x v→jBJ xs us→r x xs H Q →
  wpAny (model X.prog X.w) X.A (call (.builtin id) (v::us)) (EP X pins σ Q) X.xe s
section
variable {X:Cx}{a b:Expr}{ta tb:TE}{pos:Pos}
theorem IxR.or {r r':R2}(h:IxR X r) (h':IxR X r'):IxR X (fun x y H Q=>r x y H Q∨r' x y H Q):=by
 intro value slice pins s σ H x y v u Q I rx ry q hs
 rcases q with q|q
 ·exact h value slice pins s σ H x y v u Q I rx ry q hs
 ·exact h' value slice pins s σ H x y v u Q I rx ry q hs
theorem jSa {r:R2}(hr:IxR X r) (ha:PE X a ta) (hb:PE X b tb) (hs:jKB b):PE X (.Subscript a b pos) (tOp r ta tb):=by
 intro pins s σ H Q I h
 exact Subscript_ (jSi ha hb I h fun v u s2 x y H2 I2 rx ry q=>hr a b pins s2 σ H2 x y v u Q I2 rx ry q (hs _ _))
def jTo (K:PySem.W.Frag):R2:=fun x y H Q=>∃p xs i v,x=.ref p∧y=.int i∧SqL K H p xs∧atI xs i=some v∧Q v H
def jSY (K:PySem.W.Frag):R2:=fun x y H Q=>∃p xs i v,x=.ref p∧y=.int i∧SqT K H p xs∧atI xs i=some v∧Q v H
theorem jPp:IxR X (jTo X.K):=by
 intro value slice pins s σ H x y v u Q I rx ry h hs
 obtain⟨p,xs,i,z,rfl,rfl,hq,he,q⟩:=h
 cases rx
 obtain⟨t,rfl⟩:=ry
 obtain⟨its,r,pl,hz⟩:=I.list hq
 obtain⟨j,h1,h2,h3,h4,h5⟩:=jLy he
 obtain⟨w,ew,rw'⟩:=r.get h2
 have hl:=r.length
 have hn:=jJj
 have fin:EP X pins σ Q w s:=⟨z,H,I,rw',q⟩
 by_cases h0:0≤i
 ·have hj:i.toNat=j:=by
   rw[seqIndex_of h0 h5] at h1
   exact Option.some.inj h1
  exact item_listR pl.isList h0 (by omega) (by rw[hj];simpa using ew) fin hs
 ·have hj:(i+(its.toArray.size:Int)).toNat=j:=by
   rw[seqIndex_neg (by omega) h4] at h1
   rw[List.size_toArray,←hl]
   exact Option.some.inj h1
  exact subscriptTail_builtinR (x:=w) pl.isList.typeIs slot_list_getitem.lookup
   (wpAny_getItem_list_neg (Q:=fun r s'=>r=w∧EP X pins σ Q r s') pl.isList (by omega) (by rw[List.size_toArray]<;>omega) (by omega) (by rw[hj];simpa using ew) ⟨rfl,fin⟩) hs
theorem jQT:IxR X (jSY X.K):=by
 intro value slice pins s σ H x y v u Q I rx ry h hs
 obtain⟨p,xs,i,z,rfl,rfl,hq,he,q⟩:=h
 cases rx
 obtain⟨t,rfl⟩:=ry
 obtain⟨its,r,pl,hz⟩:=I.tuple hq
 obtain⟨j,h1,h2,h3,h4,h5⟩:=jLy he
 obtain⟨w,ew,rw'⟩:=r.get h2
 have hl:=r.length
 have hn:=jJj
 have fin:EP X pins σ Q w s:=⟨z,H,I,rw',q⟩
 exact subscriptTail_builtinR (x:=w) pl.typeIs slot_tuple_getitem.lookup
  (getItem_tuple (j:=j) (Q:=fun r s'=>r=w∧EP X pins σ Q r s') pl (by omega) (by omega) (by rw[List.size_toArray,←hl];exact h1) (by simpa using ew) ⟨rfl,fin⟩) hs
theorem jHO (lo hi:Option Int)(n:Nat):(sliceBounds lo hi none n).1=((HT.sIx n 0 lo:Nat):Int)∧(sliceBounds lo hi none n).2.1=((HT.sIx n n hi:Nat):Int)∧(sliceBounds lo hi none n).2.2=1:=by
 refine⟨?_,?_,rfl⟩
 ·cases lo with
  |none=>simp[sliceBounds,HT.sIx]
  |some i =>
   simp only[sliceBounds,HT.sIx,Option.getD_none,show(1:Int)>0 by decide,if_true]
   by_cases h:i<0
   ·simp only[h,if_true]<;>omega
   ·simp only[h,if_false]<;>omega
 ·cases hi with
  |none=>simp[sliceBounds,HT.sIx]
  |some i =>
   simp only[sliceBounds,HT.sIx,Option.getD_none,show(1:Int)>0 by decide,if_true]
   by_cases h:i<0
   ·simp only[h,if_true]<;>omega
   ·simp only[h,if_false]<;>omega
theorem jHl (its:List Value)(lo hi:Option Int):slicePick its.toArray lo hi none=((its.drop (HT.sIx its.length 0 lo)).take (HT.sIx its.length its.length hi-HT.sIx its.length 0 lo)).toArray:=by
 obtain⟨h1,h2,h3⟩:=jHO lo hi its.toArray.size
 unfold slicePick
 rw[h1,h2,h3]
 simp only[sliceRange_one,pick_run,List.size_toArray]<;>rfl
def jTa (K:PySem.W.Frag):V→Option Int→Option Int→Hp→VK→Prop:=fun x lo hi H Q=>∃a xs,x=.ref a∧SqL K H a xs∧∀p,H p=none→Q (.ref p) (upd H p (.lst (jKu xs lo hi)))
theorem jOt:SlR X (jTa X.K):=by
 intro pins s σ H x v vl vu lo hi sl Q I rx hs pl pu h
 obtain⟨a,xs,rfl,hx,q⟩:=h
 cases rx
 obtain⟨its,r,ht,hz⟩:=I.list hx
 have hlen:=r.length
 refine⟨"list",_,slot_list_getitem.lookup,ht.isList.typeIs,?_⟩
 refine wpAny_getItem_list_slice ht.isList hs pl pu .none (by simp) ?_ (by rw[List.size_toArray]<;>omega)
 rw[jHl,←hlen]
 refine⟨.ref s.heap.objs.size,_,I.laid (t':=s.toks) (o:=.lst (jKu xs lo hi)) (fun b ob q=>Heap.get?_push_of_some _ q) (Nat.le_refl _) ?_,rfl,q _ (I.hok.fresh (Nat.le_refl _))⟩
 exact⟨Nat.le_trans (jF4 xs lo hi) hz,_,0,(r.drop (HT.sIx xs.length 0 lo)).take (HT.sIx xs.length xs.length hi-HT.sIx xs.length 0 lo),Heap.get?_push_size _ rfl⟩
def flatV:V→Bool
 |.non=>true
 |.bl _=>true
 |.int _=>true
 |.str _=>true
 |_=>false
def eqV:V→V→Bool
 |.non,.non=>true
 |.bl a,.bl b=>a==b
 |.bl a,.int b=>(if a then 1 else 0)==b
 |.int a,.bl b=>a==(if b then 1 else 0)
 |.int a,.int b=>a==b
 |.str a,.str b=>a==b
 |_,_=>false
theorem jNF {A:Around}{s:Shared}{y x:V}{u v:Value}(ry:jBM y u) (rx:jBM x v) (fy:flatV y=true) (fx:flatV x=true):SeqAt.EqAt A s u v (eqV y x):=by
 cases y with
 |non =>
  cases ry
  cases x with
  |non=>cases rx;exact SeqAt.EqAt.same _
  |bl b=>cases rx;exact SeqAt.EqAt.none_bool b
  |int b=>obtain⟨t,rfl⟩:=rx;exact SeqAt.EqAt.none_int b t
  |str b=>obtain⟨t,rfl⟩:=rx;exact SeqAt.EqAt.none_str b t
  |_=>exact absurd (show false=true from fx) Bool.false_ne_true
 |bl a =>
  cases ry
  cases x with
  |non=>cases rx;exact SeqAt.EqAt.bool_none a
  |bl b=>cases rx;exact SeqAt.EqAt.bool_bool a b
  |int b=>obtain⟨t,rfl⟩:=rx;exact SeqAt.EqAt.bool_int a b t
  |str b=>obtain⟨t,rfl⟩:=rx;exact SeqAt.EqAt.bool_str a b t
  |_=>exact absurd (show false=true from fx) Bool.false_ne_true
 |int a =>
  obtain⟨t',rfl⟩:=ry
  cases x with
  |non=>cases rx;exact SeqAt.EqAt.int_none a t'
  |bl b=>cases rx;exact SeqAt.EqAt.int_bool a t' b
  |int b=>obtain⟨t,rfl⟩:=rx;exact SeqAt.EqAt.int_int a t' b t
  |str b=>obtain⟨t,rfl⟩:=rx;exact SeqAt.EqAt.int_str a t' b t
  |_=>exact absurd (show false=true from fx) Bool.false_ne_true
 |str a =>
  obtain⟨t',rfl⟩:=ry
  cases x with
  |non=>cases rx;exact SeqAt.EqAt.str_none a t'
  |bl b=>cases rx;exact SeqAt.EqAt.str_bool a t' b
  |int b=>obtain⟨t,rfl⟩:=rx;exact SeqAt.EqAt.str_int a t' b t
  |str b=>obtain⟨t,rfl⟩:=rx;exact SeqAt.EqAt.str_str a t' b t
  |_=>exact absurd (show false=true from fx) Bool.false_ne_true
 |_=>exact absurd (show false=true from fy) Bool.false_ne_true
theorem jIs:jFa X (.builtin "len") (fun xs H Q=>∃p ys,xs=[.ref p]∧(SqL X.K H p ys∨SqT X.K H p ys)∧Q (.int ys.length) H):=by
 intro pins s σ H xs us Q I r h
 obtain⟨p,ys,rfl,hq,q⟩:=h
 obtain⟨u,rfl,rx⟩:=jNm r
 cases rx
 have hn:=jJj
 rcases hq with hq|hq
 ·obtain⟨its,r',pl,hz⟩:=I.list hq
  have hlen:=r'.length
  exact Calls.call_len_list pl.isList (by simp only[List.size_toArray]<;>omega) ⟨.int ys.length,H,I.tok _,⟨s.toks+1,by rw[List.size_toArray,hlen]⟩,q⟩
 ·obtain⟨its,r',pl,hz⟩:=I.tuple hq
  have hlen:=r'.length
  exact len_tuple pl (by simp only[List.size_toArray]<;>omega) ⟨.int ys.length,H,I.tok _,⟨s.toks+1,by rw[List.size_toArray,hlen]⟩,q⟩
theorem jIj:jFa X (.type "list") (fun xs H Q=>∃p ys,xs=[.ref p]∧(SqL X.K H p ys∨SqT X.K H p ys)∧∀l,H l=none→Q (.ref l) (upd H l (.lst ys))):=by
 intro pins s σ H xs us Q I r h
 obtain⟨p,ys,rfl,hq,q⟩:=h
 obtain⟨u,rfl,rx⟩:=jNm r
 cases rx
 have fin:∀(its:List Value),jBJ ys its→ys.length≤sizeLine→∀(h':Heap)(c':Nat),(∀b o',s.heap.get? b=some o'→h'.get? b=some o') →
  h'.get? s.heap.objs.size=some { cls:=.type "list",dict:=none,data:=.seq its.toArray c',slots:=#[] }→EP X pins σ Q (.ref s.heap.objs.size) { s with heap:=h' }:=fun its r' hz h' c' kp e =>
  ⟨.ref s.heap.objs.size,_,I.laid (t':=s.toks) kp (Nat.le_refl _) (show jCo X.prog X.w _ h' _ (.lst ys) from ⟨hz,its,c',r',e⟩),rfl,q _ (I.hok.fresh (Nat.le_refl _))⟩
 rcases hq with hq|hq
 ·obtain⟨its,r',pl,hz⟩:=I.list hq
  have hlen:=r'.length
  obtain⟨o,ho,hc,n,hd⟩:=pl.isList
  exact call_list_seq p (.inl rfl) ho hc hd (fun h' c' kp e=>fin its r' hz h' c' kp e) (by simp only[List.size_toArray]<;>omega)
 ·obtain⟨its,r',pl,hz⟩:=I.tuple hq
  have hlen:=r'.length
  obtain⟨o,ho,hc,n,hd⟩:=pl
  exact call_list_seq p (.inr rfl) ho hc hd (fun h' c' kp e=>fin its r' hz h' c' kp e) (by simp only[List.size_toArray]<;>omega)
theorem jHG:jFa X (.type "tuple") (fun xs H Q=>∃p ys,xs=[.ref p]∧((SqL X.K H p ys∧∀l,H l=none→Q (.ref l) (upd H l (.tup ys)))∨(SqT X.K H p ys∧Q (.ref p) H))):=by
 intro pins s σ H xs us Q I r h
 obtain⟨p,ys,rfl,h⟩:=h
 obtain⟨u,rfl,rx⟩:=jNm r
 cases rx
 rcases h with⟨hq,q⟩|⟨hq,q⟩
 ·obtain⟨its,r',pl,hz⟩:=I.list hq
  have hlen:=r'.length
  refine call_tuple_list pl.isList (fun h' kp=>?_) (by simp only[List.size_toArray]<;>omega)
  have I1:Inv X pins σ H { s with heap:=h' }:=I.kept (t':=s.toks) kp
  have I2:Inv X pins σ (upd H h'.objs.size (.tup ys)) { s with heap:=h'.push { cls:=.type "tuple",data:=.seq its.toArray } } :=
   I1.laid (t':=s.toks) (fun b o e=>Heap.get?_push_of_some _ e) (Nat.le_refl _) (show jCo X.prog X.w _ _ _ (.tup ys) from ⟨hz,its,r',IsTup.new _ _⟩)
  exact⟨.ref h'.objs.size,_,I2,rfl,q _ (I1.hok.fresh (Nat.le_refl _))⟩
 ·obtain⟨its,r',pl,hz⟩:=I.tuple hq
  exact call_tuple_same pl ⟨.ref p,H,I,rfl,q⟩
def tyV (K:PySem.W.Frag)(T:String)(x:V)(H:Hp):Prop:=match x with
 |.str _=>T="str"
 |.int _=>T="int"
 |.ref p=>(T="list"∧∃xs,SqL K H p xs)∨(T="tuple"∧∃o,K.lookup p=some o∧o.cls=.type "tuple"∧o.dict=none) ∨
  (T="dict"∧((∃kvs,H p=some (.dK kvs))∨∃kvs,H p=some (.dT kvs)))∨(T="set"∧∃S n,H p=some (.set S n))
 |_=>False
theorem jPZ {pins:List (Addr×Obj)}{σ:St}{H:Hp}{s:Shared}{T:String}{x:V}{v:Value}(I:Inv X pins σ H s) (r:jBM x v) (ty:tyV X.K T x H) :
 s.TypeIs v T∧∀a,v=.ref a→∃ob,s.heap.get? a=some ob∧ob.dict=none:=by
 cases x with
 |str z =>
  obtain⟨t,rfl⟩:=r
  cases (show T="str" from ty)
  exact⟨typeIs_str s z t,fun _ e=>nomatch e⟩
 |int i =>
  obtain⟨t,rfl⟩:=r
  cases (show T="int" from ty)
  exact⟨typeIs_int s i t,fun _ e=>nomatch e⟩
 |ref p =>
  cases r
  rcases ty with⟨rfl,xs,hq⟩|⟨rfl,o,hk,hc,hd⟩|⟨rfl,hk⟩|⟨rfl,S,n,hk⟩
  ·obtain⟨its,_,pl,_⟩:=I.list hq
   refine⟨pl.isList.typeIs,fun a e=>?_⟩
   cases e
   obtain⟨o,n,e,c,hd,_⟩:=pl
   exact⟨o,e,hd⟩
  ·refine⟨⟨o,I.kIn p o hk,hc⟩,fun a e=>?_⟩
   cases e
   exact⟨o,I.kIn _ o hk,hd⟩
  ·have z:∃o,s.heap.get? p=some o∧o.ExactDict:=by
    rcases hk with⟨kvs,hk⟩|⟨kvs,hk⟩
    ·obtain⟨_,_,_,_,o,_,_,e,ex,_⟩:=I.hok p _ hk
     exact⟨o,e,ex⟩
    ·obtain⟨_,_,_,_,o,_,_,e,ex,_⟩:=I.hok p _ hk
     exact⟨o,e,ex⟩
   obtain⟨o,e,ex⟩:=z
   refine⟨⟨o,e,ex.1⟩,fun a e2=>?_⟩
   cases e2
   exact⟨o,e,ex.2.1⟩
  ·obtain⟨o,_,_,_,e,ex,_⟩:=I.hok p _ hk
   refine⟨⟨o,e,ex.1⟩,fun a e2=>?_⟩
   cases e2
   exact⟨o,e,ex.2.1⟩
 |_=>exact False.elim ty
def tBM (K:PySem.W.Frag)(T:String)(r:V→List V→Hp→VK→Prop)(to:TE)(t:TA):TE:=fun σ H Q=>to σ H fun x H1=>tyV K T x H1∧t σ H1 fun xs H2=>r x xs H2 Q
variable {o e:Expr}{es:List Expr}{to:TE}{t:TA}{name:Str}{apos cpos:Pos}{T id:String}{r:V→List V→Hp→VK→Prop}
theorem jGF (pa:PlainAttrs T)(slot:Slot T name id)(hty:typeOf (.builtin id)=pure (.type "method_descriptor"))(hm:MtR X id r)(ho:PE X o to)(ha:PA X (e::es) t)
 (hbase:attributeBase o name X.env (eval o X.env)=eval o X.env:=by rfl)
 (hfew:((backTo cpos (starEach (e::es) X.env)).all (fun x=>!x.1)&&(backToKw cpos (keywordEach [] X.env)).all (fun x=>x.1.isSome)
  && decide ((e::es).length+([]:List Keyword).length+(if ([]:List Keyword).isEmpty then 0 else 1)<30))=true:=by rfl)
 (hline:(apos.endLine==cpos.line)=true:=by rfl) (hs:starEach (e::es) X.env=(false,eval e X.env)::starEach es X.env:=by rfl) (hplain:(backTo cpos (starEach es X.env)).any (·.1)=false:=by rfl) :
 PE X (.Call (.Attribute o name apos) (e::es) [] cpos) (tBM X.K T r to t):=by
 intro pins s σ H Q I h
 refine wpAny_Call_method_late hbase hfew hline rfl (thn (ho pins s σ H _ I h) fun v s1 hh=>?_)
 obtain⟨x,H1,I1,r1,ty,q1⟩:=hh
 obtain⟨h1,h2⟩:=jPZ I1 r1 ty
 refine⟨T,id,pa,slot,hty,h1,h2,?_⟩
 have hA:=ha cpos pins s1 σ H1 _ I1 q1
 rw[hs] at hA ⊢
 refine Calls.callWith_builtin (by show(false||(backTo cpos (starEach es X.env)).any (·.1))=false;rw[hplain]<;>rfl) (Calls.evalArgs_plain ?_)
 exact thn hA fun us s2 ⟨vs,H2,I2,r2,q2⟩=>hm pins s2 σ H2 x vs v us Q I2 r1 r2 q2
end
end L2
namespace L2
open PySem PySem.Spec PyProof.Rows
def MtM (X:Cx)(id:String)(r:V→List V→Hp→VK→Prop):Prop :=
 ∀(pins:List (Addr×Obj))(s:Shared)(σ:St)(H:Hp)(x:V)(xs:List V)(v:Value)(us:List Value)(Q:VK),Inv X pins σ H s→jBM x v→jBJ xs us→r x xs H Q →
  wpAny (model X.prog X.w) X.A (call (.builtin id) (v::us)) (EP X pins σ Q) X.xe s
theorem jBJ.one:∀{x:V}{us:List Value},jBJ [x] us→∃u,us=[u]∧jBM x u
 |_,_,.cons r .nil=>⟨_,rfl,r⟩
theorem jBJ.reverse {xs:List V}{us:List Value}(h:jBJ xs us):jBJ xs.reverse us.reverse:=by
 induction h with
 |nil=>exact .nil
 |cons r t ih=>rw[List.reverse_cons,List.reverse_cons];exact jBJ.append ih (.cons r .nil)
section
variable {X:Cx}{pins:List (Addr×Obj)}{σ:St}{H:Hp}{s:Shared}{l b:Addr}{xs ys zs:List V}
theorem Inv.lset {its its':List Value}{n:Nat}{f:Array Value→Array Value}{t':Nat}(I:Inv X pins σ H s) (hH:H l=some (.lst xs))
 (e:s.heap.get? l=some { cls:=.type "list",data:=.seq its.toArray n }) (hf:f its.toArray=its'.toArray) (hv:jBJ ys its') (hz:ys.length≤sizeLine) :
 Inv X pins σ (upd H l (.lst ys)) { s with heap:=s.heap.update l (Obj.mapSeq f),toks:=t' }:=by
 have q:=PySem.IsL.update e f
 rw[hf] at q
 refine I.write (x:=l) (e:=l) (by rw[hH];exact trivial) (.inl rfl) (fun b' u hb hu=>(Heap.get?_update_other s.heap (Obj.mapSeq f) (Ne.symm hb)).trans hu) ⟨_,q⟩ ?_
 exact⟨hz,its',_,hv,q⟩
theorem Inv.lnew {its:List Value}{t':Nat}(I:Inv X pins σ H s) (hv:jBJ ys its) (hz:ys.length≤sizeLine) :
 Inv X pins σ (upd H s.heap.objs.size (.lst ys)) { s with heap:=s.heap.push { cls:=.type "list",data:=.seq its.toArray },toks:=t' } :=
 I.laid (fun _ _ q=>Heap.get?_push_of_some _ q) (Nat.le_refl _) ⟨hz,its,0,hv,Heap.get?_push_size _ rfl⟩
theorem Inv.fresh (I:Inv X pins σ H s):H s.heap.objs.size=none:=I.hok.fresh (Nat.le_refl _)
theorem Inv.lstM (I:Inv X pins σ H s)(hH:H l=some (.lst xs)):xs.length≤sizeLine∧∃(its:List Value)(n:Nat),jBJ xs its∧xs.length=its.length∧s.heap.get? l=some { cls:=.type "list",data:=.seq its.toArray n }:=by
 obtain⟨z,its,n,r,e⟩:=I.hok l _ hH
 exact⟨z,its,n,r,r.length,e⟩
end
section
variable {X:Cx}
def jLT:V→List V→Hp→VK→Prop:=fun x vs H Q=>∃l xs y,x=.ref l∧vs=[y]∧H l=some (.lst xs)∧xs.length<sizeLine∧Q .non (upd H l (.lst (xs++[y])))
theorem jA7:MtM X "list.append" jLT:=by
 intro pins s σ H x vs v us Q I rx rv h
 obtain⟨l,xs,y,rfl,rfl,hH,hz,q⟩:=h
 cases rx
 obtain⟨u,rfl,ru⟩:=rv.one
 obtain⟨z,its,n,r,hl,e⟩:=I.lstM hH
 refine call_meets F.slot_list_append ⟨_,e,rfl⟩ F.entry_list_append (F.args_list_append_2 _ _) (PySem.list_append l its.toArray n u (by rw[List.size_toArray];omega)) ⟨e,?_⟩
 refine⟨.non,_,I.lset (its':=its++[u]) hH e (by simp) (r.append (.cons ru .nil)) ?_,rfl,q⟩
 rw[List.length_append,List.length_singleton]
 omega
def jS1:R2:=fun x y H Q=>∃l b xs zs,x=.ref l∧y=.ref b∧H l=some (.lst xs)∧H b=some (.lst zs)∧xs.length+zs.length≤sizeLine∧∀p,H p=none→Q (.ref p) (upd H p (.lst (xs++zs)))
theorem jPP:OpR X (binaryOp .Add) jS1:=by
 intro pins s σ H x y v u Q I rx ry h
 obtain⟨l,b,xs,zs,rfl,rfl,hH,hB,hz,q⟩:=h
 cases rx
 cases ry
 obtain⟨z,its,n,r,hl,e⟩:=I.lstM hH
 obtain⟨z2,its2,n2,r2,hl2,e2⟩:=I.lstM hB
 refine PySem.P.add_list e e2 ?_ (by rw[List.size_toArray,List.size_toArray];omega)
 have ea:its.toArray++its2.toArray=(its++its2).toArray:=by simp
 rw[ea]
 exact⟨.ref _,_,I.lnew (t':=s.toks) (r.append r2) (by rw[List.length_append];omega),rfl,q _ I.fresh⟩
end
section
variable {prog:Program}{w:World}{A:Around}{E:Value→Shared→Prop}{s:Shared}
end
section
variable {X:Cx}
end
end L2
namespace Att
open PySem PySem.W PySem.Calls PyProof.Rows
theorem jGe {P:Params}{h:Heap}:∀(ns:List Int)(vs:List Value),WellAll P h vs (ns.map WData.int)→IntsAre vs ns:=by
 intro ns
 induction ns with
 |nil =>
  intro vs w
  rw[List.map_nil] at w
  cases w
  exact .nil
 |cons n ns ih =>
  intro vs w
  rw[List.map_cons] at w
  cases w with
  |cons a b =>
   cases a
   exact .cons _ _ (ih _ b)
theorem jL0 {l:OpenLaw}{n:Nat}(hn:l.most=some n){P:Params}{h:Heap}{args:List WData}{vals:List Value}
 (hpre:l.row.toRowW.claim.pre args=true) (hwl:WellAll P h vals args) :
 ∃a vs ns,vals=[Value.ref a]∧args=[WData.list (ns.map WData.int)]∧h.get? a=some { cls:=.type "list",data:=.seq vs.toArray }∧IntsAre vs ns∧ns.length≤n:=by
 have hsh:WShape.hasAll [] args [.list .int]=true:=(pre_splitW hpre).1
 have hc:l.pre.holds [] { args:=args }=true:=(pre_splitW hpre).2
 obtain⟨d,r,rfl,h1,h2⟩:=hasAllW_cons hsh
 obtain rfl:=hasAllW_nil h2
 obtain⟨xs,rfl,h3⟩:=hasW_list h1
 obtain⟨ns,rfl⟩:=items_int h3
 have hlen:ns.length≤n:=by
  unfold OpenLaw.pre at hc
  have h4:(WTm.not (.lt (.lit (.int (n:Int))) (.len (.arg 0)))).holds [] { args:=[.list (ns.map .int)] }=true:=by
   have h4:=(holds_andW hc).1
   rw[hn] at h4
   exact h4
  have h5:=condW_of h4 (w_not (w_lt w_lit (w_len_list (w_arg rfl))))
  rw[List.length_map] at h5
  refine Nat.le_of_not_lt fun q=>?_
  have q':(n:Int)<((ns.length:Nat):Int):=by omega
  first
   |(rw[decide_eq_true q'] at h5;exact absurd h5 (by decide))
   |(simp at h5;omega)
 cases hwl with
 |cons w1 w2 =>
  cases w2
  cases w1 with
  |list ho hall=>exact⟨_,_,ns,rfl,rfl,ho,jGe ns _ hall,hlen⟩
theorem jMd (l:OpenLaw)(args:List WData):l.row.toRowW.claim.post args (.bool true) args=true :=
 postW_of (r:=l.row.toRowW) (X:=(true==true))
  (show WShape.has [] (.bool true) .bool=true by first|rfl|decide|simp[WShape.has,WShape.arms,WShape.armsAll])
  (show(WTm.eq .res (.lit (.bool true))).value [] { args:=args,res:=some (.bool true),after:=args }=some (.bool (true==true)) from w_eq_bool (w_res rfl) w_lit) rfl
theorem attach_call {l:OpenLaw}{n:Nat}{q:Program}{loose:List Str}{XP:(Str→Option Value)→Heap→Prop}{YP:World→Heap→Prop}{d:DefRec}
 (hn:l.most=some n) (hdf:d.params.defaults=[])
 (call:∀(w:World)(s₀ s₁:Shared)(mg mb:Str→Option Value)(fa:Addr)(o:Obj)(pm cd doc:Value)(a:Addr)(vs:List Value)(ns:List Int),
  Ground q loose [] XP w s₀ mg mb s₁.heap→YP w s₁.heap →
  s₁.heap.get? fa=some o→o.data=.func (docDef d.name d.params d.body d.scope pm cd doc)→s₁.heap.CodeRec cd d.name→mg d.name=some (.ref fa) →
  s₁.heap.get? a=some { cls:=.type "list",data:=.seq vs.toArray }→IntsAre vs ns→ns.length≤n→s₁.gens=#[] →
  codeAny (model l.prog w) callerA (.call (.ref fa) ⟨[.ref a],[]⟩) (fun r s'=>r=.ok (.ret (.bool true))∧OldK s₁.heap s'.heap∧s'.os=s₁.os∧AllBare s'.gens) s₁) :
 WalkO q loose XP YP l.row.toRowW d [] (fun f vs=>PySem.call f vs):=by
 intro w s₀ s₁ mg mb G Y fa o pm cd doc dV kV ho hd hcd hD hmg hg args vals as hpre hlay hrd hwl hlo
 obtain rfl:dV=.none:=Dflts.none hD hdf
 obtain rfl:kV=.none:=Dflts.noKw hD
 obtain⟨a,vs,ns,rfl,rfl,hobj,hints,hlen⟩:=jL0 hn hpre hwl
 refine enter_call (codeAny_mono (call w s₀ s₁ mg mb fa o pm cd doc a vs ns G Y ho (fd_plain hd) hcd hmg hobj hints hlen hg) fun r s' hq=>?_)
 obtain⟨rfl,h2,h3,h4⟩:=hq
 exact⟨.inl ⟨.bool true,.bool true,[],rfl,fun _=>rfl,.bool true,jMd l _,fun _=>⟨List.Pairwise.nil,fun _ hm=>(nomatch hm)⟩⟩,h2,h3,h4⟩
section
variable {prog:Program}{w:World}{A:Around}{E:Value→Shared→Prop}{s:Shared}{K:Frag}
end
end Att
namespace L2
open PySem PySem.Spec PyProof.Rows
theorem jIg:∀{vs:List Value}{ns:List Int},IntsAre vs ns→jBJ (ns.map V.int) vs
 |_,_,.nil=>.nil
 |_,_,.cons n t h=>.cons ⟨t,rfl⟩ (jIg h)
end L2
namespace L2
open PySem PySem.Spec PyProof.Rows
abbrev CX0:CXT:=fun _ _ _ _ _ _=>False
abbrev E0:XK:=fun _ _ _=>False
theorem jRS {X:Cx}:jKF CX0 X E0:=fun _ _ _ _ _ _ _ h=>h.elim
structure Fun (K:PySem.W.Frag)(x qual:Str)(st:Stmt)(f:Addr)(fd:FuncData):Prop where
 ex:∃(oc:Value)(od:Option Addr)(kV doc pm:Value)(an:Option Addr)(cdv ct:Value)(osl:Array (Option Value)),
  fd=PySem.W.fnOf x qual (jEy st) (jBD st) (jAc st) .none kV doc pm an cdv ct∧K.lookup f=some ⟨oc,od,.func fd,osl⟩∧PySem.W.codeIn K cdv qual=true
 kp:PySem.W.keepIn K (.ref f)=true
section
variable {P:Program}{w:World}{K:PySem.W.Frag}{mg:Str→Option Value}{base:Heap}
theorem Fun.ok {x qual:Str}{st:Stmt}{f:Addr}{fd:FuncData}{N ps:List Str}{k:Nat}{sp:Sp}(F:Fun K x qual st f fd) (S:jAe N ps (jAc st)) (len:∀vs H Q E,sp vs H Q E→vs.length=ps.length)
 (hbody:∀(cdv:Value)(A:Around)(outer:List Env)(s:Shared)(H:Hp)(vs:List V)(Q:VK)(E:XK),jDO k (A.deeper (envOfC qual (jAc st) s.heap.objs.size f cdv))→sp vs H Q E →
  ∃t,PSs (jH8 CX0 P w K mg base N qual (jAc st) f cdv A outer s H E).nox (jBD st) t∧t { nx:=fun _ H'=>Q .non H',rt:=Q } (start N vs) H):jAz P w K mg base CX0 (k+1) f fd ps sp:=by
 obtain⟨oc,od,kV,doc,pm,an,cdv,ct,osl,rfl,lk,hcd⟩:=F.ex
 refine jM0 lk hcd S len fun A outer s H vs Q E hr hsp=>?_
 obtain⟨t,h,q⟩:=hbody cdv A outer s H vs Q E hr hsp
 exact⟨t,h.nox,q⟩
theorem Fun.binds {x qual:Str}{st:Stmt}{f:Addr}{fd:FuncData}{ps:List Str}(F:Fun K x qual st f fd)
 (h:∀(kV doc pm:Value)(an:Option Addr)(cdv ct:Value)(us:List Value),us.length=ps.length→bindArgs (PySem.W.fnOf x qual (jEy st) (jBD st) (jAc st) .none kV doc pm an cdv ct) ⟨us,[]⟩=pure (ps.zip us)):Binds K fd ps []:=by
 obtain⟨oc,od,kV,doc,pm,an,cdv,ct,osl,rfl,lk,hcd⟩:=F.ex
 exact .all (h kV doc pm an cdv ct)
theorem jI7 {x qual:Str}{st:Stmt}{f:Addr}{oc:Value}{od an:Option Addr}{osl:Array (Option Value)}{kV doc pm cdv ct:Value}(l:K.lookup f=some ⟨oc,od,.func (PySem.W.fnOf x qual (jEy st) (jBD st) (jAc st) .none kV doc pm an cdv ct),osl⟩)
 (c:PySem.W.codeIn K cdv qual=true) (k:PySem.W.keepIn K (.ref f)=true):Fun K x qual st f (PySem.W.fnOf x qual (jEy st) (jBD st) (jAc st) .none kV doc pm an cdv ct):=⟨⟨oc,od,kV,doc,pm,an,cdv,ct,osl,rfl,l,c⟩,k⟩
end
theorem jKW {n:Nat}(h:n≤1000):n<sizeLine:=Nat.lt_of_le_of_lt h (by decide)
section
variable {X:Cx}
theorem pv (i:Nat){x:Str}{pos:Pos}(hN:X.N[i]? = some x:=by rfl) (hv:Vis X.env.scope x:=by first|exact Or.inl rfl|exact Or.inr (Or.inl rfl)|exact Or.inr (Or.inr rfl)) (hd:(x==("__debug__":Str))=false:=by decide)
 (hcd:(x==("__classdict__":Str))=false:=by decide):PE X (.Name x pos) (jJS i):=jQk hN hv hd hcd
end
def jBb (H H':Hp):Prop:=∀b o,H b=some o→H' b=some o
theorem jBb.refl (H:Hp):jBb H H:=fun _ _ h=>h
theorem jBb.trans {H H1 H2:Hp}(a:jBb H H1) (b:jBb H1 H2):jBb H H2:=fun c o h=>b c o (a c o h)
theorem jBb.free {H H':Hp}(e:jBb H H'){l:Addr}(h:H' l=Option.none):H l=Option.none:=by
 cases q:H l with
 |none=>rfl
 |some o =>
  rw[e l o q] at h
  cases h
theorem jBb.seq {K:PySem.W.Frag}{H H':Hp}{a:Addr}{xs:List V}(e:jBb H H') (h:SqL K H a xs):SqL K H' a xs:=by
 rcases h with (h|⟨o,h⟩)|h
 ·exact .inl (.inl (e _ _ h))
 ·exact .inl (.inr ⟨o,e _ _ h⟩)
 ·exact .inr h
end L2
set_option maxHeartbeats 4000000
namespace CH
def g (a b:Int):Int:=(Int.gcd a b:Int)
theorem jPG {a b:Int}(h:b≠0):0<g a b:=by
 have:=Int.gcd_pos_of_ne_zero_right a h
 unfold g;omega
theorem jNR {x y:Int}(hy:0<y):g y (x%y)=g x y:=by
 unfold g
 have e:x%y=x-y*(x/y):=Int.emod_def x y
 rw[e,Int.gcd_sub_mul_left_right,Int.gcd_comm]
theorem jQq {x:Int}(hx:0≤x):g x 0=x:=by
 unfold g;rw[Int.gcd_zero];omega
theorem jPO (a b:Int):g (if a<0 then -a else a) (if b<0 then -b else b)=g a b:=by
 unfold g
 split<;>split<;>simp
theorem jLm (a b:Int):g a b ∣ a:=Int.gcd_dvd_left a b
theorem jKD (a b:Int):g a b ∣ b:=Int.gcd_dvd_right a b
def cm (a b:Int):Int:=if b<0 then -(g a b) else g a b
theorem jGX {a c:Int}(h:c ∣ a) (hc:c≠0):Int.fdiv a c*c=a:=by
 obtain⟨k,rfl⟩:=h
 rw[Int.mul_comm c k,Int.mul_fdiv_cancel _ hc]
theorem jF9 {a b:Int}(hb:b≠0):Int.fdiv a (cm a b)=(Rat.divInt a b).num∧Int.fdiv b (cm a b)=((Rat.divInt a b).den:Int):=by
 have hg:=jPG (a:=a) hb
 have d1:=jLm a b
 have d2:=jKD a b
 rw[Rat.num_divInt,Rat.den_divInt,if_neg hb]
 have eg:((b.gcd a:Nat):Int)=g a b:=by unfold g;rw[Int.gcd_comm]
 rw[Int.natCast_ediv,eg]
 unfold cm
 split
 ·rename_i h
  rw[Int.sign_eq_neg_one_of_neg h]
  have e1:(-1*a)/g a b=Int.fdiv a (-(g a b)):=by
   obtain⟨k,hk⟩:=d1
   have:-1*a=(-k)*g a b:=by grind
   rw[this,Int.mul_ediv_cancel _ (by omega)]
   have:a=(-k)*(-(g a b)):=by grind
   have q:=Int.mul_fdiv_cancel (-k) (show -(g a b)≠0 by omega)
   rw[←this] at q
   exact q.symm
  have e2:((b.natAbs:Nat):Int)/g a b=Int.fdiv b (-(g a b)):=by
   obtain⟨k,hk⟩:=d2
   have hn:((b.natAbs:Nat):Int)=-b:=by omega
   rw[hn]
   have:-b=(-k)*g a b:=by grind
   rw[this,Int.mul_ediv_cancel _ (by omega)]
   have:b=(-k)*(-(g a b)):=by grind
   have q:=Int.mul_fdiv_cancel (-k) (show -(g a b)≠0 by omega)
   rw[←this] at q
   exact q.symm
  exact⟨e1.symm,e2.symm⟩
 ·rename_i h
  have hp:0<b:=by omega
  rw[Int.sign_eq_one_of_pos hp,Int.one_mul]
  have hn:((b.natAbs:Nat):Int)=b:=by omega
  rw[hn,Int.fdiv_eq_ediv_of_nonneg _ (by omega),Int.fdiv_eq_ediv_of_nonneg _ (by omega)]
  exact⟨rfl,rfl⟩
theorem jKo {a b:Int}(hb:b≠0):cm a b≠0:=by
 have:=jPG (a:=a) hb
 unfold cm;split<;>omega
theorem den_pos (q:Rat):1≤(q.den:Int):=by have:=q.den_pos;omega
theorem jE1 (q:Rat):(q.num:Rat)=q*q.den:=by
 have h:=Rat.num_divInt_den q
 rw[Rat.divInt_eq_div] at h
 have hd:((q.den:Int):Rat)≠0:=by
  have:=q.den_nz
  simp[this]
 have e:((q.den:Int):Rat)=(q.den:Rat):=rfl
 rw[e] at h hd
 grind
theorem den_ne (q:Rat):(q.den:Rat)≠0:=by have:=q.den_nz;simp[this]
theorem lt_iff (p q:Rat):p.num*(q.den:Int)<q.num*(p.den:Int) ↔ p<q:=(Rat.lt_iff p q).symm
theorem jLY (p q:Rat):Rat.divInt (p.num*q.den+q.num*p.den) ((p.den:Int)*q.den)=p+q:=by
 rw[Rat.divInt_eq_div,Rat.intCast_add,Rat.intCast_mul,Rat.intCast_mul,Rat.intCast_mul,jE1 p,jE1 q]
 have h1:=den_ne p
 have h2:=den_ne q
 have e1:((p.den:Int):Rat)=(p.den:Rat):=rfl
 have e2:((q.den:Int):Rat)=(q.den:Rat):=rfl
 rw[e1,e2]
 grind
theorem jJm (p q:Rat):Rat.divInt (p.num*q.den-q.num*p.den) ((p.den:Int)*q.den)=p-q:=by
 rw[Rat.divInt_eq_div,Rat.intCast_sub,Rat.intCast_mul,Rat.intCast_mul,Rat.intCast_mul,jE1 p,jE1 q]
 have h1:=den_ne p
 have h2:=den_ne q
 have e1:((p.den:Int):Rat)=(p.den:Rat):=rfl
 have e2:((q.den:Int):Rat)=(q.den:Rat):=rfl
 rw[e1,e2]
 grind
theorem jJL (p q:Rat):Rat.divInt (p.num*q.num) ((p.den:Int)*q.den)=p*q:=by
 rw[Rat.divInt_eq_div,Rat.intCast_mul,Rat.intCast_mul,jE1 p,jE1 q]
 have h1:=den_ne p
 have h2:=den_ne q
 have e1:((p.den:Int):Rat)=(p.den:Rat):=rfl
 have e2:((q.den:Int):Rat)=(q.den:Rat):=rfl
 rw[e1,e2]
 grind
theorem jLq (p q:Rat)(hq:q≠0):Rat.divInt (p.num*q.den) ((p.den:Int)*q.num)=p/q:=by
 rw[Rat.divInt_eq_div,Rat.intCast_mul,Rat.intCast_mul,jE1 p,jE1 q]
 have h1:=den_ne p
 have h2:=den_ne q
 have e1:((p.den:Int):Rat)=(p.den:Rat):=rfl
 have e2:((q.den:Int):Rat)=(q.den:Rat):=rfl
 rw[e1,e2]
 grind
end CH
namespace CH
def Sz (k:Nat)(q:Rat):Prop:=q.num.natAbs<2^k∧q.den<2^k
theorem jKA {k m:Nat}(h:k≤m):2^k≤2^m:=Nat.pow_le_pow_right (by decide) h
theorem Sz.mono {k m:Nat}{q:Rat}(h:Sz k q) (hk:k≤m):Sz m q:=⟨Nat.lt_of_lt_of_le h.1 (jKA hk),Nat.lt_of_lt_of_le h.2 (jKA hk)⟩
theorem jEY {a c x:Int}(h:x*c=a) (hc:c≠0):x.natAbs≤a.natAbs:=by
 rw[←h,Int.natAbs_mul]
 exact Nat.le_mul_of_pos_right _ (by omega)
theorem jC5 {a b:Int}{k:Nat}(hb:b≠0) (h1:a.natAbs<2^k) (h2:b.natAbs<2^k):Sz k (Rat.divInt a b):=by
 have p:=jF9 (a:=a) hb
 have d1:cm a b ∣ a:=by
  unfold cm;split
  ·exact Int.neg_dvd.mpr (jLm a b)
  ·exact jLm a b
 have d2:cm a b ∣ b:=by
  unfold cm;split
  ·exact Int.neg_dvd.mpr (jKD a b)
  ·exact jKD a b
 have e1:=jEY (jGX d1 (jKo hb)) (jKo hb)
 have e2:=jEY (jGX d2 (jKo hb)) (jKo hb)
 rw[p.1] at e1
 rw[p.2] at e2
 have e3:(((Rat.divInt a b).den:Int)).natAbs=(Rat.divInt a b).den:=Int.natAbs_natCast _
 rw[e3] at e2
 exact⟨by omega,by omega⟩
theorem jAh {a b:Int}{k m:Nat}(h1:a.natAbs<2^k) (h2:b.natAbs<2^m):(a*b).natAbs<2^(k+m):=by
 rw[Int.natAbs_mul,Nat.pow_add]
 exact Nat.mul_lt_mul'' h1 h2
theorem jEX {a b:Int}{k:Nat}(h1:a.natAbs<2^k) (h2:b.natAbs<2^k):(a+b).natAbs<2^(k+1):=by
 rw[Nat.pow_succ]
 generalize 2^k=p at *
 omega
theorem jCF {a b:Int}{k:Nat}(h1:a.natAbs<2^k) (h2:b.natAbs<2^k):(a-b).natAbs<2^(k+1):=by
 rw[Nat.pow_succ]
 generalize 2^k=p at *
 omega
theorem jAB {k:Nat}{q:Rat}(h:Sz k q):((q.den:Int)).natAbs<2^k:=by rw[Int.natAbs_natCast];exact h.2
theorem jJ3 (p q:Rat):(p.den:Int)*(q.den:Int)≠0:=by
 have h1:=den_pos p
 have h2:=den_pos q
 exact Int.mul_ne_zero (by omega) (by omega)
theorem jAw {k m:Nat}{x:Nat}(h:x<2^k) (e:k≤m):x<2^m:=Nat.lt_of_lt_of_le h (jKA e)
theorem Sz.add {k m:Nat}{p q:Rat}(hp:Sz k p) (hq:Sz m q):Sz (k+m+1) (p+q):=by
 rw[←jLY]
 have a1:=jAh hp.1 (jAB hq)
 have a2:=jAh hq.1 (jAB hp)
 have a3:=jAh (jAB hp) (jAB hq)
 rw[Nat.add_comm m k] at a2
 exact jC5 (jJ3 p q) (jEX a1 a2) (jAw a3 (Nat.le_succ _))
theorem Sz.sub {k m:Nat}{p q:Rat}(hp:Sz k p) (hq:Sz m q):Sz (k+m+1) (p-q):=by
 rw[←jJm]
 have a1:=jAh hp.1 (jAB hq)
 have a2:=jAh hq.1 (jAB hp)
 have a3:=jAh (jAB hp) (jAB hq)
 rw[Nat.add_comm m k] at a2
 exact jC5 (jJ3 p q) (jCF a1 a2) (jAw a3 (Nat.le_succ _))
theorem Sz.mul {k m:Nat}{p q:Rat}(hp:Sz k p) (hq:Sz m q):Sz (k+m) (p*q):=by
 rw[←jJL]
 exact jC5 (jJ3 p q) (jAh hp.1 hq.1) (jAh (jAB hp) (jAB hq))
theorem Sz.neg {k:Nat}{p:Rat}(hp:Sz k p):Sz k (-p):=⟨by rw[Rat.neg_num,Int.natAbs_neg];exact hp.1,hp.2⟩
theorem Sz.zero:Sz 1 0:=⟨by decide,by decide⟩
theorem Sz.den_ne {k:Nat}{p q:Rat}(hq:q≠0):(p.den:Int)*q.num≠0:=by
 have h1:=den_pos p
 have h2:q.num≠0:=fun z=>hq (Rat.num_eq_zero.mp z)
 exact Int.mul_ne_zero (by omega) h2
theorem Sz.div {k m:Nat}{p q:Rat}(hp:Sz k p) (hq:Sz m q) (h0:q≠0):Sz (k+m) (p/q):=by
 rw[←jLq p q h0]
 exact jC5 (Sz.den_ne (k:=0) h0) (jAh hp.1 (jAB hq)) (jAh (jAB hp) hq.1)
end CH
namespace L3
open PySem PySem.Spec PyProof.Rows L2
abbrev St:=L2.St
def jJr:Expr→Bool
 |.Starred .. => true
 |_=>false
theorem jBR {e:Expr}{es:List Expr}{env:Env}(h:jJr e=false):starEach (e::es) env=(false,eval e env)::starEach es env:=by
 cases e<;>first|rfl|cases h
theorem jCD {pos:Pos}{env:Env}:∀{es:List Expr},es.all (fun e=>!jJr e)=true→(backTo pos (starEach es env)).any (·.1)=false
 |[],_=>rfl
 |e::es,h=>by
  rw[List.all_cons,Bool.and_eq_true] at h
  have h1:jJr e=false:=by
   cases q:jJr e with
   |false=>rfl
   |true=>rw[q] at h;exact absurd h.1 (by decide)
  rw[jBR h1]
  show(false||(backTo pos (starEach es env)).any (·.1))=false
  rw[jCD h.2]
  rfl
inductive D where
 |non|bl (b:Bool)|int (i:Int)|str (x:Str)|ty (n:String)|tup (xs:List D)|lst (xs:List D)|ref (a:Addr)
inductive S where
 |d (x:D)|l (xs:List D)|r (xs:List D)
def S.isL:S→Bool
 |.d _=>false
 |_=>true
def S.share:S→S
 |.l xs=>.r xs
 |s=>s
def S.own:S→Bool
 |.l _=>true
 |_=>false
inductive Is (K:PySem.W.Frag)(H:Hp):V→D→Prop where
 |non:Is K H .non .non
 |bl (b:Bool):Is K H (.bl b) (.bl b)
 |int (i:Int):Is K H (.int i) (.int i)
 |str (x:Str):Is K H (.str x) (.str x)
 |ty (n:String):Is K H (.ty n) (.ty n)
 |ref (a:Addr):Is K H (.ref a) (.ref a)
 |tup {a:Addr}{vs:List V}{xs:List D}(h:SqT K H a vs) (hl:vs.length=xs.length) (r:∀(i:Nat)(v:V)(x:D),vs[i]? = some v→xs[i]? = some x→Is K H v x):Is K H (.ref a) (.tup xs)
 |lst {a:Addr}{vs:List V}{xs:List D}(h:H a=some (.lst vs)) (hl:vs.length=xs.length) (r:∀(i:Nat)(v:V)(x:D),vs[i]? = some v→xs[i]? = some x→Is K H v x):Is K H (.ref a) (.lst xs)
def Iss (K:PySem.W.Frag)(H:Hp)(vs:List V)(xs:List D):Prop :=
 vs.length=xs.length∧∀(i:Nat)(v:V)(x:D),vs[i]? = some v→xs[i]? = some x→Is K H v x
structure HZ where
 h:Hp
 z:Hp
structure Ext (p q:HZ):Prop where
 hh:jBb p.h q.h
 zz:jBb p.z q.z
 sub:jBb q.z q.h
 new:∀a o,q.z a=some o→p.z a=some o∨p.h a=none
theorem Ext.refl {p:HZ}(h:jBb p.z p.h):Ext p p:=⟨jBb.refl _,jBb.refl _,h,fun _ _ e=>.inl e⟩
theorem Ext.trans {p q r:HZ}(a:Ext p q) (b:Ext q r):Ext p r:=⟨a.hh.trans b.hh,a.zz.trans b.zz,b.sub,fun c o e=>by
 rcases b.new c o e with e|e
 ·exact a.new c o e
 ·exact .inr (a.hh.free e)⟩
theorem Ext.grow {H H' z:Hp}(h:jBb z H) (e:jBb H H'):Ext ⟨H,z⟩ ⟨H',z⟩:=⟨e,jBb.refl _,h.trans e,fun _ _ e=>.inl e⟩
theorem jBr {H:Hp}{p:Addr}(h:H p=none) (o:HO):jBb H (upd H p o):=fun b u q=>by rw[jAn (jAx q h)];exact q
theorem Ext.freeze {p q:HZ}{a:Addr}{o:HO}(e:Ext p q) (n:p.h a=none) (nz:q.z a=none) (h:q.h a=some o):Ext p ⟨q.h,upd q.z a o⟩:=by
 refine⟨e.hh,e.zz.trans (jBr nz o),fun b u hb=>?_,fun b u hb=>?_⟩
 ·by_cases z:b=a
  ·subst z
   have hb':upd q.z b o b=some u:=hb
   rw[jAp] at hb'
   cases hb'
   exact h
  ·have hb':upd q.z a o b=some u:=hb
   rw[jAn z] at hb'
   exact e.sub b u hb'
 ·by_cases z:b=a
  ·subst z;exact .inr n
  ·have hb':upd q.z a o b=some u:=hb
   rw[jAn z] at hb'
   exact e.new b u hb'
theorem Ext.own {H z:Hp}{a:Addr}(h:jBb z H) (n:H a=none) (o:HO):Ext ⟨H,z⟩ ⟨upd H a o,z⟩:=Ext.grow h (jBr n o)
theorem Ext.lay {H z:Hp}{a:Addr}(h:jBb z H) (n:H a=none) (o:HO):Ext ⟨H,z⟩ ⟨upd H a o,upd z a o⟩ :=
 (Ext.own h n o).freeze n (h.free n) jAp
def IsS (K:PySem.W.Frag)(p:HZ)(v:V):S→Prop
 |.d x=>Is K p.z v x
 |.l xs=>∃a vs,v=.ref a∧p.h a=some (.lst vs)∧Iss K p.z vs xs
 |.r xs=>∃a vs,v=.ref a∧SqL K p.h a vs∧Iss K p.z vs xs
section
variable {K:PySem.W.Frag}{H H':Hp}{p q:HZ}{a:Addr}{v:V}{x:D}{vs:List V}{xs:List D}
theorem SqT.same (e:jBb H H')(h:SqT K H a vs):SqT K H' a vs:=by
 rcases h with (h|⟨o,h⟩)|h
 ·exact .inl (.inl (e _ _ h))
 ·exact .inl (.inr ⟨o,e _ _ h⟩)
 ·exact .inr h
theorem Is.mono (e:jBb H H')(h:Is K H v x):Is K H' v x:=by
 induction h with
 |non=>exact .non
 |bl b=>exact .bl b
 |int i=>exact .int i
 |str y=>exact .str y
 |ty n=>exact .ty n
 |ref a=>exact .ref a
 |tup h hl r ih=>exact .tup (SqT.same e h) hl ih
 |lst h hl r ih=>exact .lst (e _ _ h) hl ih
theorem Iss.mono (e:jBb H H')(h:Iss K H vs xs):Iss K H' vs xs:=⟨h.1,fun i v x h1 h2=>(h.2 i v x h1 h2).mono e⟩
theorem Iss.nil:Iss K H [] []:=⟨rfl,fun i v x h=>by simp at h⟩
theorem Iss.snoc (t:Iss K H vs xs)(h:Is K H v x):Iss K H (vs++[v]) (xs++[x]):=by
 refine⟨by simp[t.1],fun i w y h1 h2=>?_⟩
 by_cases hi:i<vs.length
 ·rw[List.getElem?_append_left hi] at h1
  rw[List.getElem?_append_left (by have:=t.1;omega)] at h2
  exact t.2 i w y h1 h2
 ·rw[List.getElem?_append_right (by omega)] at h1
  rw[List.getElem?_append_right (by have:=t.1;omega)] at h2
  have e:i-vs.length=0:=by
   have:=(List.getElem?_eq_some_iff.mp h1).1
   simp at this
   omega
  have e2:i-xs.length=0:=by have:=t.1;omega
  rw[e] at h1
  rw[e2] at h2
  simp at h1 h2
  subst h1;subst h2
  exact h
theorem IsS.mono {s:S}(e:Ext p q) (h:IsS K p v s):IsS K q v s:=by
 cases s with
 |d x=>exact Is.mono e.zz h
 |l xs =>
  obtain⟨a,vs,e1,h1,h2⟩:=h
  exact⟨a,vs,e1,e.hh _ _ h1,h2.mono e.zz⟩
 |r xs =>
  obtain⟨a,vs,e1,h1,h2⟩:=h
  exact⟨a,vs,e1,e.hh.seq h1,h2.mono e.zz⟩
theorem IsS.share {s:S}(h:IsS K p v s):IsS K p v s.share:=by
 cases s with
 |d x=>exact h
 |l xs =>
  obtain⟨a,vs,e1,h1,h2⟩:=h
  exact⟨a,vs,e1,SqL.of h1,h2⟩
 |r xs=>exact h
theorem Is.tup_inv {xs:List D}(h:Is K H v (.tup xs)):∃a vs,v=.ref a∧SqT K H a vs∧Iss K H vs xs:=by
 cases h with
 |tup h hl r=>exact⟨_,_,rfl,h,hl,r⟩
theorem Is.lst_inv {xs:List D}(h:Is K H v (.lst xs)):∃a vs,v=.ref a∧SqL K H a vs∧Iss K H vs xs:=by
 cases h with
 |lst h hl r=>exact⟨_,_,rfl,SqL.of h,hl,r⟩
theorem Is.lst_own {xs:List D}(h:Is K H v (.lst xs)):∃a vs,v=.ref a∧H a=some (.lst vs)∧Iss K H vs xs:=by
 cases h with
 |lst h hl r=>exact⟨_,_,rfl,h,hl,r⟩
theorem Is.int_inv {i:Int}(h:Is K H v (.int i)):v=.int i:=by cases h;rfl
theorem Is.bl_inv {i:Bool}(h:Is K H v (.bl i)):v=.bl i:=by cases h;rfl
theorem Is.non_inv (h:Is K H v .non):v=.non:=by cases h;rfl
theorem Is.str_inv {i:Str}(h:Is K H v (.str i)):v=.str i:=by cases h;rfl
end
abbrev Tau:=List (Option S)
def Fr3 (K:PySem.W.Frag)(p q:HZ)(v:V)(s:S):Prop:=∀xs a,s=.l xs→v=.ref a→p.h a=none∧K.lookup a=none∧q.z a=none
structure Rep (X:Cx)(b:HZ)(τ:Tau)(σ:St)(p:HZ):Prop where
 len:σ.length=τ.length
 ext:Ext b p
 val:∀(i:Nat)(s:S),τ[i]? = some (some s)→∃v,σ[i]? = some (some v)∧IsS X.K p v s
 own:∀(i:Nat)(xs:List D)(a:Addr),τ[i]? = some (some (.l xs))→σ[i]? = some (some (.ref a))→b.h a=none∧X.K.lookup a=none∧p.z a=none
 sep:∀(i j:Nat)(xs:List D)(s:S)(a:Addr),i≠j→τ[i]? = some (some (.l xs))→τ[j]? = some (some s)→s.isL=true→σ[i]? = some (some (.ref a))→σ[j]?≠some (some (.ref a))
 top:X.lent=none→jBb X.H₀ b.h
 pin:∀i a,X.lent=some (i,a)→σ[i]? = some (some (.ref a))
def jCT (X:Cx)(i:Nat):Prop:=∀k a,X.lent=some (k,a)→k≠i
theorem jCn {X:Cx}{i:Nat}(h:X.lent=none):jCT X i:=fun k a e=>by rw[h] at e;cases e
theorem jCv {X:Cx}{i k:Nat}{a:Addr}(h:X.lent=some (k,a)) (n:k≠i):jCT X i:=fun k' a' e=>by rw[h] at e;cases e;exact n
section
variable {X:Cx}{b b' p q:HZ}{τ τ':Tau}{σ:St}{v:V}{s:S}
theorem Rep.all (r:Rep X b τ σ p)(hl:X.lent=none):jBb X.H₀ p.h:=(r.top hl).trans r.ext.hh
theorem Rep.own_list {i:Nat}{xs:List D}{a:Addr}(r:Rep X b τ σ p) (h1:τ[i]? = some (some (.l xs))) (h2:σ[i]? = some (some (.ref a))):∃vs,p.h a=some (.lst vs)∧Iss X.K p.z vs xs:=by
 obtain⟨v,e,c,vs,e1,h3,h4⟩:=r.val i _ h1
 rw[h2] at e
 cases e
 cases e1
 exact⟨vs,h3,h4⟩
theorem Rep.mono (r:Rep X b τ σ p)(e:Ext p q):Rep X b τ σ q :=
 ⟨r.len,r.ext.trans e,fun i s h=>let ⟨v,h1,h2⟩:=r.val i s h;⟨v,h1,h2.mono e⟩,(fun i xs a h1 h2=>by
  obtain⟨o1,o2,o3⟩:=r.own i xs a h1 h2
  obtain⟨vs,hv,_⟩:=r.own_list h1 h2
  refine⟨o1,o2,?_⟩
  cases z:q.z a with
  |none=>rfl
  |some o =>
   rcases e.new a o z with x|x
   ·rw[o3] at x;cases x
   ·rw[hv] at x;cases x),r.sep,r.top,r.pin⟩
theorem jKk {K:PySem.W.Frag}(e:Ext b p) (f:Fr3 K p q v s):Fr3 K b q v s:=fun xs a h1 h2=>⟨e.hh.free (f xs a h1 h2).1,(f xs a h1 h2).2⟩
theorem jAD {α:Type}{l:List (Option α)}{i j:Nat}{x y:α}(h:(l.set i (some x))[j]? = some (some y)):(j=i∧y=x)∨(j≠i∧l[j]? = some (some y)):=by
 rw[List.getElem?_set] at h
 by_cases hij:i=j
 ·rw[if_pos hij] at h
  split at h
  ·cases h
   exact .inl ⟨hij.symm,rfl⟩
  ·cases h
 ·rw[if_neg hij] at h
  exact .inr ⟨fun z=>hij z.symm,h⟩
theorem Rep.set {i:Nat}(r:Rep X b τ σ p) (e:Ext p q) (h:IsS X.K q v s) (f:Fr3 X.K p q v s) (hr:s.isL=s.own) (hp:jCT X i):Rep X b (τ.set i (some s)) (σ.set i (some v)) q:=by
 have r':=r.mono e
 refine⟨by simp[r.len],r'.ext,fun j s' hj=>?_,fun j xs a hj ha=>?_,fun j k xs s' a hjk hj hk hs ha=>?_,r.top,fun k a hk=>by rw[List.getElem?_set_ne (fun z=>hp k a hk z.symm)];exact r.pin k a hk⟩
 ·rcases jAD hj with⟨rfl,rfl⟩|⟨hn,hj⟩
  ·have hl:j<σ.length:=by
    rw[r.len]
    have:=(List.getElem?_eq_some_iff.mp hj).1
    simpa using this
   exact⟨v,by rw[List.getElem?_set_self hl],h⟩
  ·obtain⟨w,h1,h2⟩:=r'.val j s' hj
   exact⟨w,by rw[List.getElem?_set_ne (fun z=>hn z.symm)];exact h1,h2⟩
 ·rcases jAD hj with⟨rfl,e1⟩|⟨hn,hj⟩
  ·rcases jAD ha with⟨_,e2⟩|⟨hn,_⟩
   ·exact(jKk r.ext f) xs a e1.symm e2.symm
   ·exact absurd rfl hn
  ·rcases jAD ha with⟨e2,_⟩|⟨_,ha⟩
   ·exact absurd e2 hn
   ·exact r'.own j xs a hj ha
 ·
  have fresh:∀(m:Nat)(t:S),τ[m]? = some (some t)→t.isL=true→s.own=true→v=.ref a→σ[m]?≠some (some (.ref a)):=by
   intro m t hm ht ho hv hσ
   obtain⟨w,h1,h2⟩:=r.val m t hm
   rw[hσ] at h1
   cases h1
   cases s with
   |d _=>cases ho
   |r _=>cases ho
   |l ys =>
    obtain⟨f1,f2,_⟩:=f ys a rfl hv
    cases t with
    |d _=>cases ht
    |l zs =>
     obtain⟨c,vs,e1,h3,_⟩:=h2
     cases e1
     rw[f1] at h3
     cases h3
    |r zs =>
     obtain⟨c,vs,e1,h3,_⟩:=h2
     cases e1
     rcases h3 with (h3|⟨o,h3⟩)|⟨o,its,n,h3,_⟩
     ·rw[f1] at h3;cases h3
     ·rw[f1] at h3;cases h3
     ·rw[f2] at h3;cases h3
  intro hσk
  rcases jAD hj with⟨rfl,e1⟩|⟨hn,hj'⟩
  ·rcases jAD ha with⟨_,e2⟩|⟨hn,_⟩
   ·rcases jAD hk with⟨e3,_⟩|⟨_,hk⟩
    ·exact hjk e3.symm
    ·rcases jAD hσk with⟨e4,_⟩|⟨_,hσk⟩
     ·exact hjk e4.symm
     ·exact fresh k s' hk hs (by rw[←e1];rfl) e2.symm hσk
   ·exact absurd rfl hn
  ·rcases jAD ha with⟨e2,_⟩|⟨_,ha'⟩
   ·exact absurd e2 hn
   ·rcases jAD hk with⟨e3,e4⟩|⟨hkn,hk'⟩
    ·rcases jAD hσk with⟨_,e5⟩|⟨hx,_⟩
     ·subst e4
      exact fresh j (.l xs) hj' rfl (by rw[←hr];exact hs) e5.symm ha'
     ·exact absurd e3 hx
    ·rcases jAD hσk with⟨e5,_⟩|⟨_,hσk'⟩
     ·exact absurd e5 hkn
     ·exact r.sep j k xs s' a hjk hj' hk' hs ha' hσk'
theorem Rep.freeze {i:Nat}{xs:List D}(r:Rep X b τ σ p) (h:τ[i]? = some (some s)) (e:s.share=.r xs):Rep X b (τ.set i (some (.r xs))) σ p:=by
 have hs:s.isL=true:=by
  cases s with
  |d _=>cases e
  |l _=>rfl
  |r _=>rfl
 refine⟨by simp[r.len],r.ext,fun j s' hj=>?_,fun j ys a hj ha=>?_,fun j k ys s' a hjk hj hk hs' ha=>?_,r.top,r.pin⟩
 ·rcases jAD hj with⟨rfl,rfl⟩|⟨hn,hj⟩
  ·obtain⟨v,h1,h2⟩:=r.val j s h
   exact⟨v,h1,by rw[←e];exact h2.share⟩
  ·exact r.val j s' hj
 ·rcases jAD hj with⟨rfl,e1⟩|⟨hn,hj⟩
  ·cases e1
  ·exact r.own j ys a hj ha
 ·rcases jAD hj with⟨rfl,e1⟩|⟨hn,hj'⟩
  ·cases e1
  ·rcases jAD hk with⟨rfl,e4⟩|⟨hkn,hk'⟩
   ·exact r.sep j k ys s a hjk hj' h hs ha
   ·exact r.sep j k ys s' a hjk hj' hk' hs' ha
theorem Rep.data {i:Nat}{xs:List D}{h z:Hp}(r:Rep X b τ σ ⟨h,z⟩) (hi:τ[i]? = some (some (.l xs))):∃z',Rep X b (τ.set i (some (.d (.lst xs)))) σ ⟨h,z'⟩:=by
 obtain⟨v,h1,a,vs,rfl,h2,h3⟩:=r.val i _ hi
 obtain⟨o1,o2,o3⟩:=r.own i xs a hi h1
 have zz:jBb z (upd z a (.lst vs)):=jBr o3 _
 refine⟨upd z a (.lst vs),by simp[r.len],r.ext.freeze o1 o3 h2,fun j s' hj=>?_,fun j ys c hj hc=>?_,fun j k ys s' c hjk hj hk hs' hc=>?_,r.top,r.pin⟩
 ·rcases jAD hj with⟨rfl,rfl⟩|⟨hn,hj⟩
  ·have h3':=h3.mono zz
   exact⟨.ref a,h1,Is.lst jAp h3'.1 h3'.2⟩
  ·obtain⟨w,w1,w2⟩:=r.val j s' hj
   refine⟨w,w1,?_⟩
   cases s' with
   |d x=>exact Is.mono zz w2
   |l zs=>obtain⟨c,us,e1,q1,q2⟩:=w2;exact⟨c,us,e1,q1,q2.mono zz⟩
   |r zs=>obtain⟨c,us,e1,q1,q2⟩:=w2;exact⟨c,us,e1,q1,q2.mono zz⟩
 ·rcases jAD hj with⟨rfl,e1⟩|⟨hn,hj'⟩
  ·cases e1
  ·obtain⟨q1,q2,q3⟩:=r.own j ys c hj' hc
   refine⟨q1,q2,?_⟩
   show upd z a (.lst vs) c=none
   have hca:c≠a:=by
    rintro rfl
    exact r.sep j i ys (.l xs) c hn hj' hi rfl hc h1
   rw[jAn hca]
   exact q3
 ·rcases jAD hj with⟨rfl,e1⟩|⟨hn,hj'⟩
  ·cases e1
  ·rcases jAD hk with⟨rfl,e4⟩|⟨hkn,hk'⟩
   ·subst e4;cases hs'
   ·exact r.sep j k ys s' c hjk hj' hk' hs' hc
open Classical in
noncomputable def jIR (τ:Tau)(σ:St)(H:Hp):Hp:=fun b=>if ∃(i:Nat)(xs:List D),τ[i]? = some (some (S.l xs))∧σ[i]? = some (some (V.ref b)) then none else H b
theorem jOj {H:Hp}:jBb (jIR τ σ H) H:=fun b o h=>by
 unfold jIR at h
 split at h
 ·cases h
 ·exact h
theorem jFQ {H:Hp}{c:Addr}(h:∀(i:Nat)(xs:List D),τ[i]? = some (some (S.l xs))→σ[i]?≠some (some (V.ref c))):jIR τ σ H c=H c:=by
 unfold jIR
 rw[if_neg]
 rintro⟨i,xs,h1,h2⟩
 exact h i xs h1 h2
theorem Rep.baseB (r:Rep X b τ σ p):jBb b.h (jIR τ σ p.h):=fun c o h=>by
 rw[jFQ]
 ·exact r.ext.hh c o h
 ·intro i xs h1 h2
  have:=(r.own i xs c h1 h2).1
  rw[h] at this
  cases this
theorem Rep.inB (r:Rep X b τ σ p):Rep X ⟨jIR τ σ p.h,p.z⟩ τ σ p :=
 ⟨r.len,⟨jOj,jBb.refl _,r.ext.sub,fun _ _ e=>.inl e⟩,r.val,fun i xs a h1 h2=>⟨by show jIR τ σ p.h a=none;unfold jIR;rw[if_pos ⟨i,xs,h1,h2⟩],(r.own i xs a h1 h2).2⟩,r.sep,fun h=>(r.top h).trans r.baseB,r.pin⟩
structure LeB (X:Cx)(b b':HZ):Prop where
 hh:jBb b.h b'.h
 zz:jBb b.z b'.z
 new:∀a o,b'.z a=some o→b.z a=some o∨b.h a=none
 top:X.lent=none→jBb X.H₀ b.h
theorem LeB.ext (e:LeB X b b')(f:Ext b' p):Ext b p:=⟨e.hh.trans f.hh,e.zz.trans f.zz,f.sub,fun a o h=>by
 rcases f.new a o h with x|x
 ·exact e.new a o x
 ·exact .inr (e.hh.free x)⟩
theorem Rep.outB (e:LeB X b b')(r:Rep X b' τ σ p):Rep X b τ σ p :=
 ⟨r.len,e.ext r.ext,r.val,fun i xs a h1 h2=>⟨e.hh.free (r.own i xs a h1 h2).1,(r.own i xs a h1 h2).2⟩,r.sep,e.top,r.pin⟩
theorem Rep.leB (r:Rep X b τ σ p):LeB X b ⟨jIR τ σ p.h,p.z⟩:=⟨r.baseB,r.ext.zz,r.ext.new,r.top⟩
theorem Rep.leR (r:Rep X b τ σ p):LeB X b b:=⟨jBb.refl _,jBb.refl _,fun _ _ e=>.inl e,r.top⟩
end
abbrev TE3:=Tau→(S→Prop)→Prop
abbrev TT3:=Tau→(Bool→Prop)→Prop
abbrev TA3:=Tau→(List S→Prop)→Prop
structure jHR where
 nx:Tau→Prop
 rt:S→Prop
 bk:Tau→Prop:=fun _=>False
 ct:Tau→Prop:=fun _=>False
abbrev TS3:=jHR→Tau→Prop
def Args (K:PySem.W.Frag)(p:HZ)(vs:List V)(ss:List S):Prop :=
 vs.length=ss.length∧∀(i:Nat)(v:V)(s:S),vs[i]? = some v→ss[i]? = some s→IsS K p v s∧s.own=false
def FE (X:Cx)(t:TE3):TE:=fun σ H Q=>∃B z τ R,Rep X B τ σ ⟨H,z⟩∧t τ R∧∀s v q,Ext ⟨H,z⟩ q→IsS X.K q v s→Fr3 X.K ⟨H,z⟩ q v s→R s→Q v q.h
def FT (X:Cx)(t:TT3):TT:=fun σ H Q=>∃B z τ R,Rep X B τ σ ⟨H,z⟩∧t τ R∧∀c q,Ext ⟨H,z⟩ q→R c→Q c q.h
def FA (X:Cx)(t:TA3):TA:=fun σ H Q=>∃B z τ R,Rep X B τ σ ⟨H,z⟩∧t τ R∧∀ss vs q,Ext ⟨H,z⟩ q→Args X.K q vs ss→R ss→Q vs q.h
structure jPE (X:Cx)(B:HZ)(D3:jHR)(D2:jJe):Prop where
 nx:∀τ σ p,Rep X B τ σ p→D3.nx τ→D2.nx σ p.h
 bk:∀τ σ p,Rep X B τ σ p→D3.bk τ→D2.bk σ p.h
 ct:∀τ σ p,Rep X B τ σ p→D3.ct τ→D2.ct σ p.h
 rt:∀s v q,Ext B q→IsS X.K q v s→Fr3 X.K B q v s→D3.rt s→D2.rt v q.h
def FS (X:Cx)(t:TS3):TS:=fun D2 σ H=>∃B z τ D3,Rep X B τ σ ⟨H,z⟩∧t D3 τ∧jPE X B D3 D2
structure PE3 (X:Cx)(e:Expr)(t:TE3):Prop where
 out:PE X e (FE X t)
structure PT3 (X:Cx)(e:Expr)(t:TT3):Prop where
 out:PT X e (FT X t)
structure PW3 (X:Cx)(e:Expr)(t:TT3):Prop where
 out:PW X e (FT X t)
structure PA3 (X:Cx)(es:List Expr)(t:TA3):Prop where
 out:PA X es (FA X t)
structure PS3 (X:Cx)(st:Stmt)(t:TS3):Prop where
 out:PS X st (FS X t)
structure jDx (X:Cx)(st:List Stmt)(t:TS3):Prop where
 out:PSs X st (FS X t)
theorem PW3.pt {X:Cx}{e:Expr}{t:TT3}(h:PW3 X e t):PT3 X e t:=⟨h.out _⟩
section
variable {X:Cx}{e a b:Expr}{ta tb:TE3}{pos:Pos}
theorem jBe {t t':TE}(h:PE X e t) (f:∀σ H Q,t' σ H Q→t σ H Q):PE X e t':=fun pins s σ H Q I q=>h pins s σ H Q I (f σ H Q q)
theorem jJI {t t':TT}(h:PT X e t) (f:∀σ H Q,t' σ H Q→t σ H Q):PT X e t':=fun pins s σ H Q I q=>h pins s σ H Q I (f σ H Q q)
theorem jND {t t':TT}(h:PW X e t) (f:∀σ H Q,t' σ H Q→t σ H Q):PW X e t':=fun wh pins s σ H Q I q=>h wh pins s σ H Q I (f σ H Q q)
theorem jNH {es:List Expr}{t t':TA}(h:PA X es t) (f:∀σ H Q,t' σ H Q→t σ H Q):PA X es t':=fun pos pins s σ H Q I q=>h pos pins s σ H Q I (f σ H Q q)
theorem jBG {st:Stmt}{t t':TS}(h:PS X st t) (f:∀D σ H,t' D σ H→t D σ H):PS X st t':=fun pins s σ H D I q=>h pins s σ H D I (f D σ H q)
theorem jFZ {st:List Stmt}{t t':TS}(h:PSs X st t) (f:∀D σ H,t' D σ H→t D σ H):PSs X st t':=fun pins s σ H D I q=>h pins s σ H D I (f D σ H q)
def jR9 (i:Nat):TE3:=fun τ R=>match τ[i]? with
 |some (some s)=>R s.share
 |_=>False
def vC (d:D):TE3:=fun _ R=>R (.d d)
theorem jMK {K:PySem.W.Frag}{p q:HZ}{v:V}{s:S}:Fr3 K p q v s.share:=by
 intro xs a h
 cases s<;>cases h
theorem jEt {K:PySem.W.Frag}{p q:HZ}{v:V}{d:D}:Fr3 K p q v (.d d):=by
 intro xs a h
 cases h
theorem jRE {i:Nat}{x:Str}(h:PE X (.Name x pos) (jJS i)):PE3 X (.Name x pos) (jR9 i):=by
 refine⟨?_⟩
 refine jBe h fun σ H Q hh9=>?_
 obtain⟨B,z,τ,R,r,ht,q⟩:=hh9
 unfold jR9 at ht
 split at ht
 ·rename_i s hs
  obtain⟨v,h1,h2⟩:=r.val i s hs
  exact⟨v,h1,q _ v ⟨H,z⟩ (Ext.refl r.ext.sub) h2.share jMK ht⟩
 ·exact ht.elim
theorem jHF {v:V}{d:D}(h:PE X e (tC v)) (hd:∀K H,Is K H v d):PE3 X e (vC d):=⟨jBe h fun σ H Q hh=>by obtain⟨B,z,τ,R,r,ht,q⟩:=hh;exact q (.d d) v ⟨H,z⟩ (Ext.refl r.ext.sub) (hd _ _) jEt ht⟩
theorem jAa {i j}:PE3 X (.Constant (.int i) j pos) (vC (.int i)):=jHF jQP fun _ _=>.int i
theorem jKv {i j}:PE3 X (.Constant (.bool i) j pos) (vC (.bl i)):=jHF jRw fun _ _=>.bl i
theorem jL5 {j}:PE3 X (.Constant .none j pos) (vC .non):=jHF jQr fun _ _=>.non
theorem jIw {x j}:PE3 X (.Constant (.str x) j pos) (vC (.str x)):=jHF jPF fun _ _=>.str x
abbrev R3:=D→D→(D→Prop)→Prop
def lft (K:PySem.W.Frag)(r3:R3):R2:=fun x y H Q=>∃z dx dy R,jBb z H∧Is K z x dx∧Is K z y dy∧r3 dx dy R∧∀d v q,Ext ⟨H,z⟩ q→Is K q.z v d→R d→Q v q.h
def jGm (X:Cx)(f:Value→Value→Sem Value)(r3:R3):Prop:=OpR X f (lft X.K r3)
theorem jDJ {f:Value→Value→Sem Value}{r r':R2}(h:OpR X f r) (i:∀x y H Q,r' x y H Q→r x y H Q):OpR X f r':=fun pins s σ H x y v u Q I rx ry q=>h pins s σ H x y v u Q I rx ry (i x y H Q q)
def oI (C:Int→Int→Prop)(g:Int→Int→Int):R3:=fun dx dy R=>match dx,dy with
 |.int i,.int j=>C i j∧R (.int (g i j))
 |_,_=>False
def oI0 (g:Int→Int→Int):R3:=fun dx dy R=>match dx,dy with
 |.int i,.int j=>R (.int (g i j))
 |_,_=>False
def oB0 (g:Int→Int→Bool):R3:=fun dx dy R=>match dx,dy with
 |.int i,.int j=>R (.bl (g i j))
 |_,_=>False
theorem jMG {f:Value→Value→Sem Value}{C:Int→Int→Prop}{g:Int→Int→Int}(h:OpR X f (rI C fun i j=>.int (g i j))):jGm X f (oI C g) :=
 jDJ h fun x y H Q hh=>by
  obtain⟨z,dx,dy,R,hz,hx,hy,h3,q⟩:=hh
  unfold oI at h3
  split at h3
  ·rename_i i j
   exact⟨i,j,hx.int_inv,hy.int_inv,h3.1,q _ _ ⟨H,z⟩ (Ext.refl hz) (.int _) h3.2⟩
  ·exact h3.elim
theorem jNQ {f:Value→Value→Sem Value}{g:Int→Int→Int}(h:OpR X f (rI0 fun i j=>.int (g i j))):jGm X f (oI0 g) :=
 jDJ h fun x y H Q hh=>by
  obtain⟨z,dx,dy,R,hz,hx,hy,h3,q⟩:=hh
  unfold oI0 at h3
  split at h3
  ·rename_i i j
   exact⟨i,j,hx.int_inv,hy.int_inv,q _ _ ⟨H,z⟩ (Ext.refl hz) (.int _) h3⟩
  ·exact h3.elim
theorem jQ0 {f:Value→Value→Sem Value}{g:Int→Int→Bool}(h:OpR X f (rI0 fun i j=>.bl (g i j))):jGm X f (oB0 g) :=
 jDJ h fun x y H Q hh=>by
  obtain⟨z,dx,dy,R,hz,hx,hy,h3,q⟩:=hh
  unfold oB0 at h3
  split at h3
  ·rename_i i j
   exact⟨i,j,hx.int_inv,hy.int_inv,q _ _ ⟨H,z⟩ (Ext.refl hz) (.bl _) h3⟩
  ·exact h3.elim
theorem jOE:OpR X (binaryOp .Mult) (rI IntMulOk fun i j=>.int (i*j)):=opI fun _ _ _ _ _ _ _ hc q=>mul_int q hc
def CDv (i j:Int):Prop:=j≠0∧Builtin.divisionGoesByPylong i j=false
theorem jMl:OpR X (binaryOp .FloorDiv) (rI CDv fun i j=>.int (i.fdiv j)):=opI fun _ _ _ _ _ _ _ hc q=>floordiv_int hc.1 q (.inl hc.2)
def jS7:R3:=fun dx dy R=>match dx,dy with
 |.int i,.int j=>R (.int (i+j))
 |_,_=>False
theorem jAR:jGm X (binaryOp .Add) jS7:=jNQ jNE
def jTs:R3:=fun dx dy R=>match dx,dy with
 |.int i,.int j=>R (.int (i-j))
 |_,_=>False
theorem jC0:jGm X (binaryOp .Sub) jTs:=jNQ jQy
def jTn:R3:=fun dx dy R=>match dx,dy with
 |.int i,.int j=>IntMulOk i j∧R (.int (i*j))
 |_,_=>False
theorem jAv:jGm X (binaryOp .Mult) jTn:=jMG jOE
def jRr:R3:=fun dx dy R=>match dx,dy with
 |.int i,.int j=>CDv i j∧R (.int (i.fdiv j))
 |_,_=>False
theorem jAY:jGm X (binaryOp .FloorDiv) jRr:=jMG jMl
def jTf:R3:=fun dx dy R=>match dx,dy with
 |.int i,.int j=>j≠0∧R (.int (i.fmod j))
 |_,_=>False
theorem jAV:jGm X (binaryOp .Mod) jTf:=jMG jOT
def jTu:R3:=fun dx dy R=>match dx,dy with
 |.int i,.int j=>jSr i j∧R (.int (i^j.toNat))
 |_,_=>False
theorem jHQ:jGm X (binaryOp .Pow) jTu:=jMG jQZ
def oLt:R3:=fun dx dy R=>match dx,dy with
 |.int i,.int j=>R (.bl (decide (i<j)))
 |_,_=>False
theorem jHL:jGm X (compareOp .Lt) oLt:=jQ0 jSc
def oGt:R3:=fun dx dy R=>match dx,dy with
 |.int i,.int j=>R (.bl (decide (j<i)))
 |_,_=>False
theorem jQc:jGm X (compareOp .Gt) oGt:=jQ0 jSh
def oEq:R3:=fun dx dy R=>match dx,dy with
 |.int i,.int j=>R (.bl (decide (i=j)))
 |.bl i,.bl j=>R (.bl (decide (i=j)))
 |.str i,.str j=>R (.bl (decide (i=j)))
 |_,_=>False
def oNe:R3:=fun dx dy R=>match dx,dy with
 |.int i,.int j=>R (.bl (!decide (i=j)))
 |.bl i,.bl j=>R (.bl (!decide (i=j)))
 |.str i,.str j=>R (.bl (!decide (i=j)))
 |_,_=>False
theorem jKe {α β:Type}{i j:α}{f:α→β} [DecidableEq α] [DecidableEq β] (h:∀a b,f a=f b→a=b):decide (f i=f j)=decide (i=j):=by
 by_cases e:i=j
 ·rw[decide_eq_true e,decide_eq_true (by rw[e])]
 ·rw[decide_eq_false e,decide_eq_false fun z=>e (h _ _ z)]
theorem jHn:jGm X (compareOp .Eq) oEq :=
 jDJ jSg fun x y H Q hh=>by
  obtain⟨z,dx,dy,R,hz,hx,hy,h3,q⟩:=hh
  unfold oEq at h3
  split at h3
  ·rename_i i j
   cases hx.int_inv
   cases hy.int_inv
   exact⟨rfl,by rw[jKe (f:=V.int) (fun _ _ z=>by cases z;rfl)];exact q _ _ ⟨H,z⟩ (Ext.refl hz) (.bl _) h3⟩
  ·rename_i i j
   cases hx.bl_inv
   cases hy.bl_inv
   exact⟨rfl,by rw[jKe (f:=V.bl) (fun _ _ z=>by cases z;rfl)];exact q _ _ ⟨H,z⟩ (Ext.refl hz) (.bl _) h3⟩
  ·rename_i i j
   cases hx.str_inv
   cases hy.str_inv
   exact⟨rfl,by rw[jKe (f:=V.str) (fun _ _ z=>by cases z;rfl)];exact q _ _ ⟨H,z⟩ (Ext.refl hz) (.bl _) h3⟩
  ·exact h3.elim
theorem jQC:jGm X (compareOp .NotEq) oNe :=
 jDJ jRH fun x y H Q hh=>by
  obtain⟨z,dx,dy,R,hz,hx,hy,h3,q⟩:=hh
  unfold oNe at h3
  split at h3
  ·rename_i i j
   cases hx.int_inv
   cases hy.int_inv
   exact⟨rfl,by rw[jKe (f:=V.int) (fun _ _ z=>by cases z;rfl)];exact q _ _ ⟨H,z⟩ (Ext.refl hz) (.bl _) h3⟩
  ·rename_i i j
   cases hx.bl_inv
   cases hy.bl_inv
   exact⟨rfl,by rw[jKe (f:=V.bl) (fun _ _ z=>by cases z;rfl)];exact q _ _ ⟨H,z⟩ (Ext.refl hz) (.bl _) h3⟩
  ·rename_i i j
   cases hx.str_inv
   cases hy.str_inv
   exact⟨rfl,by rw[jKe (f:=V.str) (fun _ _ z=>by cases z;rfl)];exact q _ _ ⟨H,z⟩ (Ext.refl hz) (.bl _) h3⟩
  ·exact h3.elim
def dd (x:S)(k:D→Prop):Prop:=match x with
 |.d d=>k d
 |_=>False
def vOp (r3:R3)(ta tb:TE3):TE3:=fun τ R=>ta τ fun x=>tb τ fun y=>dd x fun dx=>dd y fun dy=>r3 dx dy fun d=>R (.d d)
theorem jEe {x:S}{k:D→Prop}(h:dd x k):∃d,x=.d d∧k d:=by
 cases x with
 |d d=>exact⟨d,rfl,h⟩
 |l _=>exact h.elim
 |r _=>exact h.elim
theorem two {r3:R3}{σ:St}{H:Hp}{Q:VK}(h:FE X (vOp r3 ta tb) σ H Q):tOp (lft X.K r3) (FE X ta) (FE X tb) σ H Q:=by
 obtain⟨B,z,τ,R,r,ht,q⟩:=h
 refine⟨B,_,τ,_,r,ht,fun x v H1 e1 i1 f1 h1=>?_⟩
 refine⟨B,_,τ,_,r.mono e1,h1,fun y u H2 e2 i2 f2 h2=>?_⟩
 obtain⟨dx,rfl,h4⟩:=jEe h2
 obtain⟨dy,rfl,h5⟩:=jEe h4
 exact⟨H2.z,dx,dy,_,e2.sub,Is.mono e2.zz i1,i2,h5,fun d w H3 e3 i3 h3=>q (.d d) w H3 (e1.trans (e2.trans e3)) i3 jEt h3⟩
theorem jAi {op:Operator}{r3:R3}(ho:jGm X (binaryOp op) r3) (ha:PE3 X a ta) (hb:PE3 X b tb):PE3 X (.BinOp a op b pos) (vOp r3 ta tb):=⟨jBe (jPe ho ha.out hb.out) fun _ _ _ h=>two h⟩
theorem jLj {op:CmpOp}{r3:R3}(ho:jGm X (compareOp op) r3) (ha:PE3 X a ta) (hb:PE3 X b tb) (hm:behindInMarks op b=false):PE3 X (.Compare a [op] [b] pos) (vOp r3 ta tb):=⟨jBe (jOr ho ha.out hb.out hm) fun _ _ _ h=>two h⟩
def bb (x:S)(k:Bool→Prop):Prop:=match x with
 |.d (.bl c)=>k c
 |_=>False
theorem jJO {x:S}{k:Bool→Prop}(h:bb x k):∃c,x=.d (.bl c)∧k c:=by
 unfold bb at h
 split at h
 ·exact⟨_,rfl,h⟩
 ·exact h.elim
def jOC (t:TE3):TT3:=fun τ R=>t τ fun x=>bb x R
theorem jR1 {op:CmpOp}{r3:R3}(ho:jGm X (compareOp op) r3) (ha:PE3 X a ta) (hb:PE3 X b tb) (hm:behindInMarks op b=false):PT3 X (.Compare a [op] [b] pos) (jOC (vOp r3 ta tb)):=⟨jJI (jOc ho ha.out hb.out hm) fun σ H Q hh=>by obtain⟨B,z,τ,R,r,ht,q⟩:=hh;exact two ⟨B,_,τ,_,r,ht,fun s v H' e i f h=>by
 obtain⟨c,rfl,h⟩:=jJO h
 cases Is.bl_inv i
 exact⟨c,rfl,q c H' e h⟩⟩⟩
theorem jBk {t:TE3}(h:PE3 X e t) (he:∀whole,isTrue e X.env whole=(do let v ←whole;standAt e.pos;holding [v] (truthy v)):=by intro _;rfl):PT3 X e (jOC t):=⟨jJI (jQ6 h.out he) fun σ H Q hh=>by obtain⟨B,z,τ,R,r,ht,q⟩:=hh;exact⟨B,_,τ,_,r,ht,fun s v H' e i f hz=>by
 obtain⟨c,rfl,hz⟩:=jJO hz
 cases Is.bl_inv i
 exact⟨c,rfl,q c H' e hz⟩⟩⟩
def jTp (ta:TE3):TE3:=fun τ R=>ta τ fun x=>match x with
 |.d (.int i)=>R (.d (.int (-i)))
 |_=>False
theorem jEG (ha:PE3 X a ta):PE3 X (.UnaryOp .USub a pos) (jTp ta):=⟨jBe (jR2 jQL ha.out) fun σ H Q hh=>by obtain⟨B,z,τ,R,r,ht,q⟩:=hh;exact⟨B,_,τ,_,r,ht,fun s v H' e i f h=>by
 split at h
 ·rename_i i'
  exact⟨i',Is.int_inv i,q (.d _) _ H' e (Is.int _) jEt h⟩
 ·exact h.elim⟩⟩
variable {tA tB':TT3}{rest:List Expr}
def jTg (t u:TT3):TT3:=fun τ R=>t τ fun c=>if c=true then u τ R else R false
def wOr (t u:TT3):TT3:=fun τ R=>t τ fun c=>if c=true then R true else u τ R
def jTi (t:TT3):TT3:=fun τ R=>t τ fun c=>R (!c)
theorem jGW (ha:PT3 X a tA):PW3 X (.BoolOp .And [a] pos) tA:=⟨jPs ha.out⟩
theorem jHz (ha:PT3 X a tA):PW3 X (.BoolOp .Or [a] pos) tA:=⟨jP4 ha.out⟩
theorem jJ1 (ha:PT3 X a tA)(hb:PW3 X (.BoolOp .And (b::rest) pos) tB'):PW3 X (.BoolOp .And (a::b::rest) pos) (jTg tA tB'):=⟨jND (jQm ha.out hb.out) fun σ H Q hh=>by obtain⟨B,z,τ,R,r,ht,q⟩:=hh;exact⟨B,_,τ,_,r,ht,fun c H1 e h=>by
 cases c with
 |true=>rw[if_pos rfl] at h ⊢;exact⟨B,_,τ,R,r.mono e,h,fun d H2 e2 h2=>q d H2 (e.trans e2) h2⟩
 |false=>rw[if_neg Bool.false_ne_true] at h ⊢;exact q _ _ e h⟩⟩
theorem jIS (ha:PT3 X a tA)(hb:PW3 X (.BoolOp .Or (b::rest) pos) tB'):PW3 X (.BoolOp .Or (a::b::rest) pos) (wOr tA tB'):=⟨jND (jRL ha.out hb.out) fun σ H Q hh=>by obtain⟨B,z,τ,R,r,ht,q⟩:=hh;exact⟨B,_,τ,_,r,ht,fun c H1 e h=>by
 cases c with
 |false=>rw[if_neg Bool.false_ne_true] at h ⊢;exact⟨B,_,τ,R,r.mono e,h,fun d H2 e2 h2=>q d H2 (e.trans e2) h2⟩
 |true=>rw[if_pos rfl] at h ⊢;exact q _ _ e h⟩⟩
theorem w_not (ha:PT3 X a tA):PT3 X (.UnaryOp .Not a pos) (jTi tA):=⟨jJI (jQb ha.out) fun σ H Q hh=>by obtain⟨B,z,τ,R,r,ht,q⟩:=hh;exact⟨B,_,τ,_,r,ht,fun c H1 e h=>q _ _ e h⟩⟩
def jSU (ta tb:TE3):TE3:=fun τ R=>ta τ fun x=>bb x fun c=>if c=true then tb τ R else R (.d (.bl false))
def jSQ (ta:TE3):TE3:=fun τ R=>ta τ fun x=>bb x fun c=>R (.d (.bl (!c)))
theorem jOv {op}{t:TE3}(h:PE3 X a t):PE3 X (.BoolOp op [a] pos) t:=⟨jQa h.out⟩
theorem jOn (ha:PE3 X a ta)(hb:PE3 X (.BoolOp .And (b::rest) pos) tb):PE3 X (.BoolOp .And (a::b::rest) pos) (jSU ta tb):=⟨jBe (jPY ha.out hb.out) fun σ H Q hh=>by obtain⟨B,z,τ,R,r,ht,q⟩:=hh;exact⟨B,_,τ,_,r,ht,fun s v H1 e i f h=>by
 obtain⟨c,rfl,h'⟩:=jJO h
 cases Is.bl_inv i
 refine⟨c,rfl,?_⟩
 cases c with
 |true=>rw[if_pos rfl] at h' ⊢;exact⟨B,_,τ,R,r.mono e,h',fun s2 v2 H2 e2 i2 f2 h2=>q _ _ _ (e.trans e2) i2 (jKk e f2) h2⟩
 |false=>rw[if_neg Bool.false_ne_true] at h' ⊢;exact q (.d _) _ _ e (Is.bl _) jEt h'⟩⟩
theorem jMW (ha:PE3 X a ta):PE3 X (.UnaryOp .Not a pos) (jSQ ta):=⟨jBe (jP5 ha.out) fun σ H Q hh=>by obtain⟨B,z,τ,R,r,ht,q⟩:=hh;exact⟨B,_,τ,_,r,ht,fun s v H1 e i f h=>by
 obtain⟨c,rfl,h'⟩:=jJO h
 cases Is.bl_inv i
 exact⟨c,rfl,q (.d _) _ _ e (Is.bl _) jEt h'⟩⟩⟩
def items:S→Option (List D)
 |.d (.tup xs)=>some xs
 |.d (.lst xs)=>some xs
 |.l xs=>some xs
 |.r xs=>some xs
 |_=>none
def vIx (ta tb:TE3):TE3:=fun τ R=>ta τ fun x=>tb τ fun y=>match items x,y with
 |some xs,.d (.int i)=>match atI xs i with
  |some d=>R (.d d)
  |none=>False
 |_,_=>False
theorem jHy {K:PySem.W.Frag}{H:Hp}{vs:List V}{xs:List D}{i:Int}{d:D}(h:Iss K H vs xs) (e:atI xs i=some d):∃v,atI vs i=some v∧Is K H v d:=by
 unfold atI at e ⊢
 rw[h.1]
 cases q:ixN xs.length i with
 |none=>rw[q] at e;cases e
 |some j =>
  rw[q] at e
  have e':xs[j]? = some d:=e
  have hj:=(List.getElem?_eq_some_iff.mp e').1
  have hl:j<vs.length:=by rw[h.1];exact hj
  have hv:vs[j]? = some vs[j]:=List.getElem?_eq_getElem hl
  exact⟨vs[j],hv,h.2 j _ _ hv e'⟩
theorem jAd (ha:PE3 X a ta)(hb:PE3 X b tb)(hs:jKB b:=by exact fun _ _=>rfl):PE3 X (.Subscript a b pos) (vIx ta tb):=⟨jBe (jSa (jPp.or jQT) ha.out hb.out hs) fun σ H Q hh=>by
 obtain⟨B,z,τ,R,r,ht,q⟩:=hh
 refine⟨B,_,τ,_,r,ht,fun x v H1 e1 i1 f1 h1=>?_⟩
 refine⟨B,_,τ,_,r.mono e1,h1,fun y u H2 e2 i2 f2 h2=>?_⟩
 split at h2
 ·rename_i xs i hx
  split at h2
  ·rename_i d hd
   cases Is.int_inv i2
   have i1':=IsS.mono e2 i1
   cases x with
   |d z =>
    cases z with
    |tup zs =>
     cases hx
     obtain⟨p,vs,rfl,h3,h4⟩:=Is.tup_inv i1'
     obtain⟨w,hw,iw⟩:=jHy h4 hd
     exact .inr ⟨p,vs,i,w,rfl,rfl,SqT.same e2.sub h3,hw,q (.d _) _ _ (e1.trans e2) iw jEt h2⟩
    |lst zs =>
     cases hx
     obtain⟨p,vs,rfl,h3,h4⟩:=Is.lst_inv i1'
     obtain⟨w,hw,iw⟩:=jHy h4 hd
     exact .inl ⟨p,vs,i,w,rfl,rfl,e2.sub.seq h3,hw,q (.d _) _ _ (e1.trans e2) iw jEt h2⟩
    |_=>cases hx
   |l zs =>
    cases hx
    obtain⟨p,vs,rfl,h3,h4⟩:=i1'
    obtain⟨w,hw,iw⟩:=jHy h4 hd
    exact .inl ⟨p,vs,i,w,rfl,rfl,SqL.of h3,hw,q (.d _) _ _ (e1.trans e2) iw jEt h2⟩
   |r zs =>
    cases hx
    obtain⟨p,vs,rfl,h3,h4⟩:=i1'
    obtain⟨w,hw,iw⟩:=jHy h4 hd
    exact .inl ⟨p,vs,i,w,rfl,rfl,h3,hw,q (.d _) _ _ (e1.trans e2) iw jEt h2⟩
  ·exact h2.elim
 ·exact h2.elim⟩
variable {es:List Expr}{tr:TA3}{te:TE3}
def jRc:TA3:=fun _ R=>R []
def S.arg:S→S
 |.l xs=>.d (.lst xs)
 |s=>s
def jK9 (ta:TE3)(tr:TA3):TA3:=fun τ R=>ta τ fun x=>tr τ fun xs=>R (x.arg::xs)
theorem jO4:PA3 X [] jRc:=⟨jNH jB9 fun σ H Q hh=>by obtain⟨B,z,τ,R,r,ht,q⟩:=hh;exact q [] [] ⟨H,z⟩ (Ext.refl r.ext.sub) ⟨rfl,fun i v s h=>by simp at h⟩ ht⟩
theorem jLf (s:S):s.arg.own=false:=by cases s<;>rfl
theorem jDE {K:PySem.W.Frag}{p q:HZ}{v:V}{s:S}(e:Ext p q) (i:IsS K q v s) (f:Fr3 K p q v s):∃z',Ext p ⟨q.h,z'⟩∧IsS K ⟨q.h,z'⟩ v s.arg:=by
 cases s with
 |d x=>exact⟨q.z,e,i⟩
 |r xs=>exact⟨q.z,e,i⟩
 |l xs =>
  obtain⟨a,vs,rfl,h1,h2⟩:=i
  obtain⟨f1,f2,f3⟩:=f xs a rfl rfl
  have h3:=h2.mono (jBr f3 (.lst vs))
  exact⟨upd q.z a (.lst vs),e.freeze f1 f3 h1,Is.lst jAp h3.1 h3.2⟩
theorem jAO (ha:PE3 X e te)(hr:PA3 X es tr)(hs:starEach (e::es) X.env=(false,eval e X.env)::starEach es X.env:=by exact jBR rfl):PA3 X (e::es) (jK9 te tr) :=
 ⟨jNH (jA2 ha.out hr.out hs) fun σ H Q hh=>by
  obtain⟨B,z,τ,R,r,ht,q⟩:=hh
  refine⟨B,_,τ,_,r,ht,fun x v H1 e1 i1 f1 h1=>?_⟩
  obtain⟨z1,e1',i1'⟩:=jDE e1 i1 f1
  refine⟨B,z1,τ,_,r.mono e1',h1,fun ss vs H2 e2 i2 h2=>?_⟩
  refine q _ _ _ (e1'.trans e2) ⟨by simp[i2.1],fun i w s hw hs=>?_⟩ h2
  cases i with
  |zero =>
   simp at hw hs
   subst hw;subst hs
   exact⟨IsS.mono e2 i1',jLf x⟩
  |succ i=>exact i2.2 i w s (by simpa using hw) (by simpa using hs)⟩
def jN4:List S→Option (List D)
 |[]=>some []
 |.d x::r=>(jN4 r).map (x :: ·)
 |_::_=>none
theorem jFO:∀{ss:List S}{ds:List D},jN4 ss=some ds→ss=ds.map S.d
 |[],ds,h=>by cases h;rfl
 |.d x::r,ds,h=>by
  unfold jN4 at h
  cases q:jN4 r with
  |none=>rw[q] at h;cases h
  |some ys =>
   rw[q] at h
   cases h
   rw[jFO q]
   rfl
 |.l _::_,_,h=>by cases h
 |.r _::_,_,h=>by cases h
theorem jHe {K:PySem.W.Frag}{p:HZ}{vs:List V}{ds:List D}(h:Args K p vs (ds.map S.d)):Iss K p.z vs ds:=by
 refine⟨by simpa using h.1,fun i v x h1 h2=>?_⟩
 exact(h.2 i v (.d x) h1 (by rw[List.getElem?_map,h2];rfl)).1
def jTw (t:TA3):TE3:=fun τ R=>t τ fun ss=>match jN4 ss with
 |some ds=>ds.length≤1000∧R (.d (.tup ds))
 |none=>False
theorem jNU {n:Nat}(h:n≤1000):n≤sizeLine:=Nat.le_of_lt (jKW h)
theorem jA8 {x1}(h:PA3 X es tr):PE3 X (.Tuple es x1 pos) (jTw tr) :=
 ⟨jBe (jQj h.out) fun σ H Q hh=>by obtain⟨B,z,τ,R,r,ht,q⟩:=hh;exact⟨B,_,τ,_,r,ht,fun ss vs H1 e1 i1 h1=>by
  try dsimp only at h1
  split at h1
  ·rename_i ds hd
   rw[jFO hd] at i1
   have j:=jHe i1
   refine⟨by rw[j.1];exact jNU h1.1,fun p hp=>?_⟩
   have el:=Ext.lay (o:=.tup vs) e1.sub hp
   have j':=j.mono (jBr (e1.sub.free hp) (.tup vs))
   exact q (.d _) _ _ (e1.trans el) (Is.tup (SqT.of jAp) j'.1 j'.2) jEt h1.2
  ·exact h1.elim⟩⟩
theorem jOk {t:TA}(h:PA X es t):PE X (.List es pos) (fun σ H Q=>t σ H fun xs H1=>xs.length≤sizeLine∧∀p,H1 p=none→X.K.lookup p=none→Q (.ref p) (upd H1 p (.lst xs))):=by
 intro pins s σ H Q I hq
 refine wpAny_List_spliced (thn (h pos pins s σ H _ I hq) fun us s1 ⟨xs,H1,I1,r,z,q⟩=>⟨by rw[←r.length];exact z,?_⟩)
 have hf:H1 s1.heap.objs.size=none:=I1.hok.fresh (Nat.le_refl _)
 have hk:X.K.lookup s1.heap.objs.size=none:=by
  cases e:X.K.lookup s1.heap.objs.size with
  |none=>rfl
  |some o=>exact absurd (Heap.lt_size (I1.kIn _ _ e)) (Nat.lt_irrefl _)
 refine⟨.ref s1.heap.objs.size,upd H1 s1.heap.objs.size (.lst xs),I1.laid (t':=s1.toks) (fun b u e=>Heap.get?_push_of_some _ e) (Nat.le_refl _) ?_,rfl,q _ hf hk⟩
 exact⟨z,us,0,r,Heap.get?_push_size _ rfl⟩
def jS8 (t:TA3):TE3:=fun τ R=>t τ fun ss=>match jN4 ss with
 |some ds=>ds.length≤1000∧R (.l ds)
 |none=>False
theorem jGh (h:PA3 X es tr):PE3 X (.List es pos) (jS8 tr) :=
 ⟨jBe (jOk h.out) fun σ H Q hh=>by obtain⟨B,z,τ,R,r,ht,q⟩:=hh;exact⟨B,_,τ,_,r,ht,fun ss vs H1 e1 i1 h1=>by
  try dsimp only at h1
  split at h1
  ·rename_i ds hd
   rw[jFO hd] at i1
   have j:=jHe i1
   refine⟨by rw[j.1];exact jNU h1.1,fun p hp hk=>q (.l ds) _ ⟨_,H1.z⟩ (e1.trans (Ext.own e1.sub hp _)) ⟨p,vs,rfl,jAp,j⟩ (fun xs a _ h2=>?_) h1.2⟩
   cases h2
   exact⟨e1.hh.free hp,hk,e1.sub.free hp⟩
  ·exact h1.elim⟩⟩
def vCB (r:List S→(S→Prop)→Prop)(t:TA3):TE3:=fun τ R=>t τ fun ss=>r ss R
def jH5 (X:Cx)(f:Value)(r3:List S→(S→Prop)→Prop):Prop :=
 jFa X f (fun xs H Q=>∃z ss R,jBb z H∧Args X.K ⟨H,z⟩ xs ss∧r3 ss R∧∀s v q,Ext ⟨H,z⟩ q→IsS X.K q v s→Fr3 X.K ⟨H,z⟩ q v s→R s→Q v q.h)
theorem jEE {f:Value}{r r':List V→Hp→VK→Prop}(h:jFa X f r) (i:∀xs H Q,r' xs H Q→r xs H Q):jFa X f r':=fun pins s σ H xs us Q I rs q=>h pins s σ H xs us Q I rs (i xs H Q q)
theorem jE7 {x:Str}{p:Pos}{id:String}{r:List S→(S→Prop)→Prop}(hc:jH5 X (.builtin id) r) (hg:Gl X x) (hm:X.mg x=none) (hv:bootBuiltins x=some (.builtin id)) (ha:PA3 X (e::es) tr) (hn:x≠"__name__":=by decide)
 (hdb:(x==("__debug__":Str))=false:=by decide) (he:starEach (e::es) X.env=(false,eval e X.env)::starEach es X.env:=by exact jBR rfl) (hpl:(backTo pos (starEach es X.env)).any (·.1)=false:=by exact jCD rfl) :
 PE3 X (.Call (.Name x p) (e::es) [] pos) (vCB r tr):=⟨jBe (jHc hc hg hm hv ha.out hn hdb he hpl) fun σ H Q hh=>by obtain⟨B,z,τ,R,r,ht,q⟩:=hh;exact⟨B,_,τ,_,r,ht,fun ss vs H1 e1 i1 h1=>⟨H1.z,ss,R,e1.sub,i1,h1,fun s v H2 e2 i2 f2 h2=>q s v H2 (e1.trans e2) i2 (jKk e1 f2) h2⟩⟩⟩
theorem jSv {α:Type}{l:List α}(h:l.length=1):∃a,l=[a]:=by
 cases l with
 |nil=>cases h
 |cons a t=>exact⟨a,by rw[List.length_eq_zero_iff.mp (Nat.succ.inj h)]⟩
theorem jSA {α:Type}{l:List α}(h:l.length=2):∃a b,l=[a,b]:=by
 cases l with
 |nil=>cases h
 |cons a t =>
  obtain⟨b,e⟩:=jSv (Nat.succ.inj h)
  exact⟨a,b,by rw[e]⟩
theorem jTt {α:Type}{l:List α}(h:l.length=3):∃a b c,l=[a,b,c]:=by
 cases l with
 |nil=>cases h
 |cons a t =>
  obtain⟨b,c,e⟩:=jSA (Nat.succ.inj h)
  exact⟨a,b,c,by rw[e]⟩
theorem jMi {K:PySem.W.Frag}{H:HZ}{vs:List V}{s:S}(h:Args K H vs [s]):∃v,vs=[v]∧IsS K H v s:=by
 obtain⟨hl,hv⟩:=h
 obtain⟨v,rfl⟩:=jSv hl
 exact⟨v,rfl,(hv 0 v s rfl rfl).1⟩
theorem jMP {K:PySem.W.Frag}{H:HZ}{vs:List V}{s t:S}(h:Args K H vs [s,t]):∃v u,vs=[v,u]∧IsS K H v s∧IsS K H u t:=by
 obtain⟨hl,hv⟩:=h
 obtain⟨v,u,rfl⟩:=jSA hl
 exact⟨v,u,rfl,(hv 0 v s rfl rfl).1,(hv 1 u t rfl rfl).1⟩
def jSJ:List S→(S→Prop)→Prop:=fun ss R=>match ss with
 |[.d (.int i)]=>R (.d (.int (if i<0 then -i else i)))
 |_=>False
def jSE:List S→(S→Prop)→Prop:=fun ss R=>match ss with
 |[.d (.int i),.d (.int j)]=>R (.d (.int (if j>i then j else i)))
 |_=>False
def jSM:List S→(S→Prop)→Prop:=fun ss R=>match ss with
 |[.d (.int i),.d (.int j)]=>R (.d (.int (if j<i then j else i)))
 |_=>False
theorem jOO:jH5 X (.builtin "abs") jSJ :=
 jEE jMz fun xs H Q hh=>by
  obtain⟨z,ss,R,hz,ha,h3,q⟩:=hh
  unfold jSJ at h3
  split at h3
  ·rename_i i
   obtain⟨v,rfl,h⟩:=jMi ha
   cases Is.int_inv h
   exact⟨i,rfl,q (.d _) _ ⟨H,z⟩ (Ext.refl hz) (Is.int _) jEt h3⟩
  ·exact h3.elim
theorem jSn (hc:X.calm=true):jH5 X (.builtin "max") jSE :=
 jEE (jKE hc) fun xs H Q hh=>by
  obtain⟨z,ss,R,hz,ha,h3,q⟩:=hh
  unfold jSE at h3
  split at h3
  ·rename_i i j
   obtain⟨v,u,rfl,h,h'⟩:=jMP ha
   cases Is.int_inv h
   cases Is.int_inv h'
   exact⟨i,j,rfl,q (.d _) _ ⟨H,z⟩ (Ext.refl hz) (Is.int _) jEt h3⟩
  ·exact h3.elim
theorem jRN (hc:X.calm=true):jH5 X (.builtin "min") jSM :=
 jEE (jLG hc) fun xs H Q hh=>by
  obtain⟨z,ss,R,hz,ha,h3,q⟩:=hh
  unfold jSM at h3
  split at h3
  ·rename_i i j
   obtain⟨v,u,rfl,h,h'⟩:=jMP ha
   cases Is.int_inv h
   cases Is.int_inv h'
   exact⟨i,j,rfl,q (.d _) _ ⟨H,z⟩ (Ext.refl hz) (Is.int _) jEt h3⟩
  ·exact h3.elim
def jRp:List S→(S→Prop)→Prop:=fun ss R=>match ss with
 |[s]=>match items s with
  |some xs=>R (.d (.int xs.length))
  |none=>False
 |_=>False
theorem jRk:jH5 X (.builtin "len") jRp :=
 jEE jIs fun xs H Q hh=>by
  obtain⟨z,ss,R,hz,ha,h3,q⟩:=hh
  unfold jRp at h3
  split at h3
  ·rename_i s
   split at h3
   ·rename_i ys hy
    obtain⟨v,rfl,h⟩:=jMi ha
    cases s with
    |d z =>
     cases z with
     |tup zs =>
      cases hy
      obtain⟨p,vs,rfl,h1,h2⟩:=Is.tup_inv h
      exact⟨p,vs,rfl,.inr (SqT.same hz h1),by rw[h2.1];exact q (.d _) _ ⟨H,z⟩ (Ext.refl hz) (Is.int _) jEt h3⟩
     |lst zs =>
      cases hy
      obtain⟨p,vs,rfl,h1,h2⟩:=Is.lst_inv h
      exact⟨p,vs,rfl,.inl (hz.seq h1),by rw[h2.1];exact q (.d _) _ ⟨H,z⟩ (Ext.refl hz) (Is.int _) jEt h3⟩
     |_=>cases hy
    |l zs =>
     cases hy
     obtain⟨p,vs,rfl,h1,h2⟩:=h
     exact⟨p,vs,rfl,.inl (SqL.of h1),by rw[h2.1];exact q (.d _) _ ⟨H,z⟩ (Ext.refl hz) (Is.int _) jEt h3⟩
    |r zs =>
     cases hy
     obtain⟨p,vs,rfl,h1,h2⟩:=h
     exact⟨p,vs,rfl,.inl h1,by rw[h2.1];exact q (.d _) _ ⟨H,z⟩ (Ext.refl hz) (Is.int _) jEt h3⟩
   ·exact h3.elim
  ·exact h3.elim
inductive Ty where
 |int|bool|tuple|str|list
def jO6:Ty→String
 |.int=>"int"
 |.bool=>"bool"
 |.tuple=>"tuple"
 |.str=>"str"
 |.list=>"list"
def jR3:Ty→S→Bool
 |.int,.d (.int _)=>true
 |.int,.d (.bl _)=>true
 |.bool,.d (.bl _)=>true
 |.tuple,.d (.tup _)=>true
 |.str,.d (.str _)=>true
 |.list,.l _=>true
 |.list,.r _=>true
 |.list,.d (.lst _)=>true
 |_,_=>false
def jSw:S→Prop
 |.d (.ty _)=>False
 |.d (.ref _)=>False
 |_=>True
theorem jMS (k:Ty):jFa X (.builtin "isinstance") (fun xs H Q=>∃z x s,jBb z H∧xs=[x,.ty (jO6 k)]∧IsS X.K ⟨H,z⟩ x s∧jSw s∧Q (.bl (jR3 k s)) H):=by
 intro pins s σ H xs us Q I rs h
 obtain⟨zz,x,z,hz,rfl,h1,h2,q⟩:=h
 obtain⟨v',u',rfl,r1,r2⟩:=jM7 rs
 cases r2
 have fin:∀tk,EP X pins σ Q (.bool (jR3 k z)) { s with toks:=tk }:=fun tk=>⟨.bl _,H,I.tok tk,rfl,q⟩
 cases z with
 |d z =>
  cases z with
  |non=>cases Is.non_inv h1;exact jE2 I r1 .non (by cases k<;>kernel_rfl) fin
  |bl y=>cases Is.bl_inv h1;exact jE2 I r1 (.bl y) (by cases k<;>kernel_rfl) fin
  |int y=>cases Is.int_inv h1;exact jE2 I r1 (.int y) (by cases k<;>kernel_rfl) fin
  |str y=>cases Is.str_inv h1;exact jE2 I r1 (.str y) (by cases k<;>kernel_rfl) fin
  |ty y=>exact h2.elim
  |ref y=>exact h2.elim
  |lst y =>
   obtain⟨p,vs,rfl,g1,g2⟩:=Is.lst_inv h1
   cases r1
   obtain⟨its,_,pl,_⟩:=I.list (hz.seq g1)
   obtain⟨o,n',e1,e2,_⟩:=pl
   exact PySem.W.kia_one PySem.W.kitx_list I.kIn ⟨o,e1,e2⟩ (by cases k<;>kernel_rfl) (fun z=>nomatch z) fin
  |tup y =>
   obtain⟨p,vs,rfl,g1,g2⟩:=Is.tup_inv h1
   cases r1
   obtain⟨its,_,pl,_⟩:=I.tuple (SqT.same hz g1)
   obtain⟨o,e1,e2,_⟩:=pl
   exact PySem.W.kia_one PySem.W.kitx_tuple I.kIn ⟨o,e1,e2⟩ (by cases k<;>kernel_rfl) (fun z=>nomatch z) fin
 |l y =>
  obtain⟨p,vs,rfl,g1,g2⟩:=h1
  cases r1
  obtain⟨its,_,pl,_⟩:=I.list (SqL.of g1)
  obtain⟨o,n',e1,e2,_⟩:=pl
  exact PySem.W.kia_one PySem.W.kitx_list I.kIn ⟨o,e1,e2⟩ (by cases k<;>kernel_rfl) (fun z=>nomatch z) fin
 |r y =>
  obtain⟨p,vs,rfl,g1,g2⟩:=h1
  cases r1
  obtain⟨its,_,pl,_⟩:=I.list g1
  obtain⟨o,n',e1,e2,_⟩:=pl
  exact PySem.W.kia_one PySem.W.kitx_list I.kIn ⟨o,e1,e2⟩ (by cases k<;>kernel_rfl) (fun z=>nomatch z) fin
def jTk (k:Ty)(te:TE3):TE3:=fun τ R=>te τ fun x=>jSw x∧R (.d (.bl (jR3 k x)))
theorem jKT (k:Ty){y:Str}{p p2:Pos}(ha:PE3 X e te) (hg:Gl X "isinstance") (hm:X.mg "isinstance"=none) (hg2:Gl X y) (hm2:X.mg y=none) (hv:bootBuiltins y=some (.type (jO6 k)))
 (hn:y≠"__name__":=by decide) (hd:(y==("__debug__":Str))=false:=by decide)
 (he:starEach [e,.Name y p2] X.env=(false,eval e X.env)::starEach [.Name y p2] X.env:=by exact jBR rfl) (he2:starEach [.Name y p2] X.env=(false,eval (.Name y p2) X.env)::starEach [] X.env:=by exact jBR rfl) (hpl:(backTo pos (starEach [.Name y p2] X.env)).any (·.1)=false:=by exact jCD rfl) :
 PE3 X (.Call (.Name "isinstance" p) [e,.Name y p2] [] pos) (jTk k te):=⟨jBe (jHc (jMS k) hg hm PyProof.Rows.boot_isinstance (jA2 ha.out (jA2 (jLO (v:=.ty (jO6 k)) hg2 hm2 hv rfl hn hd) jB9 he2) he) (he:=he) (hpl:=hpl)) fun σ H Q ⟨B,z,τ,R,r,ht,q⟩ =>
 ⟨B,_,τ,_,r,ht,fun s v H1 e1 i1 f1 h1=>⟨H1.z,v,s,e1.sub,rfl,i1,h1.1,q (.d _) _ H1 e1 (Is.bl _) jEt h1.2⟩⟩⟩
abbrev Sp3:=List S→(S→Prop)→(Str→Prop)→Prop
def jAj (K:PySem.W.Frag)(mg:Str→Option Value)(sp:Sp3):Sp:=fun vs H Q E=>∃z ss R U,jBb z H∧Args K ⟨H,z⟩ vs ss∧sp ss R U∧(∀s v q,Ext ⟨H,z⟩ q→IsS K q v s→Fr3 K ⟨H,z⟩ q v s→R s→Q v q.h) ∧
 ∀x C H',jBb H H'→mg x=some (.ref C)→U x→E (.ref C) none H'
structure Cal (P:Program)(w:World)(K:PySem.W.Frag)(mg:Str→Option Value)(base:Heap)(CX:CXT)(k:Nat)(x:Str)(ps:List Str)(sp:Sp3):Prop where
 ex:∃f fd,jAz P w K mg base CX k f fd ps (jAj K mg sp)∧mg x=some (.ref f)∧PySem.W.keepIn K (.ref f)=true∧Binds K fd ps []
def NoU:Str→Prop:=fun _=>False
variable {st:Stmt}{rest':List Stmt}{t u:TS3}
def jRW:TS3:=fun D3 τ=>D3.nx τ
def jSS (t u:TS3):TS3:=fun D3 τ=>t { D3 with nx:=u D3 } τ
def jTj (t u:TS3):TS3:=fun D3 τ=>∃mid:Tau→Prop,t { D3 with nx:=mid } τ∧∀τ',mid τ'→u D3 τ'
theorem jAr:jDx X [] jRW:=⟨jFZ jN3 fun _ _ _ ⟨_,_,_,_,r,ht,c⟩=>c.nx _ _ _ r ht⟩
theorem jAl (h:PS3 X st t):jDx X [st] t:=⟨jPl h.out⟩
theorem jAb (h1:PS3 X st t)(h2:jDx X rest' u):jDx X (st::rest') (jSS t u):=⟨jFZ (jJP h1.out h2.out) fun D2 σ H hh=>by obtain⟨B,z,τ,D3,r,ht,c⟩:=hh;exact⟨B,_,τ,{ D3 with nx:=u D3 },r,ht,⟨fun τ' σ' p' r' h'=>⟨B,_,τ',D3,r',h',c⟩,c.bk,c.ct,c.rt⟩⟩⟩
theorem jCx (h1:PS3 X st t)(h2:jDx X rest' u):jDx X (st::rest') (jTj t u):=⟨jFZ (jJP h1.out h2.out) fun D2 σ H ⟨B,z,τ,D3,r,⟨mid,ht,hm⟩,c⟩=>⟨B,_,τ,{ D3 with nx:=mid },r,ht,⟨fun τ' σ' p' r' h'=>⟨B,_,τ',D3,r',hm τ' h',c⟩,c.bk,c.ct,c.rt⟩⟩⟩
def sGd (t u:TS3):TS3:=fun D3 τ=>t { D3 with nx:=fun τ'=>τ'=τ } τ∧u D3 τ
theorem jKi (h1:PS3 X st t)(h2:jDx X rest' u):jDx X (st::rest') (sGd t u):=⟨jFZ (jCx h1 h2).out fun D2 σ H ⟨B,z,τ,D3,r,⟨ht,hu⟩,c⟩=>⟨B,_,τ,D3,r,⟨fun τ'=>τ'=τ,ht,fun τ' e=>by subst e;exact hu⟩,c⟩⟩
def jPJ:TS3:=fun _ _=>False
theorem jKO:PS3 X st jPJ:=⟨jBG jM2 fun _ _ _ ⟨_,_,_,_,_,h,_⟩=>h.elim⟩
def jRM (te:TE3):TS3:=fun D3 τ=>te τ fun _=>D3.nx τ
theorem jJc (he:PE3 X e te)(hs:swapsWith e none pos.line X.env=pure false:=by rfl):PS3 X (.Expr e pos) (jRM te):=⟨jBG (jCc he.out hs) fun D2 σ H hh=>by obtain⟨B,z,τ,D3,r,ht,c⟩:=hh;exact⟨B,_,τ,_,r,ht,fun s v H' e i f h=>c.nx _ _ _ (r.mono e) h⟩⟩
def jSN (te:TE3):TS3:=fun D3 τ=>te τ D3.rt
theorem jRB (he:PE3 X e te):PS3 X (.Return (some e) pos) (jSN te):=⟨jBG (jNt he.out) fun D2 σ H hh=>by obtain⟨B,z,τ,D3,r,ht,c⟩:=hh;exact⟨B,_,τ,_,r,ht,fun s v H' e i f h=>c.rt s v H' (r.ext.trans e) i (jKk r.ext f) h⟩⟩
def jQB (i:Nat):TS3:=fun D3 τ=>match τ[i]? with
 |some (some s)=>D3.rt s
 |_=>False
theorem jDQ {i:Nat}{x:Str}{pos':Pos}(h:PE X (.Name x pos') (jJS i)):PS3 X (.Return (some (.Name x pos')) pos) (jQB i):=⟨jBG (jNt h) fun D2 σ H hh=>by
 obtain⟨B,z,τ,D3,r,ht,c⟩:=hh
 unfold jQB at ht
 split at ht
 ·rename_i s hs
  obtain⟨v,h1,h2⟩:=r.val i s hs
  exact⟨v,h1,c.rt s v ⟨H,z⟩ r.ext h2 (fun xs a e1 e2=>r.own i xs a (by rw[←e1];exact hs) (by rw[←e2];exact h1)) ht⟩
 ·exact ht.elim⟩
def sIf (c:TT3)(t u:TS3):TS3:=fun D3 τ=>c τ fun b=>if b=true then t D3 τ else u D3 τ
theorem jBN {c:Expr}{as bs:List Stmt}{tc:TT3}(hc:PT3 X c tc) (ha:jDx X as t) (hb:jDx X bs u):PS3 X (.If c as bs pos) (sIf tc t u):=⟨jBG (jRT hc.out ha.out hb.out) fun D2 σ H hh=>by obtain⟨B,z,τ,D3,r,ht,c⟩:=hh;exact⟨B,_,τ,_,r,ht,fun b H1 e h=>by
 cases b with
 |true=>rw[if_pos rfl] at h ⊢;exact⟨B,_,τ,D3,r.mono e,h,c⟩
 |false=>rw[if_neg Bool.false_ne_true] at h ⊢;exact⟨B,_,τ,D3,r.mono e,h,c⟩⟩⟩
def jQD (i:Nat)(te:TE3):TS3:=fun D3 τ=>te τ fun s=>match s with
 |.r _=>False
 |.d x=>D3.nx (τ.set i (some (.d x)))
 |.l xs=>D3.nx (τ.set i (some (.l xs)))
theorem jSe {i:Nat}{x:Str}{pos':Pos}(hN:X.N.Nodup) (hi:X.N[i]? = some x) (hx:Loc X.env.scope x) (he:PE3 X e te) (hs:swapsWith e (some (.Name x pos')) pos.line X.env=pure false:=by rfl) (hf:X.fn x=true∨X.env.scope.names.lookup x=some .local:=by first|exact .inl rfl|exact .inr rfl|assumption) (hp:jCT X i:=by first|exact jCn rfl|exact jCv rfl (by decide)|assumption) :
 PS3 X (.Assign [.Name x pos'] e pos) (jQD i te):=⟨jBG (jP1 hN hi hx he.out hs hf) fun D2 σ H hh=>by obtain⟨B,z,τ,D3,r,ht,c⟩:=hh;exact⟨B,_,τ,_,r,ht,fun s v H' e i f h=>by
 cases s with
 |r _=>exact h.elim
 |d y=>exact c.nx _ _ _ (r.set e i f rfl hp) h
 |l ys=>exact c.nx _ _ _ (r.set e i f rfl hp) h⟩⟩
theorem Rep.push {B:HZ}{H z:Hp}{τ:Tau}{σ:St}{i:Nat}{xs:List D}{l:Addr}{vs:List V}{w:V}{d:D}(r:Rep X B τ σ ⟨H,z⟩) (hi:τ[i]? = some (some (.l xs))) (hσ:σ[i]? = some (some (.ref l)))
 (hl:H l=some (.lst vs)) (hv:Iss X.K z vs xs) (iw:Is X.K z w d):Rep X B (τ.set i (some (.l (xs++[d])))) σ ⟨upd H l (.lst (vs++[w])),z⟩:=by
 obtain⟨o1,o2,o3⟩:=r.own i xs l hi hσ
 refine⟨by simp[r.len],⟨fun b o h=>?_,r.ext.zz,fun b o h=>?_,r.ext.new⟩,fun j s hj=>?_,fun j ys a hj ha=>?_,fun j k ys s a hjk hj hk hs ha=>?_,r.top,r.pin⟩
 ·have hb:b≠l:=by
   rintro rfl
   rw[h] at o1
   cases o1
  show upd H l _ b=some o
  rw[jAn hb]
  exact r.ext.hh b o h
 ·have hb:b≠l:=by
   rintro rfl
   have h':z b=some o:=h
   rw[show z b=none from o3] at h'
   cases h'
  show upd H l _ b=some o
  rw[jAn hb]
  exact r.ext.sub b o h
 ·rcases jAD hj with⟨rfl,rfl⟩|⟨hn,hj⟩
  ·exact⟨.ref l,hσ,l,_,rfl,jAp,hv.snoc iw⟩
  ·obtain⟨v,h1,h2⟩:=r.val j s hj
   refine⟨v,h1,?_⟩
   cases s with
   |d x=>exact h2
   |l ys =>
    obtain⟨b,ws,rfl,h3,h4⟩:=h2
    have hb:b≠l:=by
     rintro rfl
     exact r.sep i j xs (.l ys) b (fun z=>hn z.symm) hi hj rfl hσ h1
    exact⟨b,ws,rfl,by show upd H l _ b=_;rw[jAn hb];exact h3,h4⟩
   |r ys =>
    obtain⟨b,ws,rfl,h3,h4⟩:=h2
    have hb:b≠l:=by
     rintro rfl
     exact r.sep i j xs (.r ys) b (fun z=>hn z.symm) hi hj rfl hσ h1
    refine⟨b,ws,rfl,?_,h4⟩
    rcases h3 with (h3|⟨o,h3⟩)|h3
    ·exact .inl (.inl (by show upd H l _ b=_;rw[jAn hb];exact h3))
    ·exact .inl (.inr ⟨o,by show upd H l _ b=_;rw[jAn hb];exact h3⟩)
    ·exact .inr h3
 ·rcases jAD hj with⟨rfl,_⟩|⟨hn,hj⟩
  ·exact r.own j xs a hi ha
  ·exact r.own j ys a hj ha
 ·rcases jAD hj with⟨rfl,_⟩|⟨hn,hj'⟩
  ·rcases jAD hk with⟨e3,_⟩|⟨hkn,hk'⟩
   ·exact absurd e3.symm hjk
   ·exact r.sep j k xs s a hjk hi hk' hs ha
  ·rcases jAD hk with⟨rfl,rfl⟩|⟨hkn,hk'⟩
   ·exact r.sep j k ys (.l xs) a hjk hj' hi rfl ha
   ·exact r.sep j k ys s a hjk hj' hk' hs ha
def jSs (i:Nat)(te:TE3):TS3:=fun D3 τ=>match τ[i]? with
 |some (some (.l xs))=>te τ fun s=>dd s.arg fun d=>xs.length<1000000∧D3.nx (τ.set i (some (.l (xs++[d]))))
 |_=>False
theorem jGD {i:Nat}{o:Expr}{apos cpos:Pos}(h:PS X (.Expr (.Call (.Attribute o "append" apos) [e] [] cpos) pos) (jPM (tBM X.K "list" jLT (jJS i) (jPN (FE X te) jSF)))) :
 PS3 X (.Expr (.Call (.Attribute o "append" apos) [e] [] cpos) pos) (jSs i te):=⟨jBG h fun D2 σ H hh=>by
 obtain⟨B,z,τ,D3,r,ht,c⟩:=hh
 unfold jSs at ht
 split at ht
 ·rename_i xs hs
  obtain⟨v,h1,a,vs,rfl,h2,h3⟩:=r.val i _ hs
  refine⟨.ref a,h1,.inl ⟨rfl,vs,SqL.of h2⟩,B,_,τ,_,r,ht,fun s v H' e i' f h=>?_⟩
  obtain⟨d,hd,h4,h5⟩:=jEe h
  obtain⟨z',e',i''⟩:=jDE e i' f
  rw[hd] at i''
  have sz:(1000000:Nat)<sizeLine:=by decide
  exact⟨a,vs,v,rfl,rfl,e.hh _ _ h2,by rw[h3.1];omega,c.nx _ _ _ ((r.mono e').push hs h1 (e.hh _ _ h2) (h3.mono e'.zz) i'') h5⟩
 ·exact ht.elim⟩
def jQh (c:TT3)(tb:TS3):TS3:=fun D3 τ=>∃W:Nat→Tau→Prop,(∃m,W m τ)∧∀m τ,W m τ →
 c τ fun b=>if b=true then tb { D3 with nx:=fun τ'=>∃m',m'<m∧W m' τ',ct:=fun τ'=>∃m',m'<m∧W m' τ',bk:=D3.nx } τ else D3.nx τ
theorem jHB {c:Expr}{body:List Stmt}{tc:TT3}{tb:TS3}(hp:PassesOwn (model X.prog X.w) X.A X.env X.xe) (hc:PT3 X c tc) (hb:jDx X body tb):PS3 X (.While c body [] pos) (jQh tc tb):=⟨jBG (jMv hp hc.out hb.out) fun D2 σ H hh=>by
 obtain⟨B,z,τ,D3,r,⟨W,⟨m0,w0⟩,turn⟩,c⟩:=hh
 refine⟨fun m σ H=>∃z τ,Rep X B τ σ ⟨H,z⟩∧W m τ,⟨m0,z,τ,r,w0⟩,?_⟩
 rintro m σ1 H1 ⟨z1,τ1,r1,w1⟩
 refine⟨B,_,τ1,_,r1,turn m τ1 w1,fun b H2 e h=>?_⟩
 cases b with
 |true =>
  rw[if_pos rfl] at h ⊢
  refine⟨fun σ' H'=>∃m',m'<m∧∃z τ,Rep X B τ σ' ⟨H',z⟩∧W m' τ,fun σ' H' ⟨m',h1,h2⟩=>⟨m',h1,h2⟩,B,_,τ1,_,r1.mono e,h,⟨?_,c.nx,?_,c.rt⟩⟩
  ·rintro τ' σ' p' r' ⟨m',h1,h2⟩
   exact⟨m',h1,p'.z,τ',r',h2⟩
  ·rintro τ' σ' p' r' ⟨m',h1,h2⟩
   exact⟨m',h1,p'.z,τ',r',h2⟩
 |false =>
  rw[if_neg Bool.false_ne_true] at h ⊢
  exact c.nx _ _ _ (r1.mono e) h⟩
def jGK (i:Nat)(xs:List D)(tb:TS3)(D3:jHR)(τ0:Tau):Prop:=∃I:Nat→Tau→Prop,I 0 τ0 ∧
 (∀n τ x,xs[n]? = some x→I n τ→tb { D3 with nx:=I (n+1),ct:=I (n+1),bk:=D3.nx } (τ.set i (some (.d x))))∧∀τ,I xs.length τ→D3.nx τ
theorem Rep.setd {B p:HZ}{τ:Tau}{σ:St}{i:Nat}{v:V}{x:D}(r:Rep X B τ σ p) (h:Is X.K p.z v x) (hp:jCT X i):Rep X B (τ.set i (some (.d x))) (σ.set i (some v)) p :=
 r.set (s:=.d x) (Ext.refl r.ext.sub) h jEt rfl hp
theorem jPE.inB {B B':HZ}{D3:jHR}{D2:jJe}{I:Tau→Prop}{N:St→Hp→Prop}(e:LeB X B B') (c:jPE X B D3 D2) (hN:∀τ σ p,Rep X B' τ σ p→I τ→N σ p.h) :
 jPE X B' { D3 with nx:=I,ct:=I,bk:=D3.nx } { D2 with nx:=N,ct:=N,bk:=D2.nx } :=
 ⟨hN,fun τ σ H r h=>c.nx τ σ H (r.outB e) h,hN,fun s v q h1 h2 h3 h4=>c.rt s v q (e.ext h1) h2 (fun xs a x1 x2=>⟨e.hh.free (h3 xs a x1 x2).1,(h3 xs a x1 x2).2⟩) h4⟩
theorem jDk {K:PySem.W.Frag}{H:Hp}{vs:List V}{xs:List D}{n:Nat}{v:V}(h:Iss K H vs xs) (e:vs[n]? = some v):∃x,xs[n]? = some x∧Is K H v x:=by
 have hn:=(List.getElem?_eq_some_iff.mp e).1
 have hx:xs[n]? = some (xs[n]'(by rw[←h.1];exact hn)):=List.getElem?_eq_getElem (by rw[←h.1];exact hn)
 exact⟨_,hx,h.2 n v _ e hx⟩
theorem jHr {B:HZ}{τ:Tau}{σ:St}{H z:Hp}{D2:jJe}{D3:jHR}{a:Addr}{vs:List V}{xs:List D}{i:Nat}{tb:TS3}(r:Rep X B τ σ ⟨H,z⟩) (c:jPE X B D3 D2) (hs:SqL X.K H a vs) (hv:Iss X.K z vs xs)
 (hno:∀(j:Nat)(ys:List D),τ[j]? = some (some (S.l ys))→σ[j]?≠some (some (V.ref a))) (h:jGK i xs tb D3 τ) (hp:jCT X i) :
 ∃W:Nat→Nat→St→Hp→Prop,(∃m,W 0 m σ H)∧∀n m σ H,W n m σ H →
  ((Itl X.K a).stop n H∧D2.nx σ H)∨((Itl X.K a).go n H∧∃N:St→Hp→Prop,(∀σ' H',N σ' H'→∃m',m'<m∧W (n+1) m' σ' H')∧∀x H',(Itl X.K a).yld n H x H'→jDg i x σ H' fun σ2 H2=>FS X tb { D2 with nx:=N,ct:=N,bk:=D2.nx } σ2 H2):=by
 obtain⟨I,i0,turn,out⟩:=h
 have hB:SqL X.K (jIR τ σ H) a vs:=by
  rcases hs with (hs|⟨o,hs⟩)|hs
  ·exact .inl (.inl (by rw[jFQ hno];exact hs))
  ·exact .inl (.inr ⟨o,by rw[jFQ hno];exact hs⟩)
  ·exact .inr hs
 refine jNd (K:=X.K) (a:=a) (xs:=vs) (g:=jDg i) (tb:=FS X tb) (D:=D2) (fun n σ1 H1=>∃z1 τ1,Rep X ⟨jIR τ σ H,z⟩ τ1 σ1 ⟨H1,z1⟩∧I n τ1) ⟨z,τ,r.inB,i0⟩ (fun n σ1 H1 _ ⟨z1,τ1,r1,_⟩=>r1.ext.hh.seq hB) ?_ ?_
 ·rintro n v σ1 H1 hn ⟨z1,τ1,r1,i1⟩
  obtain⟨x,hx,ix⟩:=jDk hv hn
  exact⟨_,_,_,_,r1.setd (ix.mono r1.ext.zz) hp,turn n τ1 x hx i1,c.inB r.leB fun τ' σ' p' r' h'=>⟨p'.z,τ',r',h'⟩⟩
 ·rintro σ1 H1 ⟨z1,τ1,r1,i1⟩
  exact c.nx _ _ _ (r1.outB r.leB) (out τ1 (by rw[←hv.1];exact i1))
theorem jNP {B:HZ}{τ:Tau}{σ:St}{H z:Hp}{D2:jJe}{D3:jHR}{a:Addr}{vs:List V}{xs:List D}{i:Nat}{tb:TS3}(r:Rep X B τ σ ⟨H,z⟩) (c:jPE X B D3 D2) (hs:SqT X.K z a vs) (hv:Iss X.K z vs xs)
 (h:jGK i xs tb D3 τ) (hp:jCT X i) :
 ∃W:Nat→Nat→St→Hp→Prop,(∃m,W 0 m σ H)∧∀n m σ H,W n m σ H →
  ((Itt X.K a).stop n H∧D2.nx σ H)∨((Itt X.K a).go n H∧∃N:St→Hp→Prop,(∀σ' H',N σ' H'→∃m',m'<m∧W (n+1) m' σ' H')∧∀x H',(Itt X.K a).yld n H x H'→jDg i x σ H' fun σ2 H2=>FS X tb { D2 with nx:=N,ct:=N,bk:=D2.nx } σ2 H2):=by
 obtain⟨I,i0,turn,out⟩:=h
 refine jPk (K:=X.K) (a:=a) (xs:=vs) (g:=jDg i) (tb:=FS X tb) (D:=D2) (fun n σ1 H1=>∃z1 τ1,Rep X ⟨jIR τ σ H,z⟩ τ1 σ1 ⟨H1,z1⟩∧I n τ1) ⟨z,τ,r.inB,i0⟩ (fun n σ1 H1 _ ⟨z1,τ1,r1,_⟩=>SqT.same (r1.ext.zz.trans r1.ext.sub) hs) ?_ ?_
 ·rintro n v σ1 H1 hn ⟨z1,τ1,r1,i1⟩
  obtain⟨x,hx,ix⟩:=jDk hv hn
  exact⟨_,_,_,_,r1.setd (ix.mono r1.ext.zz) hp,turn n τ1 x hx i1,c.inB r.leB fun τ' σ' p' r' h'=>⟨p'.z,τ',r',h'⟩⟩
 ·rintro σ1 H1 ⟨z1,τ1,r1,i1⟩
  exact c.nx _ _ _ (r1.outB r.leB) (out τ1 (by rw[←hv.1];exact i1))
def jQR (K:PySem.W.Frag)(tl:TE):TI:=fun σ H R=>tl σ H fun x H1=>∃a,x=.ref a∧(((∃xs,SqL K H1 a xs)∧R (Itl K a) H1)∨((∃xs,SqT K H1 a xs)∧R (Itt K a) H1))
theorem jB7 {tg l:Expr}{tl:TE}(hl:PE X l tl):PI X tg l (jQR X.K tl):=by
 intro pins s σ H R I h
 refine thn (hl pins s σ H _ I h) fun v s1 hh9=>?_
 obtain⟨x,H1,I1,r1,q1⟩:=hh9
 obtain⟨a,e,⟨⟨xs,hq⟩,q⟩|⟨⟨xs,hq⟩,q⟩⟩:=q1
 ·subst e
  cases r1
  obtain⟨its,rv,p,hz⟩:=I1.list hq
  refine wpAny_pyIter_list p.isList ?_
  refine⟨s1.heap.objs.size,[s1.heap.objs.size],_,_,H1,rfl,I1.kept (t':=s1.toks) fun b o e=>Heap.get?_push_of_some _ e,jLz a _,⟨_,Heap.get?_push_size _ rfl,rfl,rfl⟩,fun b hb=>?_,q⟩
  have e:b=s1.heap.objs.size:=by simpa using hb
  subst e
  exact I1.fpOk (Nat.le_refl _) (I1.hok.fresh (Nat.le_refl _))
 ·subst e
  cases r1
  obtain⟨its,rv,p,hz⟩:=I1.tuple hq
  refine wpAny_pyIter_tuple (show s1.heap.IsTuple a its.toArray from p) ?_
  refine⟨s1.heap.objs.size,[s1.heap.objs.size],_,_,H1,rfl,I1.kept (t':=s1.toks) fun b o e=>Heap.get?_push_of_some _ e,jKr a _,⟨_,Heap.get?_push_size _ rfl,rfl,rfl⟩,fun b hb=>?_,q⟩
  have e:b=s1.heap.objs.size:=by simpa using hb
  subst e
  exact I1.fpOk (Nat.le_refl _) (I1.hok.fresh (Nat.le_refl _))
theorem Rep.notown {B:HZ}{τ:Tau}{σ:St}{p:HZ}{a:Addr}{o:HO}(r:Rep X B τ σ p) (h:p.z a=some o):∀(j:Nat)(ys:List D),τ[j]? = some (some (S.l ys))→σ[j]?≠some (some (V.ref a)):=fun j ys h1 h2=>by
 have:=(r.own j ys a h1 h2).2.2
 rw[h] at this
 cases this
theorem jGQ {B:HZ}{τ:Tau}{σ:St}{p:HZ}{a:Addr}{vs:List V}(r:Rep X B τ σ p) (h:SqL X.K p.z a vs):∀(j:Nat)(ys:List D),τ[j]? = some (some (S.l ys))→σ[j]?≠some (some (V.ref a)):=by
 rcases h with (h|⟨o,h⟩)|⟨o,its,n,h,_⟩
 ·exact r.notown h
 ·exact r.notown h
 ·intro j ys h1 h2
  have:=(r.own j ys a h1 h2).2.1
  rw[h] at this
  cases this
def jP3 (j i:Nat)(tb:TS3):TS3:=fun D3 τ=>match τ[j]? with
 |some (some (.d (.tup xs)))=>jGK i xs tb D3 τ
 |some (some (.d (.lst xs)))=>jGK i xs tb D3 τ
 |some (some (.l xs))=>jGK i xs tb D3 (τ.set j (some (.r xs)))
 |some (some (.r xs))=>jGK i xs tb D3 (τ.set j (some (.r xs)))
 |_=>False
theorem jNx {j i:Nat}{x y:Str}{px py:Pos}{body:List Stmt}{tb:TS3}(h:PS X (.For (.Name x px) (.Name y py) body [] pos) (jN1 (jQR X.K (jJS j)) (jDg i) (FS X tb))) (hp:jCT X i:=by first|exact jCn rfl|exact jCv rfl (by decide)|assumption):PS3 X (.For (.Name x px) (.Name y py) body [] pos) (jP3 j i tb):=⟨jBG h fun D2 σ H hh=>by
 obtain⟨B,z,τ,D3,r,ht,c⟩:=hh
 have lists:∀(s:S)(xs:List D),τ[j]? = some (some s)→s.share=.r xs→jGK i xs tb D3 (τ.set j (some (.r xs)))→jN1 (jQR X.K (jJS j)) (jDg i) (FS X tb) D2 σ H:=fun s xs hs hx ht=>by
  obtain⟨v,h1,h2⟩:=r.val j s hs
  have h2':=h2.share
  rw[hx] at h2'
  obtain⟨a,vs,rfl,h3,h4⟩:=h2'
  have r':=r.freeze hs hx
  refine⟨.ref a,h1,a,rfl,.inl ⟨⟨vs,h3⟩,jHr r' c h3 h4 (fun m ys hm hσ=>?_) ht hp⟩⟩
  rcases jAD hm with⟨rfl,z⟩|⟨hn,hm'⟩
  ·cases z
  ·have hl:j<τ.length:=(List.getElem?_eq_some_iff.mp hs).1
   exact r'.sep m j ys (.r xs) a hn hm (by rw[List.getElem?_set_self hl]) rfl hσ h1
 unfold jP3 at ht
 split at ht
 ·rename_i xs hs
  obtain⟨v,h1,h2⟩:=r.val j _ hs
  obtain⟨a,vs,rfl,h3,h4⟩:=Is.tup_inv h2
  exact⟨.ref a,h1,a,rfl,.inr ⟨⟨vs,SqT.same r.ext.sub h3⟩,jNP r c h3 h4 ht hp⟩⟩
 ·rename_i xs hs
  obtain⟨v,h1,h2⟩:=r.val j _ hs
  obtain⟨a,vs,rfl,h3,h4⟩:=Is.lst_inv h2
  exact⟨.ref a,h1,a,rfl,.inl ⟨⟨vs,r.ext.sub.seq h3⟩,jHr r c (r.ext.sub.seq h3) h4 (jGQ r h3) ht hp⟩⟩
 ·rename_i xs hs
  exact lists _ xs hs rfl ht
 ·rename_i xs hs
  exact lists _ xs hs rfl ht
 ·exact ht.elim⟩
def jRs (i:Nat)(te:TE3)(tb:TS3):TS3:=fun D3 τ=>te τ fun s=>match s with
 |.l xs=>jGK i xs tb D3 τ
 |.d (.tup xs)=>jGK i xs tb D3 τ
 |.d (.lst xs)=>jGK i xs tb D3 τ
 |_=>False
theorem jJy {i:Nat}{x:Str}{px:Pos}{body:List Stmt}{tb:TS3}(h:PS X (.For (.Name x px) e body [] pos) (jN1 (jQR X.K (FE X te)) (jDg i) (FS X tb))) (hp:jCT X i:=by first|exact jCn rfl|exact jCv rfl (by decide)|assumption):PS3 X (.For (.Name x px) e body [] pos) (jRs i te tb):=⟨jBG h fun D2 σ H hh=>by
 obtain⟨B,z,τ,D3,r,ht,c⟩:=hh
 refine⟨B,_,τ,_,r,ht,fun s v H1 e1 i1 f1 h1=>?_⟩
 split at h1
 ·rename_i xs
  obtain⟨a,vs,rfl,h3,h4⟩:=i1
  refine⟨a,rfl,.inl ⟨⟨vs,SqL.of h3⟩,jHr (r.mono e1) c (SqL.of h3) h4 (fun m ys hm hσ=>?_) h1 hp⟩⟩
  obtain⟨ws,hw,_⟩:=r.own_list hm hσ
  have:=(f1 xs a rfl rfl).1
  rw[hw] at this
  cases this
 ·rename_i xs
  obtain⟨a,vs,rfl,h3,h4⟩:=Is.tup_inv i1
  exact⟨a,rfl,.inr ⟨⟨vs,SqT.same e1.sub h3⟩,jNP (r.mono e1) c h3 h4 h1 hp⟩⟩
 ·rename_i xs
  obtain⟨a,vs,rfl,h3,h4⟩:=Is.lst_inv i1
  exact⟨a,rfl,.inl ⟨⟨vs,e1.sub.seq h3⟩,jHr (r.mono e1) c (e1.sub.seq h3) h4 (jGQ (r.mono e1) h3) h1 hp⟩⟩
 ·exact h1.elim⟩
def jSB (i:Nat)(t:TS3):TS3:=fun D3 τ=>match τ[i]? with
 |some (some (.l xs))=>t D3 (τ.set i (some (.d (.lst xs))))
 |_=>False
theorem jNu {sts:List Stmt}(i:Nat) (h:jDx X sts t):jDx X sts (jSB i t):=⟨jFZ h.out fun D2 σ H hh=>by
 obtain⟨B,z,τ,D3,r,ht,c⟩:=hh
 unfold jSB at ht
 split at ht
 ·rename_i xs hs
  obtain⟨z',r'⟩:=r.data hs
  exact⟨B,z',_,D3,r',ht,c⟩
 ·exact ht.elim⟩
def jSb (i:Nat)(lo st:Int)(cnt:Nat)(tb:TS3)(D3:jHR)(τ0:Tau):Prop:=∃I:Nat→Tau→Prop,I 0 τ0 ∧
 (∀(n:Nat) τ,n<cnt→I n τ→tb { D3 with nx:=I (n+1),ct:=I (n+1),bk:=D3.nx } (τ.set i (some (.d (.int (lo+n*st))))))∧∀τ,I cnt τ→D3.nx τ
def jRt (i:Nat)(ta:TA3)(tb:TS3):TS3:=fun D3 τ=>ta τ fun ss=>match ss with
 |[.d (.int j)]=>(-(2^62)≤j∧j<2^62)∧jSb i 0 1 j.toNat tb D3 τ
 |_=>False
theorem jKI {i:Nat}{x:Str}{px:Pos}{body:List Stmt}{tb:TS3}{ta:TA3}(h:PS X (.For (.Name x px) e body [] pos) (jN1 (jOz (FA X ta)) (jDg i) (FS X tb))) (hp:jCT X i:=by first|exact jCn rfl|exact jCv rfl (by decide)|assumption):PS3 X (.For (.Name x px) e body [] pos) (jRt i ta tb):=⟨jBG h fun D2 σ H hh=>by
 obtain⟨B,z,τ,D3,r,ht,c⟩:=hh
 refine⟨B,_,τ,_,r,ht,fun ss vs H1 e1 i1 h1=>?_⟩
 split at h1
 ·rename_i j
  obtain⟨v,rfl,hv⟩:=jMi i1
  cases Is.int_inv hv
  obtain⟨⟨q1,q2⟩,I,i0,turn,out⟩:=h1
  refine⟨j,rfl,q1,q2,jHT (lo:=0) (n:=j.toNat) (g:=jDg i) (tb:=FS X tb) (D:=D2) (fun n σ1 H1=>∃z1 τ1,Rep X B τ1 σ1 ⟨H1,z1⟩∧I n τ1) ⟨_,τ,r.mono e1,i0⟩ ?_ ?_⟩
  ·rintro n σ1 H1 hn ⟨z1,τ1,r1,i1⟩
   have tt:=turn n τ1 hn i1
   rw[Int.mul_one] at tt
   exact⟨B,_,_,_,r1.setd (.int _) hp,tt,c.inB r.leR fun τ' σ' p' r' h'=>⟨p'.z,τ',r',h'⟩⟩
  ·rintro σ1 H1 ⟨z1,τ1,r1,i1⟩
   exact c.nx _ _ _ r1 (out τ1 i1)
 ·exact h1.elim⟩
def jSf (i:Nat)(ta:TA3)(tb:TS3):TS3:=fun D3 τ=>ta τ fun ss=>match ss with
 |[.d (.int a),.d (.int j)]=>(-(2^62)≤a∧a<2^62∧-(2^62)≤j∧j<2^62)∧jSb i a 1 (j-a).toNat tb D3 τ
 |_=>False
theorem jN2 {i:Nat}{x:Str}{px:Pos}{body:List Stmt}{tb:TS3}{ta:TA3}(h:PS X (.For (.Name x px) e body [] pos) (jN1 (jO1 (FA X ta)) (jDg i) (FS X tb))) (hp:jCT X i:=by first|exact jCn rfl|exact jCv rfl (by decide)|assumption):PS3 X (.For (.Name x px) e body [] pos) (jSf i ta tb):=⟨jBG h fun D2 σ H hh=>by
 obtain⟨B,z,τ,D3,r,ht,c⟩:=hh
 refine⟨B,_,τ,_,r,ht,fun ss vs H1 e1 i1 h1=>?_⟩
 split at h1
 ·rename_i a j
  obtain⟨v,u,rfl,hv,hu⟩:=jMP i1
  cases Is.int_inv hv
  cases Is.int_inv hu
  obtain⟨q1,I,i0,turn,out⟩:=h1
  refine⟨a,j,rfl,q1,jHT (lo:=a) (n:=(j-a).toNat) (g:=jDg i) (tb:=FS X tb) (D:=D2) (fun n σ1 H1=>∃z1 τ1,Rep X B τ1 σ1 ⟨H1,z1⟩∧I n τ1) ⟨_,τ,r.mono e1,i0⟩ ?_ ?_⟩
  ·rintro n σ1 H1 hn ⟨z1,τ1,r1,i1⟩
   have tt:=turn n τ1 hn i1
   rw[Int.mul_one] at tt
   exact⟨B,_,_,_,r1.setd (.int _) hp,tt,c.inB r.leR fun τ' σ' p' r' h'=>⟨p'.z,τ',r',h'⟩⟩
  ·rintro σ1 H1 ⟨z1,τ1,r1,i1⟩
   exact c.nx _ _ _ r1 (out τ1 i1)
 ·exact h1.elim⟩
end
def jBO (N:List Str)(ss:List S):Tau:=ss.map some++List.replicate (N.length-ss.length) none
theorem jGd {α:Type}{ss:List α}{m i:Nat}{s:α}(h:(ss.map some++List.replicate m (none:Option α))[i]? = some (some s)):ss[i]? = some s:=by
 by_cases hi:i<ss.length
 ·rw[List.getElem?_append_left (by simpa using hi),List.getElem?_map] at h
  cases e:ss[i]? with
  |none=>rw[e] at h;cases h
  |some a=>rw[e] at h;cases h;rfl
 ·rw[List.getElem?_append_right (by simpa using hi),List.getElem?_replicate] at h
  split at h<;>cases h
theorem jDz {X:Cx}{p:HZ}{N:List Str}{vs:List V}{ss:List S}(h:Args X.K p vs ss) (hz:jBb p.z p.h) (ht:jBb X.H₀ p.h) (hl:X.lent=none:=by rfl):Rep X p (jBO N ss) (L2.start N vs) p:=by
 have no:∀(i:Nat)(xs:List D),¬(jBO N ss)[i]? = some (some (.l xs)):=fun i xs z=>by
  have z':=jGd z
  have hi:=(List.getElem?_eq_some_iff.mp z').1
  have hv:vs[i]? = some (vs[i]'(by rw[h.1];exact hi)):=List.getElem?_eq_getElem (by rw[h.1];exact hi)
  have:=(h.2 i _ _ hv z').2
  cases this
 refine⟨by unfold L2.start jBO;simp[h.1],Ext.refl hz,fun i s hs=>?_,fun i xs a z _=>absurd z (no i xs),fun i j xs s a _ z _ _ _=>absurd z (no i xs),fun _=>ht,fun k a hk=>by rw[hl] at hk;cases hk⟩
 have z':=jGd hs
 have hi:=(List.getElem?_eq_some_iff.mp z').1
 have hl:i<vs.length:=by rw[h.1];exact hi
 have hv:vs[i]? = some vs[i]:=List.getElem?_eq_getElem hl
 refine⟨vs[i],?_,(h.2 i _ _ hv z').1⟩
 unfold L2.start
 rw[List.getElem?_append_left (by simpa using hl),List.getElem?_map,hv]
 rfl
section
variable {P:Program}{w:World}{K:PySem.W.Frag}{mg:Str→Option Value}{base:Heap}
theorem fn3 {x qual:Str}{st:Stmt}{f:Addr}{fd:FuncData}{N ps:List Str}{k:Nat}{sp:Sp3}(F:Fun K x qual st f fd) (Sc:jAe N ps (jAc st)) (len:∀ss R U,sp ss R U→ss.length=ps.length)
 (hbody:∀(cdv:Value)(A:Around)(outer:List Env)(s:Shared)(H:Hp)(E:XK)(ss:List S)(R:S→Prop)(U:Str→Prop),jDO k (A.deeper (envOfC qual (jAc st) s.heap.objs.size f cdv))→sp ss R U →
  ∃t,jDx (jH8 CX0 P w K mg base N qual (jAc st) f cdv A outer s H E).nox (jBD st) t∧t { nx:=fun _=>R (.d .non),rt:=R } (jBO N ss)):jAz P w K mg base CX0 (k+1) f fd ps (jAj K mg sp):=by
 refine F.ok Sc (fun vs H Q E hh=>by obtain⟨z,ss,R,U,hz,ha,h3,_⟩:=hh;exact ha.1.trans (len ss R U h3)) fun cdv A outer s H vs Q E hr hh9=>?_
 obtain⟨z,ss,R,U,hz,ha,h3,q,qe⟩:=hh9
 obtain⟨t,ht,hq⟩:=hbody cdv A outer s H E ss R U hr h3
 exact⟨_,ht.out,⟨H,z⟩,z,jBO N ss,_,jDz ha hz (jBb.refl H),hq,⟨fun τ σ p r h=>q (.d .non) _ p r.ext Is.non jEt h,fun _ _ _ _ z=>z.elim,fun _ _ _ _ z=>z.elim,fun s v p e i f h=>q s v p e i f h⟩⟩
end
def jJf:Sp3:=fun ss R _=>∃ns:List Int,ss=[.r (ns.map D.int)]∧ns.length≤63∧R (.d (.bl true))
theorem jM4 {K:PySem.W.Frag}{H:Hp}(ns:List Int):Iss K H (ns.map V.int) (ns.map D.int):=by
 refine⟨by simp,fun i v x h1 h2=>?_⟩
 rw[List.getElem?_map] at h1 h2
 cases e:ns[i]? with
 |none=>rw[e] at h1;cases h1
 |some n =>
  rw[e] at h1 h2
  cases h1
  cases h2
  exact .int n
end L3
namespace L3
open PySem PySem.Spec PyProof.Rows L2
def Itc (lo c:Int)(n:Nat):It:=⟨fun i _=>i<n,fun i H x H'=>H'=H∧x=.int (lo+i*c),fun i _=>n≤i⟩
theorem jIQ {P:Program}{w:World}{K:PySem.W.Frag}{tg:Expr}(it:Addr) (lo c:Int) (n:Nat):jMw P w K tg (Itc lo c n) [it] it (fun i h=>IsRangeIter h it (lo+(i:Nat)*c) ((n:Int)-(i:Nat)) c) where
 mem:=by simp
 obj:=fun i h st b hb=>by
  have e:b=it:=by simpa using hb
  subst e
  exact⟨_,st,fun v z=>by
   have z':Data.fields _=Data.cell v:=z
   cases z'⟩
 keep:=fun i h h' st k=>k it (by simp) _ st
 item:=by
  intro X hP hw hK hc i pins s σ H E I hf st hg
  subst hP hw hK
  obtain⟨f0,f1,f2,f3,f4,f5⟩:=hf it (by simp)
  have W:=Walks.range (prog:=X.prog) (w:=X.w) (I.ok.hd hc) it lo c n
  refine W.item i s _ _ hg st fun v h' tk hv st' kk=>?_
  obtain⟨t,rfl⟩:=hv
  have I1:Inv X pins σ H { s with heap:=h',toks:=tk }:=I.turned (fun b o hb e=>kk b o (by simpa using hb) e) f0 f1 f3 f4 f5
  exact⟨_,rfl,jMF (s:={ s with heap:=h',toks:=tk }) (n:="range_iterator") st' rfl rfl (by decide) ⟨.int (lo+i*c),H,I1,⟨t,rfl⟩,⟨rfl,rfl⟩,st',fun b hb=>(hf b hb).1⟩⟩
 done:=by
  intro X hP hw hK hc i pins s σ H E I hf st hg
  subst hP hw hK
  obtain⟨f0,f1,f2,f3,f4,f5⟩:=hf it (by simp)
  exact wpAny_pyNext_range_end (I.ok.hd hc) st (by have:n≤i:=hg;omega) fun h' eb=>⟨rfl,I.turned (t':=s.toks) (fun b o hb e=>eb b o hb e) f0 f1 f3 f4 f5⟩
 self:=fun _ _ _ _ _ st h=>wpAny_pyIter_rangeiter st h
section
variable {X:Cx}{tg:Expr}
def jPR (ta:TA):TI:=fun σ H R=>ta σ H fun vs H1=>∃i j c:Int,vs=[.int i,.int j,.int c]∧(c≠0∧c.natAbs<1073741824∧Builtin.Range.small i j c=true∧0≤Builtin.Range.rangeSize i j c)∧R (Itc i c (Builtin.Range.rangeSize i j c).toNat) H1
theorem jLR {a b d:Expr}{ta:TA}{p pos:Pos}(hg:Gl X "range") (hm:X.mg "range"=none) (ha:PA X [a,b,d] ta) (hs:starEach [a,b,d] X.env=[(false,eval a X.env),(false,eval b X.env),(false,eval d X.env)]:=by rfl) (hs2:starEach [b,d] X.env=[(false,eval b X.env),(false,eval d X.env)]:=by rfl) :
 PI X tg (.Call (.Name "range" p) [a,b,d] [] pos) (jPR ta):=by
 intro pins s σ H R I h
 refine Call_ (jFw I hg hm boot_range (PyProof.Rows.callWith_type1 (thn (ha pos pins s σ H _ I h) fun us s1 ⟨vs,H1,I1,r1,q1⟩=>?_) (by rw[hs,hs2]) (by rw[hs2];rfl)))
 obtain⟨i,j,c,e,⟨q1,q2,q3,q4⟩,q⟩:=q1
 subst e
 cases r1 with
 |cons r rr =>
  cases rr with
  |cons r' rr =>
   cases rr with
   |cons r'' rr =>
    cases rr
    obtain⟨t,rfl⟩:=r
    obtain⟨t',rfl⟩:=r'
    obtain⟨t'',rfl⟩:=r''
    refine call_range_3 q1 ?_ (.inl (PyProof.noPylong_small q2))
    refine wpAny_pyIter_range (IsRange.new ..) q3 ?_
    have I2:Inv X pins σ H1 { s1 with heap:=s1.heap.push { cls:=.type "range",data:=.fields #[.int i t,.int j t',.int c t''] },toks:=s1.toks }:=I1.kept fun b o e=>Heap.get?_push_of_some _ e
    refine⟨_,[(s1.heap.push { cls:=.type "range",data:=.fields #[.int i t,.int j t',.int c t''] }).objs.size],_,_,H1,rfl,I2.kept (t':=s1.toks) fun b o e=>Heap.get?_push_of_some _ e,jIQ _ i c (Builtin.Range.rangeSize i j c).toNat,?_,fun b hb=>?_,q⟩
    ·have e1:i+((0:Nat):Int)*c=i:=by simp
     have e2:(((Builtin.Range.rangeSize i j c).toNat:Nat):Int)-((0:Nat):Int)=Builtin.Range.rangeSize i j c:=by omega
     show IsRangeIter _ _ (i+((0:Nat):Int)*c) ((((Builtin.Range.rangeSize i j c).toNat:Nat):Int)-((0:Nat):Int)) c
     rw[e1,e2]
     exact Heap.get?_push_size _ rfl
    ·have e:b=(s1.heap.push { cls:=.type "range",data:=.fields #[.int i t,.int j t',.int c t''] }).objs.size:=by simpa using hb
     subst e
     exact I2.fpOk (Nat.le_refl _) (I2.hok.fresh (Nat.le_refl _))
theorem jJ6 {lo c:Int}{n:Nat}{g:TG}{tb:TS}{D:jJe}{σ:St}{H:Hp}(Pv:Nat→St→Hp→Prop) (h0:Pv 0 σ H)
 (hs:∀i σ H,i<n→Pv i σ H→g (.int (lo+i*c)) σ H fun σ2 H2=>tb { D with nx:=Pv (i+1),ct:=Pv (i+1),bk:=D.nx } σ2 H2) (hd:∀σ H,Pv n σ H→D.nx σ H) :
 ∃W:Nat→Nat→St→Hp→Prop,(∃m,W 0 m σ H)∧∀i m σ H,W i m σ H →
  ((Itc lo c n).stop i H∧D.nx σ H)∨((Itc lo c n).go i H∧∃N:St→Hp→Prop,(∀σ' H',N σ' H'→∃m',m'<m∧W (i+1) m' σ' H')∧∀x H',(Itc lo c n).yld i H x H'→g x σ H' fun σ2 H2=>tb { D with nx:=N,ct:=N,bk:=D.nx } σ2 H2):=by
 refine⟨fun i m σ H=>m=n-i∧i≤n∧Pv i σ H,⟨n,by simp,Nat.zero_le _,h0⟩,?_⟩
 rintro i m σ H ⟨rfl,hi,p⟩
 by_cases hlt:i<n
 ·refine .inr ⟨hlt,Pv (i+1),fun σ' H' p'=>⟨n-(i+1),by omega,rfl,hlt,p'⟩,fun x H' y=>?_⟩
  obtain⟨e,y⟩:=y
  subst e y
  exact hs i σ _ hlt p
 ·have e:i=n:=by omega
  subst e
  exact .inl ⟨Nat.le_refl _,hd σ H p⟩
theorem jRV {K:PySem.W.Frag}{H:HZ}{vs:List V}{s t r:S}(h:Args K H vs [s,t,r]):∃v u w,vs=[v,u,w]∧IsS K H v s∧IsS K H u t∧IsS K H w r:=by
 obtain⟨hl,hv⟩:=h
 obtain⟨v,u,w,rfl⟩:=jTt hl
 exact⟨v,u,w,rfl,(hv 0 v s rfl rfl).1,(hv 1 u t rfl rfl).1,(hv 2 w r rfl rfl).1⟩
variable {e:Expr}{pos:Pos}
def jR0 (i:Nat)(ta:TA3)(tb:TS3):TS3:=fun D3 τ=>ta τ fun ss=>match ss with
 |[.d (.int a),.d (.int b),.d (.int c)]=>(c≠0∧c.natAbs<1073741824∧Builtin.Range.small a b c=true∧0≤Builtin.Range.rangeSize a b c)∧jSb i a c (Builtin.Range.rangeSize a b c).toNat tb D3 τ
 |_=>False
theorem jPS {i:Nat}{x:Str}{px:Pos}{body:List Stmt}{tb:TS3}{ta:TA3}(h:PS X (.For (.Name x px) e body [] pos) (jN1 (jPR (FA X ta)) (jDg i) (FS X tb))) (hp:jCT X i:=by first|exact jCn rfl|exact jCv rfl (by decide)|assumption):PS3 X (.For (.Name x px) e body [] pos) (jR0 i ta tb):=⟨jBG h fun D2 σ H hh=>by
 obtain⟨B,z,τ,D3,r,ht,c⟩:=hh
 refine⟨B,_,τ,_,r,ht,fun ss vs H1 e1 i1 h1=>?_⟩
 split at h1
 ·rename_i a b st
  obtain⟨v,u,w,rfl,hv,hu,hw⟩:=jRV i1
  cases Is.int_inv hv
  cases Is.int_inv hu
  cases Is.int_inv hw
  obtain⟨hq,I,i0,turn,out⟩:=h1
  refine⟨a,b,st,rfl,hq,jJ6 (lo:=a) (c:=st) (n:=(Builtin.Range.rangeSize a b st).toNat) (g:=jDg i) (tb:=FS X tb) (D:=D2) (fun n σ1 H1=>∃z1 τ1,Rep X B τ1 σ1 ⟨H1,z1⟩∧I n τ1) ⟨_,τ,r.mono e1,i0⟩ ?_ ?_⟩
  ·rintro n σ1 H1 hn ⟨z1,τ1,r1,i1⟩
   exact⟨B,_,_,_,r1.setd (.int _) hp,turn n τ1 hn i1,c.inB r.leR fun τ' σ' p' r' h'=>⟨p'.z,τ',r',h'⟩⟩
  ·rintro σ1 H1 ⟨z1,τ1,r1,i1⟩
   exact c.nx _ _ _ r1 (out τ1 i1)
 ·exact h1.elim⟩
end
end L3
namespace L3
open PySem PySem.Spec PyProof.Rows L2
def jIJ:D→Bool
 |.non=>true
 |.bl _=>true
 |.int _=>true
 |.str _=>true
 |_=>false
def jDa:Nat→D→Bool
 |0,x=>jIJ x
 |n+1,.tup xs=>xs.all (jDa n)
 |_+1,x=>jIJ x
def eqF:D→D→Bool
 |.non,.non=>true
 |.bl a,.bl b=>a==b
 |.bl a,.int b=>(if a then 1 else 0)==b
 |.int a,.bl b=>a==(if b then 1 else 0)
 |.int a,.int b=>a==b
 |.str a,.str b=>a==b
 |_,_=>false
def eqN:Nat→D→D→Bool
 |0,x,y=>eqF x y
 |n+1,.tup xs,.tup ys=>(xs.zip ys).all (fun p=>eqN n p.1 p.2)&&xs.length==ys.length
 |_+1,.tup _,_=>false
 |_+1,_,.tup _=>false
 |_+1,x,y=>eqF x y
theorem jFM:∀(n:Nat)(x:D),jDa n x=true→eqN n x x=true
 |0,x,h=>by cases x<;>first|rfl|(exact beq_self_eq_true _)|cases h
 |n+1,x,h=>by
  cases x with
  |tup xs =>
   have h':xs.all (jDa n)=true:=h
   show((xs.zip xs).all (fun p=>eqN n p.1 p.2)&&xs.length==xs.length)=true
   rw[beq_self_eq_true,Bool.and_true,List.all_eq_true]
   rintro⟨a,b⟩ hp
   obtain⟨i,hi⟩:=List.getElem?_of_mem hp
   rw[List.getElem?_zip_eq_some] at hi
   obtain⟨h1,h2⟩:=hi
   have e:a=b:=Option.some.inj (h1.symm.trans h2)
   subst e
   exact jFM n a (List.all_eq_true.mp h' a (List.mem_of_getElem? h1))
  |_=>first|rfl|(exact beq_self_eq_true _)|cases h
theorem Is.flatV {K:PySem.W.Frag}{H:Hp}{v:V}{x:D}(h:Is K H v x) (f:jIJ x=true):flatV v=true:=by
 cases h<;>first|rfl|cases f
theorem jPV {K:PySem.W.Frag}{H:Hp}{v u:V}{x y:D}(h:Is K H v x) (h':Is K H u y) (f:jIJ x=true) (f':jIJ y=true):eqV v u=eqF x y:=by
 cases h<;>first|(cases f;done)|(cases h'<;>first|(cases f';done)|rfl)
theorem jD5 {its:List Value}{j:Nat}(h:j<its.toArray.size){u:Value}(e:its[j]? = some u):its.toArray[j]=u:=by
 have hj:j<its.length:=by simpa using h
 rw[List.getElem?_eq_getElem hj] at e
 have e':=Option.some.inj e
 rw[←e']
 simp
section
variable {X:Cx}{pins:List (Addr×Obj)}{σ:St}{H:Hp}{s:Shared}
theorem jNq (I:Inv X pins σ H s):∀(n:Nat){v:V}{x y:D},jDa n x=true→jDa n y=true→Is X.K H v x→Is X.K H v y→x=y
 |0,v,x,y,fx,fy,hx,hy=>by
  cases hx<;>first|(cases fx;done)|(cases hy<;>first|rfl|(cases fy;done))
 |n+1,v,x,y,fx,fy,hx,hy=>by
  cases hx with
  |@tup a vs xs h hl r =>
   cases hy with
   |@tup _ ws ys h2 hl2 r2 =>
    have e:=I.tuple_inj h h2
    subst e
    congr 1
    apply List.ext_getElem?
    intro i
    cases hv:vs[i]? with
    |none =>
     have hi:=List.getElem?_eq_none_iff.mp hv
     rw[List.getElem?_eq_none_iff.mpr (by omega),List.getElem?_eq_none_iff.mpr (by omega)]
    |some v =>
     have hi:=(List.getElem?_eq_some_iff.mp hv).1
     have hx:xs[i]? = some (xs[i]'(by omega)):=List.getElem?_eq_getElem (by omega)
     have hy:ys[i]? = some (ys[i]'(by omega)):=List.getElem?_eq_getElem (by omega)
     rw[hx,hy]
     congr 1
     exact jNq I n (List.all_eq_true.mp (show xs.all (jDa n)=true from fx) _ (List.mem_of_getElem? hx)) (List.all_eq_true.mp (show ys.all (jDa n)=true from fy) _ (List.mem_of_getElem? hy)) (r i v _ hv hx) (r2 i v _ hv hy)
   |lst=>cases fy
   |ref=>cases fy
  |lst=>cases fx
  |ref=>cases fx
  |ty=>cases fx
  |_=>cases hy<;>first|rfl|(cases fy;done)
theorem jIo (I:Inv X pins σ H s){n:Nat}{A:Around}{a b:Addr}{vs ws:List V}{xs ys:List D}(ha:SqT X.K H a vs) (hb:SqT X.K H b ws) (hx:Iss X.K H vs xs) (hy:Iss X.K H ws ys) (hu:A.units<cLine)
 (ih:∀(x y:D)(v u:V)(v' u':Value),x∈xs→y∈ys→Is X.K H v x→Is X.K H u y→jBM v v'→jBM u u'→SeqAt.EqAt A.in1 s v' u' (eqN n x y)):SeqAt.RcAt A s (.ref a) (.ref b) (eqN (n+1) (.tup xs) (.tup ys)):=by
 obtain⟨its,r1,p1,_⟩:=I.tuple ha
 obtain⟨its2,r2,p2,_⟩:=I.tuple hb
 have l1:=r1.length
 have l2:=r2.length
 have k1:=hx.1
 have k2:=hy.1
 have key:=SeqAt.RcAt.tuples (A:=A) (s:=s) (l:=a) (b:=b) (items:=its.toArray) (items2:=its2.toArray) (e:=fun j=>match xs[j]?,ys[j]? with|some x,some y=>eqN n x y|_,_=>true) p1 p2 hu (fun j h1 h2=>by
  have h1':j<its.length:=by simpa using h1
  have h2':j<its2.length:=by simpa using h2
  have gx:xs[j]? = some (xs[j]'(by omega)):=List.getElem?_eq_getElem (by omega)
  have gy:ys[j]? = some (ys[j]'(by omega)):=List.getElem?_eq_getElem (by omega)
  have gv:vs[j]? = some (vs[j]'(by omega)):=List.getElem?_eq_getElem (by omega)
  have gw:ws[j]? = some (ws[j]'(by omega)):=List.getElem?_eq_getElem (by omega)
  obtain⟨u1,e1,q1⟩:=r1.get gv
  obtain⟨u2,e2,q2⟩:=r2.get gw
  rw[jD5 h1 e1,jD5 h2 e2]
  rw[gx,gy]
  exact ih _ _ _ _ _ _ (List.mem_of_getElem? gx) (List.mem_of_getElem? gy) (hx.2 j _ _ gv gx) (hy.2 j _ _ gw gy) q1 q2)
 have e:eqN (n+1) (.tup xs) (.tup ys)=((List.range (min its.toArray.size its2.toArray.size)).all (fun j=>match xs[j]?,ys[j]? with|some x,some y=>eqN n x y|_,_=>true)&&its.toArray.size==its2.toArray.size):=by
  show((xs.zip ys).all (fun p=>eqN n p.1 p.2)&&xs.length==ys.length)=_
  have s1:its.toArray.size=xs.length:=by simp;omega
  have s2:its2.toArray.size=ys.length:=by simp;omega
  rw[s1,s2]
  congr 1
  rw[Bool.eq_iff_iff,List.all_eq_true,List.all_eq_true]
  constructor
  ·intro h j hj
   rw[List.mem_range] at hj
   have gx:xs[j]? = some (xs[j]'(by omega)):=List.getElem?_eq_getElem (by omega)
   have gy:ys[j]? = some (ys[j]'(by omega)):=List.getElem?_eq_getElem (by omega)
   rw[gx,gy]
   exact h (_,_) (List.mem_of_getElem? (List.getElem?_zip_eq_some.mpr ⟨gx,gy⟩))
  ·rintro h ⟨x,y⟩ hp
   obtain⟨j,hj⟩:=List.getElem?_of_mem hp
   obtain⟨gx,gy⟩:=List.getElem?_zip_eq_some.mp hj
   have h1:=(List.getElem?_eq_some_iff.mp gx).1
   have h2:=(List.getElem?_eq_some_iff.mp gy).1
   have:=h j (by rw[List.mem_range];omega)
   simp only[] at gx gy
   rw[gx,gy] at this
   exact this
 rw[e]
 exact key
theorem jKC (I:Inv X pins σ H s):∀(n:Nat)(A:Around)(x y:D)(v u:V)(v' u':Value),A.units+n<cLine→jDa n x=true→jDa n y=true→Is X.K H v x→Is X.K H u y→jBM v v'→jBM u u'→SeqAt.EqAt A s v' u' (eqN n x y)
 |0,A,x,y,v,u,v',u',_,fx,fy,hx,hy,rv,ru=>by
  show SeqAt.EqAt A s v' u' (eqF x y)
  rw[←jPV hx hy fx fy]
  exact jNF rv ru (hx.flatV fx) (hy.flatV fy)
 |n+1,A,x,y,v,u,v',u',hu,fx,fy,hx,hy,rv,ru=>by
  have flat:jIJ x=true→jIJ y=true→eqN (n+1) x y=eqF x y→SeqAt.EqAt A s v' u' (eqN (n+1) x y):=fun f1 f2 e=>by
   rw[e,←jPV hx hy f1 f2]
   exact jNF rv ru (hx.flatV f1) (hy.flatV f2)
  have hu0:A.units<cLine:=by omega
  cases hx with
  |@tup a vs xs ha hl r =>
   cases rv
   obtain⟨its,r1,p1,_⟩:=I.tuple ha
   have t1:s.heap.IsTuple a its.toArray:=p1
   cases hy with
   |@tup b ws ys hb hl2 r2 =>
    cases ru
    by_cases hab:a=b
    ·subst hab
     have e:=jNq I (n+1) fx fy (.tup ha hl r) (.tup hb hl2 r2)
     rw[e,jFM (n+1) _ fy]
     exact SeqAt.EqAt.same _
    ·refine SeqAt.EqAt.of_refs hab (jIo I ha hb ⟨hl,r⟩ ⟨hl2,r2⟩ hu0 fun x y v u v' u' mx my ix iy rv ru=>?_)
     exact jKC I n A.in1 x y v u v' u' (by show A.units+1+n<cLine;omega) (List.all_eq_true.mp (show xs.all (jDa n)=true from fx) x mx) (List.all_eq_true.mp (show ys.all (jDa n)=true from fy) y my) ix iy rv ru
   |non=>cases ru;exact SeqAt.EqAt.tuple_none t1 hu0
   |bl c=>cases ru;exact SeqAt.EqAt.tuple_bool c t1 hu0
   |int c=>obtain⟨t,rfl⟩:=ru;exact SeqAt.EqAt.tuple_int c t t1 hu0
   |str c=>obtain⟨t,rfl⟩:=ru;exact SeqAt.EqAt.tuple_str c t t1 hu0
   |ty c=>cases fy
   |lst=>cases fy
   |ref=>cases fy
  |non =>
   cases hy with
   |@tup b ws ys hb hl2 r2 =>
    cases ru;cases rv
    obtain⟨its,r1,p1,_⟩:=I.tuple hb
    exact SeqAt.EqAt.none_tuple (show s.heap.IsTuple b its.toArray from p1) hu0
   |ty c=>cases fy
   |lst=>cases fy
   |ref=>cases fy
   |_=>exact flat rfl rfl rfl
  |bl c =>
   cases hy with
   |@tup b ws ys hb hl2 r2 =>
    cases ru;cases rv
    obtain⟨its,r1,p1,_⟩:=I.tuple hb
    exact SeqAt.EqAt.bool_tuple c (show s.heap.IsTuple b its.toArray from p1) hu0
   |ty c=>cases fy
   |lst=>cases fy
   |ref=>cases fy
   |_=>exact flat rfl rfl rfl
  |int c =>
   cases hy with
   |@tup b ws ys hb hl2 r2 =>
    obtain⟨t,rfl⟩:=rv;cases ru
    obtain⟨its,r1,p1,_⟩:=I.tuple hb
    exact SeqAt.EqAt.int_tuple c t (show s.heap.IsTuple b its.toArray from p1) hu0
   |ty c=>cases fy
   |lst=>cases fy
   |ref=>cases fy
   |_=>exact flat rfl rfl rfl
  |str c =>
   cases hy with
   |@tup b ws ys hb hl2 r2 =>
    obtain⟨t,rfl⟩:=rv;cases ru
    obtain⟨its,r1,p1,_⟩:=I.tuple hb
    exact SeqAt.EqAt.str_tuple c t (show s.heap.IsTuple b its.toArray from p1) hu0
   |ty c=>cases fy
   |lst=>cases fy
   |ref=>cases fy
   |_=>exact flat rfl rfl rfl
  |ty c=>cases fx
  |lst=>cases fx
  |ref=>cases fx
def jSu (n:Nat):R3:=fun dx dy R=>match dx,dy with
 |.tup xs,.tup ys=>jDa n (.tup xs)=true∧jDa n (.tup ys)=true∧R (.bl (eqN n (.tup xs) (.tup ys)))
 |_,_=>False
theorem jQx (n:Nat)(hu:X.A.units+n<cLine):jGm X (compareOp .Eq) (jSu n):=by
 intro pins s σ H x y v u Q I rx ry h
 obtain⟨z,dx,dy,R,hz,hx,hy,h3,q⟩:=h
 replace hx:=hx.mono hz
 replace hy:=hy.mono hz
 unfold jSu at h3
 split at h3
 ·rename_i xs ys
  obtain⟨fx,fy,h3⟩:=h3
  cases n with
  |zero=>cases fx
  |succ n =>
   obtain⟨a,vs,rfl,ha,ia⟩:=Is.tup_inv hx
   obtain⟨b,ws,rfl,hb,ib⟩:=Is.tup_inv hy
   cases rx
   cases ry
   refine jIo (A:=X.A) (n:=n) I ha hb ia ib (by omega) (fun x y v u v' u' mx my ix iy rv ru=>?_) X.prog X.w X.xe _ ⟨.bl _,H,I,rfl,q _ _ ⟨H,z⟩ (Ext.refl hz) (.bl _) h3⟩
   exact jKC I n X.A.in1 x y v u v' u' (by show X.A.units+1+n<cLine;omega) (List.all_eq_true.mp (show xs.all (jDa n)=true from fx) x mx) (List.all_eq_true.mp (show ys.all (jDa n)=true from fy) y my) ix iy rv ru
 ·exact h3.elim
end
end L3
namespace L3
open PySem PySem.Spec PyProof.Rows L2
theorem jCo.there {P:Program}{w:World}{H:Hp}{h:Heap}{a:Addr}{o:HO}(x:jCo P w H h a o):∃u,h.get? a=some u:=by
 cases o with
 |lst xs=>obtain⟨_,_,_,_,e⟩:=x;exact⟨_,e⟩
 |tup xs=>obtain⟨_,_,_,_,e,_⟩:=x;exact⟨_,e⟩
 |dK kvs=>obtain⟨_,_,_,_,o,_,_,e,_⟩:=x;exact⟨_,e⟩
 |dT kvs=>obtain⟨_,_,_,_,o,_,_,e,_⟩:=x;exact⟨_,e⟩
 |set S n=>obtain⟨o,_,_,_,e,_⟩:=x;exact⟨_,e⟩
 |ins C dx fs=>obtain⟨_,_,_,e,_⟩:=x;exact⟨_,e⟩
 |own y=>obtain⟨_,e⟩:=x;exact⟨_,e⟩
 |xd fs=>obtain⟨_,⟨_,_,_,e,_⟩,_⟩:=x;exact⟨_,e⟩
 |rng lo hi=>obtain⟨_,_,_,e⟩:=x;exact⟨_,e⟩
 |frz ob u=>obtain⟨e,_⟩:=x;exact⟨_,e⟩
 |tbl ps=>obtain⟨_,e,_⟩:=x;exact⟨_,e⟩
 |met f y=>exact⟨_,show h.get? a=some _ from x⟩
 |ext φ=>obtain⟨_,⟨_,e⟩,_⟩:=x;exact⟨_,e⟩
structure Fly (P:Program)(w:World)(l:List Env)(H H':Hp)(h h':Heap)(ea C:Addr)(a0:Value)(B:Heap):Prop where
 fl:Heap.FlyingW B l ea (.ref C) a0 h'
 un:Un (frs l) [] H H' h h'
 hok:HOk P w H' h'
 kb:∀b o,h.get? b=some o→H b=none→b∉frs l→B.get? b=some o
 tr:∀b o,H' b=some o→∃ob,B.get? b=some ob
 old:∀b o,h.get? b=some o→b∉frs l→∃ob,B.get? b=some ob
section
variable {P:Program}{w:World}{l:List Env}{H H':Hp}{h h' h'':Heap}{ea C:Addr}{a0:Value}{B:Heap}
theorem jF8 {l:List Env}{b:Addr}{B h:Heap}(F:h.FunFrames B l) (hb:b∈frs l):∃o,h.get? b=some o∧∀vs,o.data≠.fields vs:=(F.mem hb).2
theorem jPw {H':Hp}{h' h'':Heap}{B:Heap}(ok:HOk P w H' h') (tr:∀b o,H' b=some o→∃ob,B.get? b=some ob) (s1:B.StaysIn h') (s2:B.StaysIn h''):HOk P w H' h'':=fun a o e=>by
 refine(ok a o e).stay (fun b u hb q=>?_) (fun _ q=>q) fun _ _ q=>q
 have hB:∃ob,B.get? b=some ob:=by
  rcases hb with rfl|hb
  ·exact tr _ _ e
  ·exact tr _ _ hb
 obtain⟨ob,eb⟩:=hB
 have:=s1 b ob eb
 rw[q] at this
 cases this
 exact s2 b _ eb
theorem Fly.to (f:Fly P w l H H' h h' ea C a0 B)(fl:Heap.FlyingW B l ea (.ref C) a0 h'')(u:h'.UpToSlots h''):Fly P w l H H' h h'' ea C a0 B where
 fl:=fl
 un:=by
  refine⟨fun b o e n hb _=>fl.1 b o (f.kb b o e n hb),fun b o e n hb hx=>?_,f.un.free,fun b o e hx=>?_,f.un.tups,f.un.frzs,f.un.tbls⟩
  ·obtain⟨sl,e1⟩:=f.un.slot b o e n hb hx
   obtain⟨o2,e2,d⟩:=jF8 f.fl.2.2.1 hb
   rw[e1] at e2
   cases e2
   obtain⟨sl2,e3⟩:=u b _ e1 d
   exact⟨sl2,e3⟩
  ·by_cases hb:b∈frs l
   ·obtain⟨o2,e2,d⟩:=jF8 f.fl.2.2.1 hb
    obtain⟨sl2,e3⟩:=u b _ e2 d
    exact⟨_,e3⟩
   ·obtain⟨ob,eb⟩:=f.old b o e hb
    exact⟨ob,fl.1 b ob eb⟩
 hok:=jPw f.hok f.tr f.fl.1 fl.1
 kb:=f.kb
 tr:=f.tr
 old:=f.old
end
def CXU (P:Program)(w:World):CXT:=fun outer H s E e s'=>∃(ea C:Addr)(a0:Value)(B:Heap)(H':Hp),e=.ref ea∧s'.os=s.os∧AllBare s'.gens∧Fly P w outer H H' s.heap s'.heap ea C a0 B∧E (.ref C) none H'
theorem jDl {env:Env}{l:List Env}{L:Addr}(h:env.frame=some L):frs (env::l)=L::frs l:=by
 unfold frs
 rw[List.filterMap_cons,h]
section
variable {X:Cx}{pins:List (Addr×Obj)}{σ:St}{H H':Hp}{s s':Shared}{ea C:Addr}{a0:Value}{B:Heap}{h1:Heap}{vs:List Value}
theorem jPt (I:Inv X pins σ H s)(hst:X.stack=X.env::X.outer)(hf:X.env.frame=some X.env.locals)(hex:X.ex=[])(hx:Heap.MadeExcOf s.heap h1 ea (.ref C) vs){Q:Unit→Shared→Prop}{E:Value→Shared→Prop}
 (hQ:∀(h':Heap)(t:Addr)(B:Heap),Fly X.prog X.w X.outer X.H₀ H X.s₀.heap h' ea C (.ref t) B→Q () { s with heap:=h' }) :
 wpAny (model X.prog X.w) X.A (leaving X.env (.ref ea)) Q E { s with heap:=h1 }:=by
 have hfr:X.A.frames=some (X.env::X.outer):=by rw[←hst];exact I.ok.frames
 have hstk:=I.stack
 rw[hst] at hstk
 have hin:∀env∈(X.env::X.outer),∀b,env.frame=some b→b∈frs (X.env::X.outer):=fun env he b hb=>List.mem_filterMap.mpr ⟨env,he,hb⟩
 have hB:∀b o,s.heap.get? b=some o→b∉frs (X.env::X.outer)→(PySem.W.hideAll s.heap (frs (X.env::X.outer))).get? b=some o:=fun b o e hb=>PySem.W.hideAll_get _ e hb
 have ho:∀b o,(PySem.W.hideAll s.heap (frs (X.env::X.outer))).get? b=some o→s.heap.get? b=some o:=fun b o e=>PySem.W.of_hideAll _ e
 refine wpAny_leaves_madeW (base:=PySem.W.hideAll s.heap (frs (X.env::X.outer))) (h:=s.heap) (s:={ s with heap:=h1 }) hfr hf ho (PySem.W.funFrames_hide hstk hin) hx fun h' t fl _ _ up=>?_
 refine hQ h' t (PySem.W.hideAll s.heap (frs (X.env::X.outer))) ?_
 have up0:s.heap.UpToSlots h':=(Heap.UpToSlots.of_keeps hx.keeps).trans up
 have old:∀b o,X.s₀.heap.get? b=some o→b∉frs X.outer→b∉frs (X.env::X.outer):=fun b o e hb hm=>by
  rw[jDl hf] at hm
  rcases List.mem_cons.mp hm with rfl|hm
  ·exact absurd (Nat.lt_of_lt_of_le (Heap.lt_size e) I.ok.above) (Nat.lt_irrefl _)
  ·exact hb hm
 have nex:∀b:Addr,b∉X.ex:=fun b z=>by rw[hex] at z;cases z
 have tfr:∀b o,H b=some o→b∉frs (X.env::X.outer):=fun b o e hm=>by
  have:=I.stkFree b (by rw[hst];exact hm)
  rw[e] at this
  cases this
 have tr:∀b o,H b=some o→∃ob,(PySem.W.hideAll s.heap (frs (X.env::X.outer))).get? b=some ob:=fun b o e=>by
  obtain⟨u,eu⟩:=jCo.there (I.hok b o e)
  exact⟨u,hB b u eu (tfr b o e)⟩
 refine⟨fl,⟨fun b o e n hb _=>?_,fun b o e n hb _=>?_,fun b o e n _=>I.base.free b o e n (nex b),fun b o e _=>?_,I.base.tups,I.base.frzs,I.base.tbls⟩,jPw I.hok tr ho fl.1,fun b o e n hb=>?_,tr,fun b o e hb=>?_⟩
 ·exact fl.1 b o (hB b o (I.base.keep b o e n hb (nex b)) (old b o e hb))
 ·obtain⟨sl,e1⟩:=I.base.slot b o e n hb (nex b)
  obtain⟨o2,e2,d⟩:=jF8 hstk (by rw[jDl hf];exact List.mem_cons_of_mem _ hb)
  rw[e1] at e2
  cases e2
  obtain⟨sl2,e3⟩:=up0 b _ e1 d
  exact⟨sl2,e3⟩
 ·obtain⟨o1,e1⟩:=I.base.there b o e (nex b)
  by_cases hb:b∈frs X.outer
  ·obtain⟨o2,e2,d⟩:=jF8 hstk (by rw[jDl hf];exact List.mem_cons_of_mem _ hb)
   obtain⟨sl2,e3⟩:=up0 b _ e2 d
   exact⟨_,e3⟩
  ·exact⟨o1,fl.1 b o1 (hB b o1 e1 (old b o e hb))⟩
 ·exact hB b o (I.base.keep b o e n hb (nex b)) (old b o e hb)
 ·obtain⟨o1,e1⟩:=I.base.there b o e (nex b)
  exact⟨o1,hB b o1 e1 (old b o e hb)⟩
theorem jQo (I:Inv X pins σ H s)(hst:X.stack=X.env::X.outer)(hf:X.env.frame=some X.env.locals)(hex:X.ex=[])(f:Fly X.prog X.w X.stack H H' s.heap s'.heap ea C a0 B){Q:Unit→Shared→Prop}{E:Value→Shared→Prop}
 (hQ:∀h':Heap,Fly X.prog X.w X.outer X.H₀ H' X.s₀.heap h' ea C a0 B→Q () { s' with heap:=h' }):wpAny (model X.prog X.w) X.A (leaving X.env (.ref ea)) Q E s':=by
 have hfr:X.A.frames=some (X.env::X.outer):=by rw[←hst];exact I.ok.frames
 rw[hst] at f
 refine wpAny_leaves_onW hfr hf f.fl fun h' fl up=>hQ h' ?_
 have old:∀b o,X.s₀.heap.get? b=some o→b∉frs X.outer→b∉frs (X.env::X.outer):=fun b o e hb hm=>by
  rw[jDl hf] at hm
  rcases List.mem_cons.mp hm with rfl|hm
  ·exact absurd (Nat.lt_of_lt_of_le (Heap.lt_size e) I.ok.above) (Nat.lt_irrefl _)
  ·exact hb hm
 have nex:∀b:Addr,b∉X.ex:=fun b z=>by rw[hex] at z;cases z
 have up_:∀b,b∈frs X.outer→b∈frs (X.env::X.outer):=fun b hb=>by rw[jDl hf];exact List.mem_cons_of_mem _ hb
 have kb:∀b o,X.s₀.heap.get? b=some o→X.H₀ b=none→b∉frs X.outer→B.get? b=some o:=fun b o e n hb =>
  f.kb b o (I.base.keep b o e n hb (nex b)) (I.base.free b o e n (nex b)) (old b o e hb)
 have ol:∀b o,X.s₀.heap.get? b=some o→b∉frs X.outer→∃ob,B.get? b=some ob:=fun b o e hb=>by
  obtain⟨o1,e1⟩:=I.base.there b o e (nex b)
  exact f.old b o1 e1 (old b o e hb)
 refine⟨fl,⟨fun b o e n hb _=>fl.1 b o (kb b o e n hb),fun b o e n hb _=>?_,fun b o e n _=>?_,fun b o e _=>?_,fun b xs e=>f.un.tups b xs (I.base.tups b xs e),fun b o u e=>f.un.frzs b o u (I.base.frzs b o u e),fun b ps e=>?_⟩,jPw f.hok f.tr f.fl.1 fl.1,kb,f.tr,ol⟩
 ·obtain⟨sl,e1⟩:=I.base.slot b o e n hb (nex b)
  obtain⟨sl1,e2⟩:=f.un.slot b _ e1 (I.base.free b o e n (nex b)) (up_ b hb) (by simp)
  obtain⟨o3,e3,d⟩:=jF8 f.fl.2.2.1 (up_ b hb)
  rw[e2] at e3
  cases e3
  obtain⟨sl2,e4⟩:=up b _ e2 d
  exact⟨sl2,e4⟩
 ·obtain⟨o1,e1⟩:=I.base.there b o e (nex b)
  exact f.un.free b o1 e1 (I.base.free b o e n (nex b)) (by simp)
 ·by_cases hb:b∈frs X.outer
  ·obtain⟨o3,e3,d⟩:=jF8 f.fl.2.2.1 (up_ b hb)
   obtain⟨sl2,e4⟩:=up b _ e3 d
   exact⟨_,e4⟩
  ·obtain⟨ob,eb⟩:=ol b o e hb
   exact⟨ob,fl.1 b ob eb⟩
 ·obtain⟨m1,e1⟩:=I.base.tbls b ps e
  obtain⟨m2,e2⟩:=f.un.tbls b _ e1
  exact⟨m1++m2,by rw[e2,Array.append_assoc]⟩
theorem Fly.inv (I:Inv X pins σ H s)(f:Fly X.prog X.w X.stack H H' s.heap s'.heap ea C a0 B)(ho:s'.os=s.os)(hg:AllBare s'.gens):Inv X pins σ H' s' :=
 I.call' (ch:=[]) ho f.un f.hok hg (fun b z=>absurd z (by simp))
end
structure ExC (K:PySem.W.Frag)(x:Str)(C:Addr):Prop where
 ns:PySem.W.nsIn K mainGlobals x=some (some (.ref C))
 ex:PySem.W.excIn K C [.type "ValueError",.type "Exception",.type "BaseException",.type "object"] "ValueError.__new__"=true
theorem jMu {K:PySem.W.Frag}{mg:Str→Option Value}{base:Heap}(M:Mod K mg base) (p:Program):∃loose mb,PySem.W.TopRead p loose mg mb base:=by
 obtain⟨o,es,ep,ho,hd,hk,hm⟩:=M.glob
 obtain⟨mb,h1,h2⟩:=M.blt
 refine⟨es.toList.filterMap fun e=>match e.key with|.str x _=>some x|_=>none,mb,M.glob,h1,M.nolimit,h2,fun x _ hx _ _ _=>?_⟩
 rw[←hm x]
 unfold nsFind findBy
 cases q:es.find? (fun e=>e.key.isStr x) with
 |none=>rfl
 |some e =>
  exfalso
  have h3:=Array.find?_some q
  have h4:=Array.mem_of_find?_eq_some q
  apply hx
  rw[List.mem_filterMap]
  refine⟨e,by simpa using h4,?_⟩
  obtain⟨kh,key,val⟩:=e
  cases key with
  |str y t =>
   have h5:(Value.str y t).isStr x=true:=h3
   have h6:y=x:=by simpa [Value.isStr] using h5
   show some y=some x
   rw[h6]
  |_=>cases h3
structure jOa (X:Cx)(U:Str→Prop):Prop where
 raise:∀(pins:List (Addr×Obj))(σ:St)(H:Hp)(s:Shared)(h1:Heap)(ea C:Addr)(x:Str)(vs:List Value),Inv X pins σ H s→jBb X.H₀ H→X.mg x=some (.ref C)→U x→Heap.MadeExcOf s.heap h1 ea (.ref C) vs→X.xe (.ref ea) { s with heap:=h1 }
 pass:∀(pins:List (Addr×Obj))(σ:St)(H:Hp)(s:Shared)(e:Value)(s':Shared),Inv X pins σ H s→CXU X.prog X.w X.stack H s (fun cls _ H'=>∃x,X.mg x=some cls∧U x∧jBb X.H₀ H') e s'→X.xe e s'
theorem jK8 {P:Program}{w:World}{K:PySem.W.Frag}{mg:Str→Option Value}{base:Heap}{N:List Str}{qual:Str}{scope:Scope}{f:Addr}{cd:Value}{A:Around}{outer:List Env}{s:Shared}{H:Hp}{E:XK}{U:Str→Prop}
 (hE:∀x C H',jBb H H'→mg x=some (.ref C)→U x→E (.ref C) none H'):jOa (jH8 (CXU P w) P w K mg base N qual scope f cd A outer s H E) U where
 raise:=fun pins σ H1 s1 h1 ea C x vs I hs hm hu hx=>jPt I rfl rfl rfl hx fun h' t B fl=>⟨ea,C,.ref t,B,H1,rfl,I.os,I.bare,fl,hE x C H1 hs hm hu⟩
 pass:=fun pins σ H1 s1 e s' I h=>by
  obtain⟨ea,C,a0,B,H',rfl,ho,hg,fl,x,hm,hu,hs⟩:=h
  exact jQo I rfl rfl rfl fl fun h' fl'=>⟨ea,C,a0,B,H',rfl,ho.trans I.os,hg,fl',hE x C H' hs hm hu⟩
section
variable {X:Cx}{U:Str→Prop}{e:Expr}{es:List Expr}{te:TE3}{tr:TA3}{pos:Pos}
def jQI (U:Str→Prop)(x:Str)(te:TE3):TS3:=fun _ τ=>te τ fun _=>U x
theorem jEu {x:Str}{C:Addr}{np cpos:Pos}(xo:jOa X U) (hc:X.calm=true) (he:PE3 X e te) (hg:Gl X x) (ec:ExC X.K x C) (hm:X.mg x=some (.ref C))
 (hs:starEach [e] X.env=(false,eval e X.env)::starEach [] X.env:=by exact jBR rfl) (hplain:(backTo cpos (starEach [e] X.env)).any (·.1)=false:=by exact jCD rfl) (hd:(x==("__debug__":Str))=false:=by decide) (hl:X.lent=none:=by rfl) :
 PS3 X (.Raise (some (.Call (.Name x np) [e] [] cpos)) none pos) (jQI U x te):=by
 refine⟨?_⟩
 intro pins s σ H D2 I h
 obtain⟨B,z,τ,D3,r,ht,c⟩:=h
 obtain⟨loose,mb,T⟩:=jMu I.mod X.prog
 obtain⟨tl,N,nm,q,bs,hdct,sn,sub,ab,col,dd,k0,k1,k2,k3,k5,mN,hC,hN,hni,TL⟩:=(PySem.W.own_of_in I.mod.kin T ec.ns ec.ex).obj
 refine wpAny_Raise_call_subT (C:=C) (nm:=nm) (q:=q) (N:=N) (bs:=bs) (bm:=tl) (hdct:=hdct) (sn:=sn) (sub:=sub) (ab:=ab) (col:=col) (dd:=dd) (k0:=k0) (k1:=k1) (k2:=k2) (k3:=k3) (k5:=k5)
  PySem.F.excBase_ValueError (mN:=mN) (TL.hasType PySem.F.excBase_ValueError.hasBase) (I.ok.hd hc) hplain hni (jE6 I hg hm ⟨rfl,?_⟩ hd)
 have pa:=(jA2 he.out jB9 hs) cpos pins s σ H (fun vs H1=>vs.length=1∧jBb X.H₀ H1∧U x) I ⟨B,_,τ,_,r,ht,fun s' v H' e' i' f' h'=>⟨rfl,(r.all hl).trans e'.hh,h'⟩⟩
 rw[hs] at pa ⊢
 refine Calls.evalArgs_plain (thn pa fun us s2 ⟨vs,H2,I2,rv,hl,hsame,hu⟩=>⟨rfl,?_,I2.bk _ _ hC,hN.keeps I2.bk,TL.keeps I2.bk,fun h' ea hx=>?_⟩)
 ·have:=rv.length
  show us.length≤sizeLine
  have z:us.length=1:=by omega
  rw[z]
  decide
 ·exact xo.raise pins σ H2 s2 h' ea C x us I2 hsame hm hu hx
def jKM (U:Str→Prop)(sp:Sp3)(t:TA3):TE3:=fun τ R=>t τ fun ss=>sp ss R U
theorem jKS {k:Nat}{x:Str}{ps:List Str}{sp:Sp3}{p:Pos}(xo:jOa X U) (c:Cal X.prog X.w X.K X.mg X.base (CXU X.prog X.w) k x ps sp) (hr:jDO k X.A) (hg:Gl X x) (ha:PA3 X (e::es) tr)
 (hdb:(x==("__debug__":Str))=false:=by decide) (he:starEach (e::es) X.env=(false,eval e X.env)::starEach es X.env:=by exact jBR rfl) (hpl:(backTo pos (starEach es X.env)).any (·.1)=false:=by exact jCD rfl) (hl:X.lent=none∨∀y,¬U y:=by first|exact .inl rfl|exact .inr (fun _ z=>z)) :
 PE3 X (.Call (.Name x p) (e::es) [] pos) (jKM U sp tr):=by
 refine⟨?_⟩
 obtain⟨f,fd,F,hm,hk,hb⟩:=c.ex
 refine jBe (jKZ (E:=fun cls _ H'=>∃y,X.mg y=some cls∧U y∧jBb X.H₀ H') F hr hg hm hk hb .nil (fun pins σ H s e s' I h=>xo.pass pins σ H s e s' I h) ha.out hdb he hpl) fun σ H Q ⟨B,z,τ,R,r,ht,q⟩=>⟨B,_,τ,_,r,ht,fun ss vs H1 e1 i1 h1=>?_⟩
 show jAj X.K X.mg sp (vs++[]) H1.h Q _
 rw[List.append_nil]
 exact⟨H1.z,ss,R,U,e1.sub,i1,h1,fun s v H2 e2 i2 f2 h2=>q s v H2 (e1.trans e2) i2 (jKk e1 f2) h2,fun y C H2 e2 hy hu=>⟨y,hy,hu,hl.elim (fun hl=>(r.all hl).trans (e1.hh.trans e2)) (fun hn=>(hn y hu).elim)⟩⟩
end
section
variable {P:Program}{w:World}{K:PySem.W.Frag}{mg:Str→Option Value}{base:Heap}
theorem fnU {x qual:Str}{st:Stmt}{f:Addr}{fd:FuncData}{N ps:List Str}{k:Nat}{sp:Sp3}(F:Fun K x qual st f fd) (Sc:jAe N ps (jAc st)) (len:∀ss R U,sp ss R U→ss.length=ps.length)
 (hbody:∀(cdv:Value)(A:Around)(outer:List Env)(s:Shared)(H:Hp)(E:XK)(ss:List S)(R:S→Prop)(U:Str→Prop),jDO k (A.deeper (envOfC qual (jAc st) s.heap.objs.size f cdv))→sp ss R U →
  jOa (jH8 (CXU P w) P w K mg base N qual (jAc st) f cdv A outer s H E) U →
  ∃t,jDx (jH8 (CXU P w) P w K mg base N qual (jAc st) f cdv A outer s H E) (jBD st) t∧t { nx:=fun _=>R (.d .non),rt:=R } (jBO N ss)):jAz P w K mg base (CXU P w) (k+1) f fd ps (jAj K mg sp):=by
 obtain⟨oc,od,kV,doc,pm,an,cdv,ct,osl,rfl,lk,hcd⟩:=F.ex
 refine jM0 lk hcd Sc (fun vs H Q E hh=>by obtain⟨z,ss,R,U,hz,ha,h3,_⟩:=hh;exact ha.1.trans (len ss R U h3)) fun A outer s H vs Q E hr hh9=>?_
 obtain⟨z,ss,R,U,hz,ha,h3,q,qe⟩:=hh9
 obtain⟨t,ht,hq⟩:=hbody cdv A outer s H E ss R U hr h3 (jK8 qe)
 exact⟨_,ht.out,⟨H,z⟩,z,jBO N ss,_,jDz ha hz (jBb.refl H),hq,⟨fun τ σ p r h=>q (.d .non) _ p r.ext Is.non jEt h,fun _ _ _ _ z=>z.elim,fun _ _ _ _ z=>z.elim,fun s v p e i f h=>q s v p e i f h⟩⟩
theorem jAz.anyCX {CX:CXT}{k:Nat}{f:Addr}{fd:FuncData}{ps:List Str}{sp:Sp}(F:jAz P w K mg base CX0 k f fd ps sp):jAz P w K mg base CX k f fd ps sp :=
 ⟨F.len,fun A outer s H args us vs Q E hr h0 hb hv hs=>codeAny_mono (F.run A outer s H args us vs Q E hr h0 hb hv hs) fun r s' h=>by
  cases r with
  |error e=>exact(show False from h).elim
  |ok fl=>cases fl<;>exact h⟩
end
section
variable {K:PySem.W.Frag}{M:Model}{A:Around}{E:Value→Shared→Prop}{s:Shared}
structure HnC (K:PySem.W.Frag)(C:Addr):Prop where
 nt:PySem.W.instIn K (.ref C) (.type "tuple")=some false
 ty:(PySem.W.clsIn K C).isSome=true
 sb:PySem.W.mroIn K C (.type "BaseException")=some true
theorem jFs {h:Heap}{C:Addr}(X:K.In h) (hc:(PySem.W.clsIn K C).isSome=true):PySem.W.Looks M h (isType (.ref C)) true:=by
 obtain⟨cd,e⟩:=Option.isSome_iff_exists.mp hc
 unfold PySem.W.clsIn at e
 split at e
 ·rename_i c' d' cd' sl' ho
  intro A' Q' E' s' k q
  unfold isType loadHead
  exact wpAny_bind (wpAny_loadPart (k _ _ (X _ _ ho)) (wpAny_pure q))
 ·cases e
theorem jLQ {ea C Cx:Addr}{oe:Obj}{b:Bool}{Q:Bool→Shared→Prop}(X:K.In s.heap) (hn:HnC K Cx) (he:s.heap.get? ea=some oe) (hcls:oe.cls=.ref C) (hb:PySem.W.mroIn K C (.ref Cx)=some b) (q:Q b s) :
 wpAny M A (excMatches (.ref ea) (.ref Cx)) Q E s:=by
 have L1:=PySem.W.looks_instIn (M:=M) X hn.nt
 have L2:=jFs (M:=M) X hn.ty
 have L3:=PySem.W.looks_mroIn (M:=M) X hn.sb
 have L4:=PySem.W.looks_mroIn (M:=M) X hb
 have L5:PySem.W.Looks M s.heap (typeOf (.ref ea)) (.ref C):=hcls ▸ (PySem.W.Looks.ld he).andThen .now
 unfold excMatches isExcClass
 refine wpAny_bind (L1.at ?_)
 simp only[Bool.false_eq_true,if_false,pure_bind,List.forIn_cons,List.forIn_nil,bind_assoc]
 refine wpAny_bind (L2.at ?_)
 simp only[if_true]
 refine wpAny_bind (L3.at ?_)
 simp only[Bool.not_true,Bool.false_eq_true,if_false,pure_bind]
 refine wpAny_bind (L5.at ?_)
 refine wpAny_bind (L4.at ?_)
 cases b with
 |true=>simp only[if_true,pure_bind];exact wpAny_pure q
 |false=>simp only[Bool.false_eq_true,if_false,pure_bind];exact wpAny_pure q
end
def hnd (X:Cx)(ea:Addr):Cx:={ X with A:=X.A.mark (some (.ref ea)),calm:=false }
section
variable {X:Cx}{pins:List (Addr×Obj)}{σ:St}{H H':Hp}{s s':Shared}{ea C:Addr}{a0:Value}{B:Heap}
theorem jPA (I:Inv X pins σ H s)(ea:Addr):Inv (hnd X ea) pins σ H s :=
 ⟨⟨I.ok.mod,I.ok.kind,I.ok.glob,I.ok.blt,I.ok.above,I.ok.inj,I.ok.has,I.ok.cab,(fun z=>by cases z),I.ok.frames,I.ok.stk,I.ok.exf,I.ok.bs,I.ok.bsz,I.ok.noex,I.ok.exfs,I.ok.funs,I.ok.frf,I.ok.tb⟩,I.os,I.bare,I.base,I.loc,I.cell,I.free,I.freeC,I.pin,I.hok,I.len⟩
theorem jPj {CX:CXT}{k:Nat}{f:Addr}{fd:FuncData}{ps:List Str}{sp:Sp}{Ex:XK}{EE:Value→Shared→Prop}{x:Str}{p pos:Pos}{e:Expr}{es:List Expr}{t:TA}{Q:VK}(F:jAz X.prog X.w X.K X.mg X.base CX k f fd ps sp) (hr:jDO k X.A) (hg:Gl X x) (hm:X.mg x=some (.ref f))
 (hk:PySem.W.keepIn X.K (.ref f)=true) (hb:L2.Binds X.K fd ps []) (ha:PA X (e::es) t) (hno:∀e s,X.xe e s→EE e s) (I:Inv X pins σ H s)
 (hx:∀(H1:Hp)(s1:Shared)(e:Value)(s':Shared),Inv X pins σ H1 s1→CX X.stack H1 s1 Ex e s'→EE e s') (h:t σ H fun vs H1=>sp vs H1 Q Ex)
 (hdb:(x==("__debug__":Str))=false) (he:starEach (e::es) X.env=(false,eval e X.env)::starEach es X.env) (hpl:(backTo pos (starEach es X.env)).any (·.1)=false) :
 wpAny (model X.prog X.w) X.A (eval (.Call (.Name x p) (e::es) [] pos) X.env) (EP X pins σ Q) EE s:=by
 refine wpAny_Call_Name_kw (jE6 I hg hm ?_ hdb)
 refine PySem.W.callWith_K (h₀:=X.base) I.ok.mod.kin hk (wpAny_mono (ha pos pins s σ H _ I h) (fun us s1 ⟨vs,H1,I1,r,q⟩=>⟨I1.kIn,?_⟩) hno) he hpl
 have hl:(us++([]:List Value)).length=ps.length:=by rw[List.append_nil,←r.length];exact F.len _ _ _ _ q
 have bb:=hb s1 us I1.kIn hl
 rw[List.append_nil] at bb
 refine wpAny_call (codeAny_mono (F.run X.A X.stack s1 H1 ⟨us,[]⟩ us vs Q Ex hr I1.env0 bb r q) fun r s' hq=>?_)
 cases r with
 |error e=>exact hx H1 s1 e s' I1 hq
 |ok fl =>
  cases fl with
  |ret u=>exact I1.after hq
  |next=>exact False.elim hq
  |brk=>exact False.elim hq
  |cont=>exact False.elim hq
end
section
variable {X:Cx}{e:Expr}{es:List Expr}{tr:TA3}{th:TS3}
end
end L3
namespace L3
open PySem PySem.Spec PyProof.Rows L2
theorem jO7 {X:Cx}:jOa X NoU where
 raise:=fun _ _ _ _ _ _ _ _ _ _ _ _ hu=>hu.elim
 pass:=fun _ _ _ _ _ _ _ h=>by
  obtain⟨_,_,_,_,_,_,_,_,_,_,_,hu,_⟩:=h
  exact hu.elim
section
variable {prog:Program}{w:World}{A:Around}{E:Value→Shared→Prop}{s:Shared}{K:PySem.W.Frag}{x D:Addr}
structure ExI (K:PySem.W.Frag)(D:Addr):Prop where
 ga:PySem.W.findIn K (.ref D) "__getattribute__"=some (some (.builtin "BaseException.__getattribute__"))
 gt:PySem.W.findIn K (.ref D) "__getattr__"=some none
 cl:(PySem.W.clsIn K D).isSome=true
 fc:PySem.W.findIn K (.ref D) "__class__"=some (some (.builtin "object.__class__"))
 sp:PySem.W.specialIn K (.builtin "object.__class__") "__get__"=some (some (.builtin "getset_descriptor.__get__"))
 tk:PySem.W.takesIn K (.builtin "object.__class__")=some true
 mo:PySem.W.mroIn K D (.type "object")=some true
 mb:PySem.W.mroIn K D (.type "BaseException")=some true
def At (h:Heap)(x C:Addr):Prop:=∃ox,h.get? x=some ox∧ox.cls=.ref C
theorem At.type {M:Model}{h:Heap}(I:At h x D):PySem.W.Looks M h (typeOf (.ref x)) (.ref D):=by
 obtain⟨ox,h1,h2⟩:=I
 exact h2 ▸ (PySem.W.Looks.ld h1).andThen .now
open PySem.W Builtin Builtin.ObjectAttr Builtin.Getset_descriptor in
theorem jJZ {tp:Value}{R:Result→Shared→Prop}(X:K.In s.heap) (I:At s.heap x D) (hm:PySem.W.mroIn K D (.type "object")=some true)
 (h:R (.ok (.ret (.ref D))) s):codeAny (model prog w) A (.call (.builtin "getset_descriptor.__get__") ⟨[.builtin "object.__class__",.ref x,tp],[]⟩) R s:=by
 obtain⟨hh,g,dr,t,os⟩:=s
 have L0:=I.type (M:=model prog w)
 have L1:=PySem.W.looks_mroIn (M:=model prog w) X hm
 refine codeAny_call_builtin KF.slot_gs.plain KF.entry_gs (KF.slot_gs.check _ _ _ _ _ _ _ _ KF.type_class (KF.args_gs _ _ _) ?_)
 unfold Builtin.«getset_descriptor.__get__» descrGet
 rw[dga_obj]
 refine wpAny_bind (wpAny_pure ?_)
 unfold descrGetter descrCheckInstance descrNameAndClass isInstance
 simp only[KF.owner_class]
 repeat lk
 refine⟨Code.quiet_builtin _ (by decide +kernel),codeAny_builtin KF.entry_class ?_⟩
 unfold Builtin.«object.__class__» shownTypeOf
 repeat lk
 exact h
open PySem.W in
theorem jKR {tk:Tok}{Q:Fin→Shared→Prop}(i:ExI K D) (X:K.In s.heap) (I:At s.heap x D) (hq:Q (.done (.ret (.ref D))) s) :
 wpAny (model prog w) A (Builtin.«object.__getattribute__» ⟨[.ref x,.str "__class__" tk],[]⟩) Q E s:=by
 obtain⟨hh,g,d,t,os⟩:=s
 have L0:=I.type (M:=model prog w)
 have M1:=PySem.W.looks_findIn (M:=model prog w) X i.fc
 have M2:PySem.W.Looks (model prog w) hh (Builtin.ObjectAttr.getOf (some (.builtin "object.__class__"))) (some (.builtin "getset_descriptor.__get__")):=PySem.W.looks_specialIn X i.sp
 have M3:=PySem.W.looks_takesIn (M:=model prog w) X i.tk
 have L1:PySem.W.Looks (model prog w) hh (Builtin.ObjectAttr.find (.ref x) (.ref D) "__class__") (.bind (.builtin "getset_descriptor.__get__") (.builtin "object.__class__")) :=
  M1.andThen (M2.andThen ((show PySem.W.Looks (model prog w) hh (Builtin.ObjectAttr.dataDescriptor? (some (.builtin "object.__class__")) (some (.builtin "getset_descriptor.__get__"))) (some (_,_)) from M3.andThen .now).andThen (PySem.W.Looks.tag .now)))
 refine wpAny_bind (wpAny_pure (wpAny_bind (wpAny_pure (wpAny_bind (L0.at (wpAny_bind (L1.at ?_)))))))
 show wpAny _ _ (holding [.builtin "object.__class__"] (call (.builtin "getset_descriptor.__get__") [.builtin "object.__class__",.ref x,.ref D]) >>= ret) _ _ _
 refine wpAny_bind (wpAny_holding (wpAny_call (jJZ X I i.mo ?_)))
 exact wpAny_pure hq
theorem jO9 (v:Value):bindSpecial (.builtin "BaseException.__getattribute__") v=pure (.builtin "BaseException.__getattribute__",[v]):=PySem.F.excAttr_ValueError.ga.bind v
theorem jLL {Q:Option Value→Shared→Prop}(i:ExI K D) (X:K.In s.heap) (I:At s.heap x D) (h:Q (some (.ref D)) { s with toks:=s.toks+1 }):wpAny (model prog w) A (getAttr? (.ref x) "__class__") Q E s:=by
 obtain⟨hh,g,d,t,os⟩:=s
 have L0:=I.type (M:=model prog w)
 have L1:=PySem.W.looks_findIn (M:=model prog w) X i.ga
 have L2:=PySem.W.looks_findIn (M:=model prog w) X i.gt
 have L3:=PySem.W.looks_mroIn (M:=model prog w) X i.mb
 have hx2:(Value.builtin "BaseException.__getattribute__" == Value.builtin "object.__getattribute__")=false:=by decide +kernel
 unfold getAttr? getAttrBy? getAttrBy
 refine wpAny_bind (wpAny_mkText (wpAny_bind (wpAny_attempt (wpAny_holding (wpAny_bind (L0.at (wpAny_bind (L1.at ?_))))))))
 dsimp only
 rw[hx2,Bool.and_false,if_neg Bool.false_ne_true]
 unfold getAttrByItsOwn hookBefore
 refine wpAny_bind ?_
 rw[if_pos (by rfl)]
 refine L2.at ?_
 refine wpAny_bind (wpAny_attempt (wpAny_holding ?_))
 unfold callGetattribute
 rw[Bool.false_and,if_neg Bool.false_ne_true]
 unfold boundAndCalled
 rw[jO9]
 refine wpAny_bind (wpAny_pure ?_)
 dsimp only
 refine wpAny_call (codeAny_call_builtin PySem.F.excAttr_ValueError.ga.plain PySem.F.entry_bexc_ga ?_)
 have hk:builtinKind "BaseException.__getattribute__"=some .slot:=by decide +kernel
 have hsplit:splitId "BaseException.__getattribute__"=some ("BaseException","__getattribute__"):=by decide +kernel
 have ha:=F.args_bexc_ga (.ref x) (.str "__class__" t)
 simp only[checkBuiltinCall,hk,hsplit]
 refine wpAny_bind ((L0.andThen L3).at ?_)
 unfold argsOk at ha
 simp only[Bool.not_true,Bool.false_eq_true,if_false,List.cons_append,List.nil_append]
 first|rw[ha]|skip
 refine wpAny_pure ?_
 refine jKR i X I ?_
 exact wpAny_pure (wpAny_pure h)
theorem jMr (i:ExI K D):PySem.W.KitX K (.ref x) (.ref D) (fun h=>At h x D) where
 ty:=fun _ _ _ I=>I.type
 it:=fun _ _ X _=>jFs X i.cl
 ne:=fun h tp dd its n sl X htp=>by
  obtain⟨cd,hc⟩:=Option.isSome_iff_exists.mp i.cl
  refine Bool.eq_false_iff.mpr fun q=>?_
  have e:D=tp:=Value.ref.inj (beq_iff_eq.mp q)
  subst e
  unfold PySem.W.clsIn at hc
  split at hc
  ·rename_i c' d' cd' sl' ho
   have z:=(X _ _ ho).symm.trans htp
   cases z
  ·cases hc
 ca:=fun X I k=>jLL i X I k
end
def jHK (X:Cx)(ea:Addr)(oe:Obj):Cx:={ X with A:=X.A.mark (some (.ref ea)),calm:=false,pn:=(ea,oe)::X.pn }
section
variable {X:Cx}{pins:List (Addr×Obj)}{σ:St}{H H':Hp}{s s':Shared}{ea C:Addr}{oe:Obj}{a0:Value}{B:Heap}
theorem jMQ (I:Inv X pins σ H s)(hp:s.heap.get? ea=some oe∧H ea=none∧ea≠X.env.locals∧ea∉X.fs∧∀v,oe.data≠.cell v):Inv (jHK X ea oe) pins σ H s :=
 ⟨⟨I.ok.mod,I.ok.kind,I.ok.glob,I.ok.blt,I.ok.above,I.ok.inj,I.ok.has,I.ok.cab,(fun z=>by cases z),I.ok.frames,I.ok.stk,I.ok.exf,I.ok.bs,I.ok.bsz,I.ok.noex,I.ok.exfs,I.ok.funs,I.ok.frf,I.ok.tb⟩,I.os,I.bare,I.base,I.loc,I.cell,I.free,I.freeC,fun p hq=>by
  rcases List.mem_cons.mp (show p∈(ea,oe)::(X.pn++pins) from hq) with rfl|hq
  ·exact hp
  ·exact I.pin p hq,I.hok,I.len⟩
theorem jKg (hd:X.calm=true→X.A.handled=none)(hfm:X.A.frames=some X.stack)(I:Inv (jHK X ea oe) pins σ H s):Inv X pins σ H s :=
 ⟨⟨I.ok.mod,I.ok.kind,I.ok.glob,I.ok.blt,I.ok.above,I.ok.inj,I.ok.has,I.ok.cab,hd,hfm,I.ok.stk,I.ok.exf,I.ok.bs,I.ok.bsz,I.ok.noex,I.ok.exfs,I.ok.funs,I.ok.frf,I.ok.tb⟩,I.os,I.bare,I.base,I.loc,I.cell,I.free,I.freeC,fun p hq=>I.pin p (List.mem_cons_of_mem _ hq),I.hok,I.len⟩
theorem jNk {B p:HZ}{τ:Tau}(r:Rep X B τ σ p):Rep (jHK X ea oe) B τ σ p:=⟨r.len,r.ext,r.val,r.own,r.sep,r.top,r.pin⟩
theorem jLX {A:Around}{E:Value→Shared→Prop}{n:Str}{pos:Pos}{Q:Unit→Shared→Prop}(I:Inv X pins σ H s) (hl:X.env.kindOf n=some .local) (h:∀s',Inv X pins (List.replicate σ.length none) H s'→Q () s') :
 wpAny (model X.prog X.w) A (do bindName X.env n .none;unbindBehindTheSuite X.env n pos) Q E s:=by
 obtain⟨m,hn,hv⟩:=id I.loc
 have hcls:(X.env.scope.kind == .class||(X.env.scope.kind == .module&&X.env.locals != X.env.globals))=false:=by rw[I.ok.kind];rfl
 have cne:=I.cne
 obtain⟨oL,_,_,hoL,_⟩:=id hn
 refine wpAny_nameGoes hl hn hcls fun h' m' hn' hs=>h _ ?_
 have tracked:HOk X.prog X.w H h':=fun b ob e=>by
  refine(I.hok b ob e).stay (fun c w' hc q=>(hs.2 c ?_).trans q) (fun _ q=>q) fun _ _ q=>q
  rintro rfl
  rcases hc with rfl|hc
  ·rw[I.free] at e;cases e
  ·rw[I.free] at hc;cases hc
 refine⟨I.ok,I.os,I.bare,⟨fun b o e n hb hx=>?_,fun b o e n hb hx=>?_,I.base.free,fun b o e hx=>?_,I.base.tups,I.base.frzs,I.base.tbls⟩,⟨_,hn',fun j y v' e1 e2 e3=>?_⟩,fun y c e=>?_,I.free,I.freeC,fun p hp=>?_,tracked,by rw[List.length_replicate];exact I.len⟩
 ·exact(hs.2 b (Nat.ne_of_lt (Nat.lt_of_lt_of_le (Heap.lt_size e) I.ok.above))).trans (I.base.keep b o e n hb hx)
 ·obtain⟨sl,e1⟩:=I.base.slot b o e n hb hx
  exact⟨sl,(hs.2 b (Nat.ne_of_lt (Nat.lt_of_lt_of_le (Heap.lt_size e) I.ok.above))).trans e1⟩
 ·obtain⟨o',e1⟩:=I.base.there b o e hx
  exact⟨o',(hs.2 b (Nat.ne_of_lt (Nat.lt_of_lt_of_le (Heap.lt_size e) I.ok.above))).trans e1⟩
 ·rw[List.getElem?_replicate] at e2
  split at e2<;>cases e2
 ·obtain⟨w',z⟩:=I.cell y c e
  exact⟨w',z.sameBut hs (cne y c e)⟩
 ·obtain⟨e,n,ne,nf,d⟩:=I.pin p hp
  exact⟨(hs.2 p.1 ne).trans e,n,ne,nf,d⟩
structure ExO (oe:Obj)(C:Addr):Prop where
 cls:oe.cls=.ref C
theorem jM1 {E:Value→Shared→Prop}{Q:Flow→Shared→Prop}{x n:Str}{i:Nat}{Cx:Addr}{np hp:Pos}{b0:Stmt}{suite:List Stmt}{rest:List ExceptHandler}(I:Inv X pins σ H s) (hst:X.stack=X.env::X.outer) (hf:X.env.frame=some X.env.locals)
 (fl:Fly X.prog X.w X.stack H H' s.heap s'.heap ea C a0 B) (ho:s'.os=s.os) (hg:AllBare s'.gens) (hgx:Gl X x) (hm:X.mg x=some (.ref Cx)) (hn:HnC X.K Cx) (hb:PySem.W.mroIn X.K C (.ref Cx)=some true) (hd:(x==("__debug__":Str))=false)
 (hN:X.N.Nodup) (hi:X.N[i]? = some n) (hx:Loc X.env.scope n) (hfn:X.fn n=true∨X.env.scope.names.lookup n=some .local)
 (go:∀(s2:Shared)(oe:Obj),ExO oe C→Inv (jHK X ea oe) pins (σ.set i (some (.ref ea))) H' s2→wpAny (model X.prog X.w) (X.A.mark (some (.ref ea))) (execs (b0::suite) X.env) (fun f s4=>wpAny (model X.prog X.w) X.A (do bindName X.env n .none;unbindBehindTheSuite X.env n hp) (fun _ s5=>Q f s5) E s4) (fun _ _=>False) s2) :
 wpAny (model X.prog X.w) X.A (noteFrame (.ref ea) X.env) (fun _ s₂=>wpAny (model X.prog X.w) X.A (setFlight (.ref ea) none) (fun _ s₃ =>
  wpAny (model X.prog X.w) X.A (handleBy (.ref ea) X.env (.ExceptHandler (some (.Name x np)) (some n) (b0::suite) hp::rest)) Q E s₃) E s₂) E s':=by
 have hfr:X.A.frames=some (X.env::X.outer):=by rw[←hst];exact I.ok.frames
 have fl0:=fl.fl
 rw[hst] at fl0
 refine wpAny_looks_onW hfr hf fl0 fun h4 held up4=>?_
 refine wpAny_landsW held fun h5 fl5 up5=>?_
 rw[←hst] at fl5
 have f5:=fl.to fl5 (up4.trans up5)
 have I5:Inv X pins σ H' { s' with heap:=h5 }:=Fly.inv (s':={ s' with heap:=h5 }) I f5 ho hg
 refine wpAny_handleBy_cons (codeAny_handlers_test (jE6 (X:=hnd X ea) (jPA I5 ea) hgx hm ?_ hd)) (by intro q;cases q)
 obtain⟨oe,he,hc⟩:=f5.fl.there
 refine jLQ (s:={ s' with heap:=h5 }) I5.kIn hn he hc hb ?_
 refine codeAny_handlers_suite_as ?_
 refine lands_againW (s:={ s' with heap:=h5 }) f5.fl fun h6 fl6 up6=>?_
 have f6:=f5.to fl6 up6
 have I6:Inv X pins σ H' { s' with heap:=h6 }:=Fly.inv (s':={ s' with heap:=h6 }) I f6 ho hg
 obtain⟨oe6,vs6,he6,hc6,hd6,_⟩:=f6.fl.first
 have noF:∀b,b∈frs X.stack→ea≠b:=fun b hbm z=>by
  obtain⟨o,h1,h2⟩:=jF8 f6.fl.2.2.1 hbm
  rw[←z,he6] at h1
  cases h1
  exact h2 _ hd6
 have hnone:H' ea=none:=by
  cases e:H' ea with
  |none=>rfl
  |some o =>
   obtain⟨ob,eb⟩:=f6.tr _ _ e
   have:=f6.fl.2.1
   rw[eb] at this
   cases this
 have IE:Inv (jHK X ea oe6) pins σ H' { s' with heap:=h6 }:=jMQ I6 ⟨he6,hnone,noF _ (by rw[hst,jDl hf];exact List.mem_cons_self),fun z=>noF _ (by rw[hst,jDl hf];exact List.mem_cons_of_mem _ z) rfl,fun v z=>by rw[hd6] at z;cases z⟩
 refine jEK (X:=jHK X ea oe6) (v:=.ref ea) IE hN hi hx rfl (fun s7 I7=>?_) hfn
 exact wpAny_mono (go s7 oe6 ⟨hc6⟩ I7) (fun f s4 h=>h) fun _ _ z=>z.elim
theorem jMp {c:Value}{cv:V}{b:Bool}(hO:ExO oe C) (i:ExI X.K C) (rc:jBM cv c) (hc:∀u,jBM cv u→u=c) (hk:PySem.W.kitOne X.K (.ref C) c=some b):jFa (jHK X ea oe) (.builtin "isinstance") (fun xs H Q=>xs=[.ref ea,cv]∧Q (.bl b) H):=by
 intro pins s σ H xs us Q I rs h
 obtain⟨rfl,q⟩:=h
 obtain⟨v',u',rfl,r1,r2⟩:=jM7 rs
 cases r1
 cases hc _ r2
 have hp:=I.pin (ea,oe) (List.mem_append_left _ List.mem_cons_self)
 exact PySem.W.kia_one (jMr i) I.kIn ⟨oe,hp.1,hO.cls⟩ hk (fun z=>nomatch z) fun tk=>⟨.bl b,H,I.tok tk,rfl,q⟩
end
section
variable {X:Cx}{ea C:Addr}{oe:Obj}
def jSq (i:Nat)(ea:Addr)(b:Bool):TE3:=fun τ R=>τ[i]? = some (some (.d (.ref ea)))∧R (.d (.bl b))
theorem jN0 {i:Nat}{n y:Str}{p p1 p2 pos:Pos}{c:Value}{cv:V}{b:Bool}(hO:ExO oe C) (hi:ExI X.K C) (rc:jBM cv c) (hc:∀u,jBM cv u→u=c) (hk:PySem.W.kitOne X.K (.ref C) c=some b)
 (hv:PE (jHK X ea oe) (.Name n p1) (jJS i)) (hcl:PE (jHK X ea oe) (.Name y p2) (tC cv)) (hg:Gl X "isinstance") (hm:X.mg "isinstance"=none)
 (he:starEach [.Name n p1,.Name y p2] X.env=(false,eval (.Name n p1) X.env)::starEach [.Name y p2] X.env:=by exact jBR rfl) (he2:starEach [.Name y p2] X.env=(false,eval (.Name y p2) X.env)::starEach [] X.env:=by exact jBR rfl) (hpl:(backTo pos (starEach [.Name y p2] X.env)).any (·.1)=false:=by exact jCD rfl) :
 PE3 (jHK X ea oe) (.Call (.Name "isinstance" p) [.Name n p1,.Name y p2] [] pos) (jSq i ea b):=⟨jBe (jHc (jMp hO hi rc hc hk) hg hm PyProof.Rows.boot_isinstance (jA2 hv (jA2 hcl jB9 he2) he) (he:=he) (hpl:=hpl)) fun σ H Q ⟨B,z,τ,R,r,⟨ht,hR⟩,q⟩=>by
 obtain⟨v,h1,h2⟩:=r.val i _ ht
 cases h2
 exact⟨.ref ea,h1,rfl,q (.d _) _ ⟨H,z⟩ (Ext.refl r.ext.sub) (Is.bl _) jEt hR⟩⟩
theorem jHj {i:Nat}{n y:Str}{p p1 p2 pos:Pos}{Cy:Addr}{b:Bool}(hO:ExO oe C) (hi:ExI X.K C) (hk:PySem.W.kitOne X.K (.ref C) (.ref Cy)=some b)
 (hv:PE (jHK X ea oe) (.Name n p1) (jJS i)) (hgy:Gl X y) (hmy:X.mg y=some (.ref Cy)) (hg:Gl X "isinstance") (hm:X.mg "isinstance"=none) (hd:(y==("__debug__":Str))=false:=by decide)
 (he:starEach [.Name n p1,.Name y p2] X.env=(false,eval (.Name n p1) X.env)::starEach [.Name y p2] X.env:=by exact jBR rfl) (he2:starEach [.Name y p2] X.env=(false,eval (.Name y p2) X.env)::starEach [] X.env:=by exact jBR rfl) (hpl:(backTo pos (starEach [.Name y p2] X.env)).any (·.1)=false:=by exact jCD rfl) :
 PE3 (jHK X ea oe) (.Call (.Name "isinstance" p) [.Name n p1,.Name y p2] [] pos) (jSq i ea b) :=
 jN0 (cv:=.ref Cy) hO hi rfl (fun u z=>z) hk hv (jKN (X:=jHK X ea oe) hgy hmy rfl hd) hg hm he he2 hpl
theorem jPQ {i:Nat}{n y:Str}{p p1 p2 pos:Pos}{T:String}{b:Bool}(hO:ExO oe C) (hi:ExI X.K C) (hk:PySem.W.kitOne X.K (.ref C) (.type T)=some b)
 (hv:PE (jHK X ea oe) (.Name n p1) (jJS i)) (hgy:Gl X y) (hmy:X.mg y=none) (hby:bootBuiltins y=some (.type T)) (hg:Gl X "isinstance") (hm:X.mg "isinstance"=none) (hn:y≠"__name__":=by decide) (hd:(y==("__debug__":Str))=false:=by decide)
 (he:starEach [.Name n p1,.Name y p2] X.env=(false,eval (.Name n p1) X.env)::starEach [.Name y p2] X.env:=by exact jBR rfl) (he2:starEach [.Name y p2] X.env=(false,eval (.Name y p2) X.env)::starEach [] X.env:=by exact jBR rfl) (hpl:(backTo pos (starEach [.Name y p2] X.env)).any (·.1)=false:=by exact jCD rfl) :
 PE3 (jHK X ea oe) (.Call (.Name "isinstance" p) [.Name n p1,.Name y p2] [] pos) (jSq i ea b) :=
 jN0 (cv:=.ty T) hO hi rfl (fun u z=>z) hk hv (jLO (X:=jHK X ea oe) (v:=.ty T) hgy hmy hby rfl hn hd) hg hm he he2 hpl
variable {e:Expr}{es:List Expr}{tr:TA3}
def jQN (i:Nat)(sp:Sp3)(ok:Str→Prop)(tr:TA3)(th:Addr→Str→TS3):TS3:=fun D3 τ=>tr τ fun ss=>sp ss (fun _=>D3.nx τ) (fun y=>ok y∧∀ea,th ea y { nx:=fun _=>False,rt:=D3.rt } (τ.set i (some (.d (.ref ea)))))
theorem jQw {k i:Nat}{n f cx:Str}{ps:List Str}{sp:Sp3}{Cx:Addr}{ok:Str→Prop}{th:Addr→Str→TS3}{pf pc pa np hp pt:Pos}{b0:Stmt}{suite:List Stmt}(hst:X.stack=X.env::X.outer) (hf:X.env.frame=some X.env.locals) (hno:∀e s,¬X.xe e s)
 (c:Cal X.prog X.w X.K X.mg X.base (CXU X.prog X.w) k f ps sp) (hr:jDO k X.A) (hg:Gl X f) (ha:PA3 X (e::es) tr) (hN:X.N.Nodup) (hi:X.N[i]? = some n) (hx:Loc X.env.scope n) (hkl:X.env.kindOf n=some .local)
 (hgx:Gl X cx) (hm:X.mg cx=some (.ref Cx)) (hn:HnC X.K Cx) (hok:∀y C,ok y→X.mg y=some (.ref C)→PySem.W.mroIn X.K C (.ref Cx)=some true) (hh:∀ea oe y C,ok y→X.mg y=some (.ref C)→ExO oe C→jDx (jHK X ea oe) (b0::suite) (th ea y))
 (hdb:(f==("__debug__":Str))=false:=by decide) (hd:(cx==("__debug__":Str))=false:=by decide) (he:starEach (e::es) X.env=(false,eval e X.env)::starEach es X.env:=by exact jBR rfl) (hpl:(backTo pc (starEach es X.env)).any (·.1)=false:=by exact jCD rfl)
 (hs:swapsWith (.Call (.Name f pf) (e::es) [] pc) none pa.line X.env=pure false:=by rfl) (hfn:X.fn n=true∨X.env.scope.names.lookup n=some .local:=by first|exact .inl rfl|exact .inr rfl|assumption) (hpn:jCT X i:=by first|exact jCn rfl|exact jCv rfl (by decide)|assumption) :
 PS3 X (.Try [.Expr (.Call (.Name f pf) (e::es) [] pc) pa] [.ExceptHandler (some (.Name cx np)) (some n) (b0::suite) hp] [] [] pt) (jQN i sp ok tr th):=by
 refine⟨?_⟩
 obtain⟨fa,fd,F,hmf,hk,hb⟩:=c.ex
 intro pins s σ H D2 I h
 obtain⟨B,z,τ,D3,r,ht,ct⟩:=h
 refine wpAny_Try_except (wpAny_execs_cons (wpAny_Expr_any (thn (jPj (Ex:=fun cls _ H'=>∃y,X.mg y=some cls∧(ok y∧∀ea,th ea y { nx:=fun _=>False,rt:=D3.rt } (τ.set i (some (.d (.ref ea)))))∧jBb H H') (Q:=fun v H'=>D2.nx σ H') F hr hg hmf hk hb ha.out (fun e s z=>(hno e s z).elim) I ?hx ?h hdb he hpl) fun v s1 ⟨y,H1,I1,r1,q1⟩=>?nx) I.quiet hs))
 case hx =>
  intro H1 s1 e' s' I1 hcx
  obtain⟨ea,C,a0,B',H',rfl,ho,hbr,fl,y,hy,⟨hoky,hth⟩,hsame⟩:=hcx
  refine jM1 I1 hst hf fl ho hbr hgx hm hn (hok y C hoky hy) hd hN hi hx hfn fun s2 oe hO I2=>?_
  refine wpAny_mono ((hh ea oe y C hoky hy hO).out pins s2 _ H' { nx:=fun _ _=>False,rt:=D2.rt,bk:=fun _ _=>False,ct:=fun _ _=>False } I2 ⟨B,_,_,_,jNk ((r.mono (Ext.grow r.ext.sub hsame)).setd (.ref ea) hpn),hth ea,⟨fun _ _ _ _ z=>z.elim,fun _ _ _ _ z=>z.elim,fun _ _ _ _ z=>z.elim,ct.rt⟩⟩) (fun f s3 h3=>?_) fun e3 s3 z=>hno e3 s3 z
  cases f with
  |next=>obtain⟨_,_,_,z⟩:=h3;exact z.elim
  |brk=>obtain⟨_,_,_,z⟩:=h3;exact z.elim
  |cont=>obtain⟨_,_,_,z⟩:=h3;exact z.elim
  |ret u =>
   obtain⟨v,σ',H3,I3,rv,q3⟩:=h3
   exact jLX (jKg I.ok.hd I.ok.frames I3) hkl fun s5 I5=>⟨v,_,H3,I5,rv,q3⟩
 case h =>
  refine⟨B,_,τ,_,r,ht,fun ss vs H1 e1 i1 h1=>⟨H1.z,ss,_,_,e1.sub,i1,h1,fun s v H2 e2 i2 f2 h2=>?_,fun y C H2 e2 hy hu=>⟨y,hy,hu,e1.hh.trans e2⟩⟩⟩
  exact ct.nx _ _ _ (r.mono (e1.trans e2)) h2
 case nx =>
  exact wpAny_execs_nil (wpAny_execs_nil ⟨_,H1,I1,q1⟩)
end
end L3
namespace L3
open PySem PySem.Spec PyProof.Rows L2
theorem jF2:PySem.bootBuiltins "ValueError"=some (.type "ValueError"):=by decide +kernel
section
variable {X:Cx}
theorem jS2 {K:PySem.W.Frag}{mg:Str→Option Value}{y0:Str}{C0 Cx:Addr}(hm:mg y0=some (.ref C0)) (h:PySem.W.mroIn K C0 (.ref Cx)=some true):∀y C,y=y0→mg y=some (.ref C)→PySem.W.mroIn K C (.ref Cx)=some true:=fun y C e h1=>by
 subst e;rw[hm] at h1;cases h1;exact h
variable {e:Expr}{es:List Expr}{tr:TA3}
theorem jOs {k i:Nat}{n f cx y0:Str}{ps:List Str}{sp:Sp3}{Cx C0:Addr}{th:Addr→TS3}{pf pc pa np hp pt:Pos}{b0:Stmt}{suite:List Stmt}(hst:X.stack=X.env::X.outer) (hf:X.env.frame=some X.env.locals) (hno:∀e s,¬X.xe e s)
 (c:Cal X.prog X.w X.K X.mg X.base (CXU X.prog X.w) k f ps sp) (hr:jDO k X.A) (hg:Gl X f) (ha:PA3 X (e::es) tr) (hN:X.N.Nodup) (hi:X.N[i]? = some n) (hx:Loc X.env.scope n) (hkl:X.env.kindOf n=some .local)
 (hgx:Gl X cx) (hm:X.mg cx=some (.ref Cx)) (hn:HnC X.K Cx) (hok:∀y C,y=y0→X.mg y=some (.ref C)→PySem.W.mroIn X.K C (.ref Cx)=some true) (hm0:X.mg y0=some (.ref C0)) (hh:∀ea oe,ExO oe C0→jDx (jHK X ea oe) (b0::suite) (th ea))
 (hdb:(f==("__debug__":Str))=false:=by decide) (hd:(cx==("__debug__":Str))=false:=by decide) (he:starEach (e::es) X.env=(false,eval e X.env)::starEach es X.env:=by exact jBR rfl) (hpl:(backTo pc (starEach es X.env)).any (·.1)=false:=by exact jCD rfl)
 (hs:swapsWith (.Call (.Name f pf) (e::es) [] pc) none pa.line X.env=pure false:=by rfl) (hfn:X.fn n=true∨X.env.scope.names.lookup n=some .local:=by first|exact .inl rfl|exact .inr rfl|assumption) (hpn:jCT X i:=by first|exact jCn rfl|exact jCv rfl (by decide)|assumption) :
 PS3 X (.Try [.Expr (.Call (.Name f pf) (e::es) [] pc) pa] [.ExceptHandler (some (.Name cx np)) (some n) (b0::suite) hp] [] [] pt) (jQN i sp (fun y=>y=y0) tr (fun ea _=>th ea)) :=
 jQw (th:=fun ea _=>th ea) hst hf hno c hr hg ha hN hi hx hkl hgx hm hn hok (fun ea oe y C e h1 hO=>by subst e;rw[hm0] at h1;cases h1;exact hh ea oe hO) hdb hd he hpl hs hfn
end
end L3
namespace L3
open PySem PySem.Spec PyProof.Rows L2
section
variable {X:Cx}{st:Stmt}{rest':List Stmt}{t u:TS3}
end
end L3
namespace L3
open PySem PySem.Spec PyProof.Rows L2
theorem hu_ {A:Around}{k n:Nat}(hr:jDO k A) (hn:n≤200):A.units+n<cLine:=by have:=hr.un;omega
section
variable {X:Cx}{pins:List (Addr×Obj)}{σ:St}{H:Hp}{s:Shared}
theorem jJ8 (I:Inv X pins σ H s){n:Nat}{A:Around}{a b:Addr}{vs ws:List V}{xs ys:List D}(ha:SqT X.K H a vs) (hb:SqT X.K H b ws) (hx:Iss X.K H vs xs) (hy:Iss X.K H ws ys) (hu:A.units<cLine)
 (ih:∀(x y:D)(v u:V)(v' u':Value),x∈xs→y∈ys→Is X.K H v x→Is X.K H u y→jBM v v'→jBM u u'→SeqAt.EqAt A.in1 s v' u' (eqN n x y)):SeqAt.RcNeAt A s (.ref a) (.ref b) (!eqN (n+1) (.tup xs) (.tup ys)):=by
 obtain⟨its,r1,p1,_⟩:=I.tuple ha
 obtain⟨its2,r2,p2,_⟩:=I.tuple hb
 have l1:=r1.length
 have l2:=r2.length
 have k1:=hx.1
 have k2:=hy.1
 have key:=SeqAt.RcNeAt.tuples (A:=A) (s:=s) (l:=a) (b:=b) (items:=its.toArray) (items2:=its2.toArray) (e:=fun j=>match xs[j]?,ys[j]? with|some x,some y=>eqN n x y|_,_=>true) p1 p2 hu (fun j h1 h2=>by
  have h1':j<its.length:=by simpa using h1
  have h2':j<its2.length:=by simpa using h2
  have gx:xs[j]? = some (xs[j]'(by omega)):=List.getElem?_eq_getElem (by omega)
  have gy:ys[j]? = some (ys[j]'(by omega)):=List.getElem?_eq_getElem (by omega)
  have gv:vs[j]? = some (vs[j]'(by omega)):=List.getElem?_eq_getElem (by omega)
  have gw:ws[j]? = some (ws[j]'(by omega)):=List.getElem?_eq_getElem (by omega)
  obtain⟨u1,e1,q1⟩:=r1.get gv
  obtain⟨u2,e2,q2⟩:=r2.get gw
  rw[jD5 h1 e1,jD5 h2 e2]
  rw[gx,gy]
  exact ih _ _ _ _ _ _ (List.mem_of_getElem? gx) (List.mem_of_getElem? gy) (hx.2 j _ _ gv gx) (hy.2 j _ _ gw gy) q1 q2)
 have e:eqN (n+1) (.tup xs) (.tup ys)=((List.range (min its.toArray.size its2.toArray.size)).all (fun j=>match xs[j]?,ys[j]? with|some x,some y=>eqN n x y|_,_=>true)&&its.toArray.size==its2.toArray.size):=by
  show((xs.zip ys).all (fun p=>eqN n p.1 p.2)&&xs.length==ys.length)=_
  have s1:its.toArray.size=xs.length:=by simp;omega
  have s2:its2.toArray.size=ys.length:=by simp;omega
  rw[s1,s2]
  congr 1
  rw[Bool.eq_iff_iff,List.all_eq_true,List.all_eq_true]
  constructor
  ·intro h j hj
   rw[List.mem_range] at hj
   have gx:xs[j]? = some (xs[j]'(by omega)):=List.getElem?_eq_getElem (by omega)
   have gy:ys[j]? = some (ys[j]'(by omega)):=List.getElem?_eq_getElem (by omega)
   rw[gx,gy]
   exact h (_,_) (List.mem_of_getElem? (List.getElem?_zip_eq_some.mpr ⟨gx,gy⟩))
  ·rintro h ⟨x,y⟩ hp
   obtain⟨j,hj⟩:=List.getElem?_of_mem hp
   obtain⟨gx,gy⟩:=List.getElem?_zip_eq_some.mp hj
   have h1:=(List.getElem?_eq_some_iff.mp gx).1
   have h2:=(List.getElem?_eq_some_iff.mp gy).1
   have:=h j (by rw[List.mem_range];omega)
   simp only[] at gx gy
   rw[gx,gy] at this
   exact this
 rw[e]
 exact key
def jSO (n:Nat):R3:=fun dx dy R=>match dx,dy with
 |.tup xs,.tup ys=>jDa n (.tup xs)=true∧jDa n (.tup ys)=true∧R (.bl (!eqN n (.tup xs) (.tup ys)))
 |_,_=>False
theorem jOY (n:Nat)(hu:X.A.units+n<cLine):jGm X (compareOp .NotEq) (jSO n):=by
 intro pins s σ H x y v u Q I rx ry h
 obtain⟨z,dx,dy,R,hz,hx,hy,h3,q⟩:=h
 replace hx:=hx.mono hz
 replace hy:=hy.mono hz
 unfold jSO at h3
 split at h3
 ·rename_i xs ys
  obtain⟨fx,fy,h3⟩:=h3
  cases n with
  |zero=>cases fx
  |succ n =>
   obtain⟨a,vs,rfl,ha,ia⟩:=Is.tup_inv hx
   obtain⟨b,ws,rfl,hb,ib⟩:=Is.tup_inv hy
   cases rx
   cases ry
   refine jJ8 (A:=X.A) (n:=n) I ha hb ia ib (by omega) (fun x y v u v' u' mx my ix iy rv ru=>?_) X.prog X.w X.xe _ ⟨.bl _,H,I,rfl,q _ _ ⟨H,z⟩ (Ext.refl hz) (.bl _) h3⟩
   exact jKC I n X.A.in1 x y v u v' u' (by show X.A.units+1+n<cLine;omega) (List.all_eq_true.mp (show xs.all (jDa n)=true from fx) x mx) (List.all_eq_true.mp (show ys.all (jDa n)=true from fy) y my) ix iy rv ru
 ·exact h3.elim
end
end L3
namespace L3
open PySem PySem.Spec PyProof.Rows L2
theorem jFm {env:Env}:∀(names:List (Str×NameKind))(acc:List (Str×Addr)),(∀y∈names,y.2=.free→∃c,env.cells.lookup y.1=some c) →
 ∃cl,(forIn names acc fun(x:Str×NameKind)(r:List (Str×Addr))=>if (x.2 == .free)=true then (do let c ←cellOf env x.1;pure (ForInStep.yield ((x.1,c)::r)):Sem _) else pure (ForInStep.yield r))=pure cl ∧
  (∀y c,(y,c)∈cl→(y,c)∈acc∨env.cells.lookup y=some c)∧(∀y,(y,NameKind.free)∈names→∃c,(y,c)∈cl)∧∀p∈acc,p∈cl
 |[],acc,_=>⟨acc,rfl,fun y c h=>.inl h,(fun y h=>by cases h),fun p h=>h⟩
 |(n,k)::r,acc,h=>by
  rw[List.forIn_cons]
  by_cases hk:(k==NameKind.free)=true
  ·have hk':k=.free:=by simpa using hk
   obtain⟨c,hc⟩:=h (n,k) List.mem_cons_self hk'
   obtain⟨cl,e,h1,h2,h3⟩:=jFm r ((n,c)::acc) fun y hy=>h y (List.mem_cons_of_mem _ hy)
   refine⟨cl,?_,fun y d hd=>?_,fun y hy=>?_,fun p hp=>h3 p (List.mem_cons_of_mem _ hp)⟩
   ·have hco:cellOf env n=pure c:=by unfold cellOf;rw[hc]
    simp only[hk,if_true,hco,pure_bind]
    exact e
   ·rcases h1 y d hd with z|z
    ·rcases List.mem_cons.mp z with z|z
     ·cases z;exact .inr hc
     ·exact .inl z
    ·exact .inr z
   ·rcases List.mem_cons.mp hy with z|z
    ·cases z;exact⟨c,h3 _ List.mem_cons_self⟩
    ·exact h2 y z
  ·obtain⟨cl,e,h1,h2,h3⟩:=jFm r acc fun y hy=>h y (List.mem_cons_of_mem _ hy)
   refine⟨cl,?_,h1,fun y hy=>?_,h3⟩
   ·simp only[hk,Bool.false_eq_true,if_false,pure_bind]
    exact e
   ·rcases List.mem_cons.mp hy with z|z
    ·cases z;exact absurd rfl hk
    ·exact h2 y z
theorem jBa {α:Type}{y:Str}{c:α}:∀{l:List (Str×α)},l.lookup y=some c→(y,c)∈l
 |[],h=>by cases h
 |(n,d)::r,h=>by
  rw[List.lookup_cons] at h
  cases q:y==n with
  |true => rw[q] at h;cases h;have:y=n:=by simpa using q
           subst this;exact List.mem_cons_self
  |false=>rw[q] at h;exact List.mem_cons_of_mem _ (jBa h)
theorem jGU {α:Type}{y:Str}{c:α}:∀{l:List (Str×α)},(y,c)∈l→∃d,l.lookup y=some d
 |(n,d)::r,h=>by
  rw[List.lookup_cons]
  cases q:y==n with
  |true=>exact⟨d,rfl⟩
  |false =>
   rcases List.mem_cons.mp h with z|z
   ·cases z;simp at q
   ·exact jGU z
theorem jE9 {scope:Scope}{env:Env}(h:∀y∈scope.names,y.2=.free→∃c,env.cells.lookup y.1=some c) :
 ∃cl,closureFor scope env=pure cl∧(∀y c,cl.lookup y=some c→env.cells.lookup y=some c)∧∀y,(y,NameKind.free)∈scope.names→∃c,cl.lookup y=some c:=by
 obtain⟨cl,e,h1,h2,_⟩:=jFm scope.names [] h
 refine⟨cl,?_,fun y c hc=>?_,fun y hy=>?_⟩
 ·unfold closureFor
  first|(simp only[bind_pure];exact e)|exact e
 ·rcases h1 y c (jBa hc) with z|z
  ·cases z
  ·exact z
 ·obtain⟨c,hc⟩:=h2 y hy
  exact jGU hc
def jAs (X:Cx)(N:List Str)(scope:Scope)(cl:List (Str×Addr))(C:Addr)(s₀:Shared)(H₀:Hp)(fp:List Addr):Cx :=
 { X with N:=N,s₀:=s₀,H₀:=H₀,env:=compEnvC scope cl C X.env,outer:=X.stack,ex:=fp,fn:=fun _=>false,pn:=[],xe:=fun _ _=>False,lent:=none }
theorem jBY {env:Env}:∀{names:List (Str×NameKind)}{x:Str}{k:NameKind},(names.map fun(n,k)=>if (k==NameKind.free&&env.scope.kind == .function&&env.kindOf n==some .cell) then (n,NameKind.cell) else (n,k)).lookup x=some k →
 ∃k0,(x,k0)∈names∧(k=k0∨k0=.free)
 |[],_,_,h=>by cases h
 |(n,k1)::r,x,k,h=>by
  have h':List.lookup x ((if (k1==NameKind.free&&env.scope.kind == .function&&env.kindOf n==some .cell)=true then (n,NameKind.cell) else (n,k1))::(r.map fun(n,k)=>if (k==NameKind.free&&env.scope.kind == .function&&env.kindOf n==some .cell) then (n,NameKind.cell) else (n,k)))=some k:=h
  by_cases hc:(k1==NameKind.free&&env.scope.kind == .function&&env.kindOf n==some .cell)=true
  ·rw[if_pos hc,List.lookup_cons] at h'
   have hk1:k1=.free:=by
    rw[Bool.and_eq_true,Bool.and_eq_true] at hc
    simpa using hc.1.1
   cases q:x==n with
   |true =>
    have:x=n:=by simpa using q
    subst this
    exact⟨k1,List.mem_cons_self,.inr hk1⟩
   |false =>
    rw[q] at h'
    obtain⟨k0,h1,h2⟩:=jBY h'
    exact⟨k0,List.mem_cons_of_mem _ h1,h2⟩
  ·rw[if_neg hc,List.lookup_cons] at h'
   cases q:x==n with
   |true =>
    rw[q] at h'
    have:x=n:=by simpa using q
    subst this
    exact⟨k1,List.mem_cons_self,.inl (Option.some.inj h').symm⟩
   |false =>
    rw[q] at h'
    obtain⟨k0,h1,h2⟩:=jBY h'
    exact⟨k0,List.mem_cons_of_mem _ h1,h2⟩
theorem jBw {env:Env}{y:Str}(hk:env.scope.kind=.function) (hy:env.kindOf y=some .cell):∀{names:List (Str×NameKind)},names.lookup y=some .free →
 (names.map fun(n,k)=>if (k==NameKind.free&&env.scope.kind == .function&&env.kindOf n==some .cell) then (n,NameKind.cell) else (n,k)).lookup y=some .cell
 |[],h=>by cases h
 |(n,k1)::r,h=>by
  show List.lookup y ((if (k1==NameKind.free&&env.scope.kind == .function&&env.kindOf n==some .cell)=true then (n,NameKind.cell) else (n,k1))::(r.map fun(n,k)=>if (k==NameKind.free&&env.scope.kind == .function&&env.kindOf n==some .cell) then (n,NameKind.cell) else (n,k)))=some .cell
  rw[List.lookup_cons] at h
  cases q:y==n with
  |true =>
   rw[q] at h
   have:y=n:=by simpa using q
   subst this
   have hk1:k1=.free:=Option.some.inj h
   subst hk1
   rw[if_pos (by rw[hk,hy];rfl),List.lookup_cons,q]
  |false =>
   rw[q] at h
   have ih:=jBw hk hy h
   by_cases hc:(k1==NameKind.free&&env.scope.kind == .function&&env.kindOf n==some .cell)=true
   ·rw[if_pos hc,List.lookup_cons,q];exact ih
   ·rw[if_neg hc,List.lookup_cons,q];exact ih
structure jAP (X:Cx)(x:Str)(scope:Scope)(N:List Str)(idx:List Nat):Prop where
 kind:scope.kind=.function
 cell:∀y∈scope.names,y.2≠.cell
 names:∀y∈scope.names,y.2=.local→scope.names.lookup y.1=some .local
 own:scope.names.lookup x=some .local
 free:∀y∈scope.names,y.2=.free→X.env.kindOf y.1=some .cell
 nd:N.Nodup
 fst:N[0]? = some x
 len:N.length=idx.length+1
 cap:∀(k j:Nat),idx[k]? = some j→∃y,N[k+1]? = some y∧X.N[j]? = some y∧scope.names.lookup y=some .free
def jCA {α:Type}(σ:List (Option α)) (idx:List Nat):List (Option α):=idx.map fun j=>(σ[j]?).getD none
theorem jFS {α:Type}{σ:List (Option α)}{idx:List Nat}{k:Nat}{v:α}(h:(jCA σ idx)[k]? = some (some v)):∃j,idx[k]? = some j∧σ[j]? = some (some v):=by
 unfold jCA at h
 rw[List.getElem?_map] at h
 cases e:idx[k]? with
 |none=>rw[e] at h;cases h
 |some j =>
  rw[e] at h
  refine⟨j,rfl,?_⟩
  have h':(σ[j]?).getD none=some v:=Option.some.inj h
  cases q:σ[j]? with
  |none=>rw[q] at h';cases h'
  |some o=>rw[q] at h';rw[show o=some v from h']
section
variable {X:Cx}{pins:List (Addr×Obj)}{σ:St}{H2:Hp}{s2:Shared}{x:Str}{px:Pos}{scope:Scope}{N:List Str}{idx:List Nat}{J:It}{fp:List Addr}{it:Addr}{tn:Nat→Heap→Prop}{cl:List (Str×Addr)}
theorem jKm (O:jAP X x scope N idx)(I2:Inv X pins σ H2 s2)(T:jMw X.prog X.w X.K (.Name x px) J fp it tn)(st2:tn 0 s2.heap)(f2:∀b∈fp,jJ9 X pins H2 b)
 (hcl:∀y c,cl.lookup y=some c→X.env.cells.lookup y=some c)(hcl2:∀y,(y,NameKind.free)∈scope.names→∃c,cl.lookup y=some c)
 {h1:Heap}{C:Addr}{m:Str→Option Value}{tk:Nat}(hC:s2.heap.objs.size<C) (hns:h1.Ns C m) (old:∀b o,s2.heap.get? b=some o→h1.get? b=some o)
 (hD:h1.get? s2.heap.objs.size=some { cls:=.type "list",data:=.seq ([]:List Value).toArray }) :
 Inv (jAs X N scope cl C s2 H2 fp) [] (none::jCA σ idx) (upd H2 s2.heap.objs.size (.lst [])) { s2 with heap:=h1,toks:=tk }:=by
 have inHeap:∀b∈fp,b<s2.heap.objs.size:=fun b hb=>by
  obtain⟨o,e,_⟩:=T.obj 0 _ st2 b hb
  exact Heap.lt_size e
 have hDn:H2 s2.heap.objs.size=none:=I2.hok.fresh (Nat.le_refl _)
 refine⟨⟨I2.ok.mod,O.kind,I2.ok.glob,I2.ok.blt,?_,?_,?_,(fun _ _ z=>by cases z),I2.ok.hd,I2.ok.frames,.inl rfl,?_,fun b o e=>I2.bs b o e,Nat.le_trans I2.ok.bsz I2.sz,?_,?_,I2.stack,I2.stkFree,I2.tb⟩,rfl,I2.bare,?_,⟨m,hns,?_⟩,?_,?_,?_,?_,?_,?_⟩
 ·exact Nat.le_of_lt hC
 ·intro y z c h1 h2
  exact I2.ok.inj y z c (hcl y c h1) (hcl z c h2)
 ·intro y hy
  have key:∀k,(relabel scope X.env).names.lookup y=some k→(k=.cell∨k=.free)→∃c,cl.lookup y=some c:=fun k e hk=>by
   obtain⟨k0,h1,h2⟩:=jBY e
   have hf:k0=.free:=by
    rcases h2 with rfl|h2
    ·rcases hk with rfl|rfl
     ·exact absurd rfl (O.cell _ h1)
     ·rfl
    ·exact h2
   subst hf
   exact hcl2 y h1
  rcases hy with e|e
  ·exact key _ e (.inl rfl)
  ·exact key _ e (.inr rfl)
 ·intro b hb
  have:=inHeap b hb
  exact⟨Nat.ne_of_lt (Nat.lt_trans this hC),fun y c e=>(f2 b hb).2.2.2.2.1 y c (hcl y c e)⟩
 ·intro b o e hb
  rcases(f2 b hb).2.2.2.1 with z|z
  ·exact I2.ok.noex b o e z
  ·exact absurd (Nat.lt_of_lt_of_le (Heap.lt_size e) (Nat.le_trans I2.ok.bsz z)) (Nat.lt_irrefl _)
 ·intro b hb hf
  rcases List.mem_cons.mp (I2.stkSub b hf) with e|e
  ·exact(f2 b hb).2.1 e
  ·exact(f2 b hb).2.2.1 e
 ·exact Un.laid old (Nat.le_refl _) hDn
 ·intro i y v e1 e2 e3
  cases i with
  |zero=>cases e2
  |succ k =>
   obtain⟨j,ej,es⟩:=jFS (k:=k) e2
   obtain⟨y',n1,n2,n3⟩:=O.cap k j ej
   have ey:y'=y:=Option.some.inj (n1.symm.trans e1)
   subst ey
   have kc:=O.free _ (jBa n3) rfl
   obtain⟨m0,hn0,hl0⟩:=I2.loc
   obtain⟨u,ru,lk⟩:=hl0 j y' v n2 es (.inr (.inl kc))
   refine⟨u,ru,?_⟩
   rcases lk with⟨k1,_⟩|⟨_,c,hc,ic⟩
   ·rw[kc] at k1;cases k1
   ·obtain⟨c',hc'⟩:=hcl2 y' (jBa n3)
    have:c'=c:=Option.some.inj ((hcl y' c' hc').symm.trans hc)
    subst this
    exact .inr ⟨.inl (jBw I2.ok.kind kc n3),c',hc',ic.keeps old⟩
 ·intro y c e
  obtain⟨v,ic⟩:=I2.cell y c (hcl y c e)
  exact⟨v,ic.keeps old⟩
 ·show upd H2 _ _ C=none
  rw[jAn (Nat.ne_of_gt hC)]
  exact I2.hok.fresh (Nat.le_of_lt hC)
 ·intro y c e
  obtain⟨v,ic⟩:=I2.cell y c (hcl y c e)
  rw[jAn (Nat.ne_of_lt ic.lt)]
  exact I2.freeC y c (hcl y c e)
 ·intro p hp;cases hp
 ·exact I2.hok.laid old (Nat.le_refl _) ⟨Nat.zero_le _,[],_,.nil,hD⟩
 ·show(none::jCA σ idx).length=N.length
  rw[O.len,List.length_cons]
  unfold jCA
  rw[List.length_map]
theorem jEP {σ':St}{H':Hp}{s':Shared}{pl:List (Addr×Obj)}{C:Addr}{h':Heap}(I2:Inv X pins σ H2 s2) (f2:∀b∈fp,jJ9 X pins H2 b) (hC:s2.heap.objs.size<C) (I':Inv (jAs X N scope cl C s2 H2 fp) pl σ' H' s') (hs:Heap.SameBut C s'.heap h') :
 Inv X pins σ H' { s' with heap:=h' }:=by
 have ne:∀b o,s2.heap.get? b=some o→b≠C:=fun b o e=>Nat.ne_of_lt (Nat.lt_trans (Heap.lt_size e) hC)
 have u:=I'.base
 refine Inv.call' (s':={ s' with heap:=h' }) (ch:=fp) I2 I'.os ⟨fun b o e n hb hx=>(hs.2 b (ne b o e)).trans (u.keep b o e n hb hx),fun b o e n hb hx=>?_,u.free,fun b o e hx=>?_,u.tups,u.frzs,u.tbls⟩ (fun b ob e=>?_) I'.bare (fun b hb=>⟨(f2 b hb).2.2.2.1,(f2 b hb).2.1,(f2 b hb).2.2.2.2.1,(f2 b hb).2.2.2.2.2⟩)
 ·obtain⟨sl,e1⟩:=u.slot b o e n hb hx
  exact⟨sl,(hs.2 b (ne b o e)).trans e1⟩
 ·obtain⟨o',e1⟩:=u.there b o e hx
  exact⟨o',(hs.2 b (ne b o e)).trans e1⟩
 ·refine(I'.hok b ob e).stay (fun c w' hc q=>(hs.2 c ?_).trans q) (fun _ q=>q) fun _ _ q=>q
  have hf:H' C=none:=I'.free
  rintro rfl
  rcases hc with rfl|hc
  ·rw[hf] at e;cases e
  ·rw[hf] at hc;cases hc
def jOW (X:Cx)(ifs:List Expr)(t:TT):Prop:=∀(pins:List (Addr×Obj))(s:Shared)(σ:St)(H:Hp)(Q:Bool→Hp→Prop),Inv X pins σ H s→t σ H Q →
 wpAny (model X.prog X.w) X.A (forIn ifs true fun c r=>if r=true then do let ok ←isTrue c X.env (eval c X.env);pure (ForInStep.yield ok) else pure (ForInStep.yield r)) (TP X pins σ Q) X.xe s
theorem jMZ:jOW X [] (fun _ H Q=>Q true H):=fun pins s σ H Q I h=>wpAny_pure ⟨H,I,h⟩
theorem jNe {c:Expr}{t:TT}(h:PT X c t):jOW X [c] t:=fun pins s σ H Q I hq=>by
 rw[List.forIn_cons]
 simp only[if_true,bind_assoc,pure_bind]
 exact wpAny_bind (thn (h pins s σ H Q I hq) fun b s1 h1=>wpAny_pure h1)
def jLx (K:PySem.W.Frag)(idx:List Nat)(wi:TI)(tt:Hp→TT)(te:Hp→TE):TE:=fun σ H Q=>wi σ H fun J H1=>∀D,H1 D=none→K.lookup D=none→∃W:Nat→Nat→List V→Hp→Prop,(∃m,W 0 m [] (upd H1 D (.lst []))) ∧
 ∀i m ys H,H D=some (.lst ys)→W i m ys H→(J.stop i H∧Q (.ref D) H)∨(J.go i H∧∀x H',J.yld i H x H'→tt H1 (some x::jCA σ idx) H' fun b H2 =>
  if b=true then te H1 (some x::jCA σ idx) H2 (fun v H3=>H3 D=some (.lst ys)∧ys.length<sizeLine∧∃m',m'<m∧W (i+1) m' (ys++[v]) (upd H3 D (.lst (ys++[v])))) else H2 D=some (.lst ys)∧∃m',m'<m∧W (i+1) m' ys H2)
theorem jJo {elt iter:Expr}{ifs:List Expr}{wi:TI}{tt:Hp→TT}{te:Hp→TE}{pos:Pos}{s:Shared}{H:Hp}{Q:VK}{use:Option (Value→Sem Unit)}{QQ:Value→Shared→Prop}(O:jAP X x scope N idx) (hc:X.calm=true) (hi:PI X (.Name x px) iter wi)
 (hifs:∀cl C s₀ H₀ fp,jOW (jAs X N scope cl C s₀ H₀ fp) ifs (tt H₀)) (helt:∀cl C s₀ H₀ fp,PE (jAs X N scope cl C s₀ H₀ fp) elt (te H₀))
 (hs:∀x,foldedSetIterable iter X.env x=pure x) (I:Inv X pins σ H s) (h:jLx X.K idx wi tt te σ H Q)
 (fin:∀(s2:Shared)(H2:Hp)(fp:List Addr)(cl:List (Str×Addr))(C D:Addr)(σ':St)(H':Hp)(s':Shared),Inv X pins σ H2 s2→(∀b∈fp,jJ9 X pins H2 b)→s2.heap.objs.size<C→Inv (jAs X N scope cl C s2 H2 fp) [] σ' H' s'→Q (.ref D) H' →
  compPost (model X.prog X.w) X.A X.xe use QQ (.ref D) C (.ok .next) s') :
 wpAny (model X.prog X.w) X.A (comprehension (.ListComp elt [⟨.Name x px,iter,ifs,0⟩] scope pos) scope X.env (firstIterPos [⟨.Name x px,iter,ifs,0⟩] pos) (newList []) false (eval iter X.env) use) QQ X.xe s:=by
 obtain⟨cl,ecl,hcl,hcl2⟩:=jE9 (scope:=scope) (env:=X.env) fun y hy hf=>I.ok.has y.1 (.inl (O.free y hy hf))
 refine wpAny_comprehension_free (use:=use) (cl:=cl) rfl hs ecl O.kind O.names ?_
 refine thn (hi pins s σ H _ I h) fun v s1 h1=>thn h1 fun itv s2 h2=>?_
 obtain⟨it,fp,tn,J,H2,rfl,I2,T,st2,f2,hD⟩:=h2
 refine wpAny_newObj_type (wpAny_newFunctionEnv O.cell (by intro y hy;simp at hy) (fun h1 hns hsb=>?_) O.kind)
 dsimp only at hns hsb ⊢
 generalize hG:s2.heap.push { cls:=.type "list",dict:=none,data:=.seq ([]:List Value).toArray }=G at hns hsb ⊢
 have hCs:s2.heap.objs.size<G.objs.size:=by rw[←hG,Heap.size_push];exact Nat.lt_succ_self _
 have old:∀b o,s2.heap.get? b=some o→h1.get? b=some o:=fun b o e=>hsb.extBut b o (Nat.ne_of_lt (Nat.lt_trans (Heap.lt_size e) hCs)) (Heap.get?_push_of_some _ (hG ▸ Heap.get?_push_of_some _ e))
 have hDl:h1.get? s2.heap.objs.size=some { cls:=.type "list",data:=.seq ([]:List Value).toArray }:=hsb.extBut _ _ (Nat.ne_of_lt hCs) (Heap.get?_push_of_some _ (hG ▸ Heap.get?_push_size _ rfl))
 have hDn:H2 s2.heap.objs.size=none:=I2.hok.fresh (Nat.le_refl _)
 have hDk:X.K.lookup s2.heap.objs.size=none:=by
  cases e:X.K.lookup s2.heap.objs.size with
  |none=>rfl
  |some o=>exact absurd (Heap.lt_size (I2.kIn _ _ e)) (Nat.lt_irrefl _)
 obtain⟨W,⟨m0,w0⟩,step⟩:=hD _ hDn hDk
 have I4:Inv (jAs X N scope cl G.objs.size s2 H2 fp) [] (none::jCA σ idx) (upd H2 s2.heap.objs.size (.lst [])) { s2 with heap:=h1,toks:=s2.toks+([]:List (Str×Value)).length } :=
  jKm O I2 T st2 f2 hcl hcl2 hCs hns old hDl
 generalize hCC:G.objs.size=C at I4 hCs ⊢
 clear hsb hns hG hCC
 generalize hDD:s2.heap.objs.size=D at hDn hDk step w0 I4 hDl ⊢
 have st4:tn 0 h1:=T.keep 0 _ _ st2 fun b _ o e=>old b o e
 have frD:∀b∈fp,(upd H2 D (.lst [])) b=none:=fun b hb=>by
  obtain⟨o,e,_⟩:=T.obj 0 _ st2 b hb
  rw[jAn (by rw[←hDD];exact Nat.ne_of_lt (Heap.lt_size e))]
  exact(f2 b hb).1
 have stat:∀{H':Hp},(∀b∈fp,H' b=none)→∀b∈fp,jJ9 (jAs X N scope cl C s2 H2 fp) [] H' b:=fun hn b hb =>
  ⟨hn b hb,(I4.ok.exf b hb).1,I4.ok.exfs b hb,.inl hb,(I4.ok.exf b hb).2,fun p hp=>by cases hp⟩
 have hloc:(jAs X N scope cl C s2 H2 fp).env.scope.names.lookup x=some .local:=lookup_relabel_local O.own
 have loop:∀s3:Shared,s3={ s2 with heap:=h1,toks:=s2.toks+([]:List (Str×Value)).length } →
  codeAny (model X.prog X.w) X.A (.compLoop (.ListComp elt [⟨.Name x px,iter,ifs,0⟩] scope pos) 0 (.ref it) (.ref D) (compEnvC scope cl C X.env)) (compPost (model X.prog X.w) X.A X.xe use QQ (.ref D) C) s3:=by
  rintro s3 rfl
  refine codeAny_compLoop_tests (fun n s'=>∃i z H' ys,Inv (jAs X N scope cl C s2 H2 fp) [] (z::jCA σ idx) H' s'∧tn i s'.heap∧(∀b∈fp,H' b=none)∧H' D=some (.lst ys)∧W i n ys H') ?_ m0 ⟨0,none,_,[],I4,st4,frD,jAp,w0⟩
  rintro n s5 ⟨i,z,H5,ys,I5,st5,fr5,hD5,w5⟩
  rcases step i n ys H5 hD5 w5 with⟨stop,q⟩|⟨go,next⟩
  ·refine wpAny_mono (T.done (jAs X N scope cl C s2 H2 fp) rfl rfl rfl hc i [] s5 _ H5 (fun _ _=>False) I5 (stat fr5) st5 stop) (fun r s6 hh=>?_) fun _ _ z=>z.elim
   obtain⟨hr,I6⟩:=hh
   subst hr
   exact fin s2 H2 fp cl C D _ H5 s6 I2 f2 hCs I6 q
  ·refine wpAny_mono (T.item (jAs X N scope cl C s2 H2 fp) rfl rfl rfl hc i [] s5 _ H5 (fun _ _=>False) I5 (stat fr5) st5 go) (fun r s6 hh=>?_) fun _ _ z=>z.elim
   obtain⟨u,hr,h6⟩:=hh
   subst hr
   dsimp only
   refine(show wpAny _ _ ((pure ():Sem Unit) >>= fun _=>assign (.Name x px) (compEnvC scope cl C X.env) u) _ _ _ from wpAny_bind (wpAny_mono (show wpAny _ _ (pure ():Sem Unit) _ _ _ from h6) (fun _ s7 h7=>?_) fun _ _ z=>z.elim))
   obtain⟨xv,H7,I7,r7,y7,st7,fr7⟩:=h7
   have I7':=I7.pinned (stat fr7) (T.obj _ _ st7)
   refine wpAny_assign_Name (jEK (X:=jAs X N scope cl C s2 H2 fp) I7' O.nd O.fst (.inl hloc) r7 (fun s8 I8=>?_) (.inr hloc))
   have again:∀{H9:Hp}{s9:Shared}{ys':List V}{m':Nat},Inv (jAs X N scope cl C s2 H2 fp) ([]++jGM fp s7.heap) (some xv::jCA σ idx) H9 s9→H9 D=some (.lst ys')→m'<n→W (i+1) m' ys' H9 →
    ∃m,m<n∧∃i z H' ys,Inv (jAs X N scope cl C s2 H2 fp) [] (z::jCA σ idx) H' s9∧tn i s9.heap∧(∀b∈fp,H' b=none)∧H' D=some (.lst ys)∧W i m ys H':=fun {H9 s9 ys' m'} I9 hD9 hm w9=>by
    refine⟨m',hm,i+1,some xv,H9,ys',I9.unpinned,T.keep _ _ _ st7 fun b hb o e=>(I9.pin (b,o) (List.mem_append_right _ (List.mem_append_right _ (jCl hb e)))).1,fun b hb=>?_,hD9,w9⟩
    obtain⟨o,e,d⟩:=T.obj _ _ st7 b hb
    exact(I9.pin (b,o) (List.mem_append_right _ (List.mem_append_right _ (jCl hb e)))).2.1
   refine wpAny_mono (hifs cl C s2 H2 fp _ s8 _ H7 _ I8 (next xv H7 y7)) (fun b s9 hh=>?_) fun _ _ z=>z.elim
   obtain⟨H9,I9,q9⟩:=hh
   cases b with
   |true =>
    rw[if_pos rfl] at q9 ⊢
    refine wpAny_mono (helt cl C s2 H2 fp _ s9 _ H9 _ I9 q9) (fun y s10 hh=>?_) fun _ _ z=>z.elim
    obtain⟨v,H10,I10,r10,hD10,hl,m',hm,w'⟩:=hh
    refine wpAny_mono (jA7 (X:=jAs X N scope cl C s2 H2 fp) _ s10 _ H10 (.ref D) [v] (.ref D) [y] (fun _ H'=>H'=upd H10 D (.lst (ys++[v]))) I10 rfl (.cons r10 .nil) ⟨D,ys,v,rfl,rfl,hD10,hl,rfl⟩) (fun _ s11 hh=>?_) fun _ _ z=>z.elim
    obtain⟨_,H11,I11,_,e11⟩:=hh
    subst e11
    exact again I11 jAp hm w'
   |false =>
    rw[if_neg Bool.false_ne_true] at q9 ⊢
    obtain⟨hD9,m',hm,w'⟩:=q9
    exact again I9 hD9 hm w'
 exact codeAny_compStart_list (loop _ rfl) (T.self X.A 0 _ _ _ st4 (loop _ rfl))
theorem jLe {elt iter:Expr}{ifs:List Expr}{wi:TI}{tt:Hp→TT}{te:Hp→TE}{pos:Pos}(O:jAP X x scope N idx) (hc:X.calm=true) (hi:PI X (.Name x px) iter wi)
 (hifs:∀cl C s₀ H₀ fp,jOW (jAs X N scope cl C s₀ H₀ fp) ifs (tt H₀)) (helt:∀cl C s₀ H₀ fp,PE (jAs X N scope cl C s₀ H₀ fp) elt (te H₀))
 (hs:∀x,foldedSetIterable iter X.env x=pure x:=by intro _;rfl):PE X (.ListComp elt [⟨.Name x px,iter,ifs,0⟩] scope pos) (jLx X.K idx wi tt te):=by
 intro pins s σ H Q I h
 rw[eval_ListComp]
 refine jJo (use:=none) O hc hi hifs helt hs I h fun s2 H2 fp cl C D σ' H' s' I2 f2 hC I' q=>?_
 obtain⟨m,hn,_⟩:=I'.loc
 exact⟨m,hn,fun h' hs'=>⟨.ref D,H',jEP I2 f2 hC I' hs',rfl,q⟩⟩
theorem jK6 {C:Addr}{h':Heap}{H:Hp}{s:Shared}(I:Inv X pins σ H s) (hs:Heap.SameBut C s.heap h') (h0:X.s₀.heap.objs.size≤C) (hH:H C=none) (hL:C≠X.env.locals) (hc:∀y c,X.env.cells.lookup y=some c→c≠C) (hp:∀p∈X.pn++pins,p.1≠C) :
 Inv X pins σ H { s with heap:=h' }:=by
 obtain⟨m,hn,hl⟩:=I.loc
 have ne:∀b o,X.s₀.heap.get? b=some o→b≠C:=fun b o e=>Nat.ne_of_lt (Nat.lt_of_lt_of_le (Heap.lt_size e) h0)
 refine⟨I.ok,I.os,I.bare,⟨fun b o e n hb hx=>(hs.2 b (ne b o e)).trans (I.base.keep b o e n hb hx),fun b o e n hb hx=>?_,I.base.free,fun b o e hx=>?_,I.base.tups,I.base.frzs,I.base.tbls⟩,⟨m,hn.sameBut hs (Ne.symm hL),fun i y v e1 e2 e3=>?_⟩,fun y c e=>?_,I.free,I.freeC,fun p hq=>?_,fun b ob e=>?_,I.len⟩
 ·obtain⟨sl,e1⟩:=I.base.slot b o e n hb hx
  exact⟨sl,(hs.2 b (ne b o e)).trans e1⟩
 ·obtain⟨o',e1⟩:=I.base.there b o e hx
  exact⟨o',(hs.2 b (ne b o e)).trans e1⟩
 ·obtain⟨u,ru,lk⟩:=hl i y v e1 e2 e3
  refine⟨u,ru,?_⟩
  rcases lk with lk|⟨k,c,e,ic⟩
  ·exact .inl lk
  ·exact .inr ⟨k,c,e,ic.sameBut hs (hc y c e)⟩
 ·obtain⟨v,ic⟩:=I.cell y c e
  exact⟨v,ic.sameBut hs (hc y c e)⟩
 ·obtain⟨e,n,ne',nf,d⟩:=I.pin p hq
  exact⟨(hs.2 p.1 (hp p hq)).trans e,n,ne',nf,d⟩
 ·refine(I.hok b ob e).stay (fun c w' hc' q=>(hs.2 c ?_).trans q) (fun _ q=>q) fun _ _ q=>q
  rintro rfl
  rcases hc' with rfl|hc'
  ·rw[hH] at e;cases e
  ·rw[hH] at hc';cases hc'
def jQ2 (i:Nat)(te:TE):TS:=fun D σ H=>te σ H fun v H1=>D.nx (σ.set i (some v)) H1
theorem jGY {i:Nat}{y:Str}{py spos:Pos}{elt iter:Expr}{ifs:List Expr}{wi:TI}{tt:Hp→TT}{te:Hp→TE}{pos:Pos}(O:jAP X x scope N idx) (hc:X.calm=true) (hi:PI X (.Name x px) iter wi)
 (hifs:∀cl C s₀ H₀ fp,jOW (jAs X N scope cl C s₀ H₀ fp) ifs (tt H₀)) (helt:∀cl C s₀ H₀ fp,PE (jAs X N scope cl C s₀ H₀ fp) elt (te H₀)) (hN:X.N.Nodup) (hy:X.N[i]? = some y) (hly:Loc X.env.scope y)
 (hsw:swapsWith (.ListComp elt [⟨.Name x px,iter,ifs,0⟩] scope pos) (some (.Name y py)) spos.line X.env=pure true:=by rfl) (hs:∀x,foldedSetIterable iter X.env x=pure x:=by intro _;rfl)
 (hfn:X.fn y=true∨X.env.scope.names.lookup y=some .local:=by first|exact .inl rfl|exact .inr rfl|assumption) :
 PS X (.Assign [.Name y py] (.ListComp elt [⟨.Name x px,iter,ifs,0⟩] scope pos) spos) (jQ2 i (jLx X.K idx wi tt te)):=by
 intro pins s σ H D I h
 rw[exec_Assign_Name_used _ _ _ _ hsw]
 refine wpAny_bind (wpAny_standAt (wpAny_bind ?_))
 show wpAny _ X.A (do let _ ←comprehension (.ListComp elt [⟨.Name x px,iter,ifs,0⟩] scope pos) scope X.env _ (newList []) false (eval iter X.env) (some (assign (.Name y py) X.env))) _ _ s
 refine wpAny_bind (wpAny_mono (jJo (use:=some (assign (.Name y py) X.env)) (QQ:=fun _ s'=>SP X pins D .next s') O hc hi hifs helt hs I h fun s2 H2 fp cl C E σ' H' s' I2 f2 hC I' q=>?_) (fun _ s' hq=>wpAny_pure (wpAny_pure hq)) fun _ _ e=>e)
 have I3:Inv X pins σ H' s':=jEP (h':=s'.heap) I2 f2 hC I' ⟨rfl,fun _ _=>rfl⟩
 obtain⟨mC,hnC,_⟩:=I'.loc
 have h0:X.s₀.heap.objs.size≤C:=Nat.le_trans I2.sz (Nat.le_of_lt hC)
 have hCL:C≠X.env.locals:=Nat.ne_of_gt (Nat.lt_trans I2.lt hC)
 have hCc:∀y c,X.env.cells.lookup y=some c→c≠C:=fun y c e=>by
  obtain⟨v,ic⟩:=I2.cell y c e
  exact Nat.ne_of_lt (Nat.lt_trans ic.lt hC)
 have hCp:∀p∈X.pn++pins,p.1≠C:=fun p hp=>Nat.ne_of_lt (Nat.lt_trans (Heap.lt_size (I2.pin p hp).1) hC)
 show wpAny _ X.A (assign (.Name y py) X.env (.ref E)) _ _ _
 refine wpAny_assign_Name (jGz (v:=.ref E) I3 hN hy hly rfl (fun s4 I4 hb=>?_) hfn)
 obtain⟨a,hsa,ha⟩:=hb
 have hCa:C≠a:=by
  rcases ha with rfl|ha
  ·exact hCL
  ·exact fun z=>hCc y a ha z.symm
 exact⟨mC,hnC.sameBut hsa hCa,fun h' hs'=>⟨_,H',jK6 I4 hs' h0 I'.free hCL hCc hCp,q⟩⟩
end
abbrev TX3:=Tau→(List D→Prop)→Prop
def Src (X:Cx)(wi:TI)(ws:TX3):Prop:=∀(B:HZ)(τ:Tau)(σ:St)(H z:Hp)(P:List D→Prop)(R:It→Hp→Prop),Rep X B τ σ ⟨H,z⟩→ws τ P →
 (∀(J:It)(q:HZ)(xs:List D),Ext ⟨H,z⟩ q→P xs→(∀H',jBb q.h H'→(∀i,i<xs.length→J.go i H'∧∀x H'',J.yld i H' x H''→H''=H'∧∃d,xs[i]? = some d∧Is X.K q.z x d)∧∀i,xs.length≤i→J.stop i H')→R J q.h)→wi σ H R
def jTl (te:TE3):TX3:=fun τ P=>te τ fun s=>match items s with
 |some xs=>P xs
 |none=>False
theorem jHD {X:Cx}{q:HZ}{a:Addr}{vs:List V}{xs:List D}(h:SqL X.K q.h a vs) (hi:Iss X.K q.z vs xs):∀H',jBb q.h H'→(∀i,i<xs.length→(Itl X.K a).go i H'∧∀x H'',(Itl X.K a).yld i H' x H''→H''=H'∧∃d,xs[i]? = some d∧Is X.K q.z x d)∧∀i,xs.length≤i→(Itl X.K a).stop i H':=by
 intro H' e
 have h':SqL X.K H' a vs:=e.seq h
 refine⟨fun i hlt=>⟨⟨vs,vs[i]'(by rw[hi.1];exact hlt),h',List.getElem?_eq_getElem (by rw[hi.1];exact hlt)⟩,fun x H'' hy=>⟨hy.1,?_⟩⟩,fun i hle=>⟨vs,h',by rw[hi.1];exact hle⟩⟩
 obtain⟨d,h1,h2⟩:=jDk hi (hy.2 vs h')
 exact⟨d,h1,h2⟩
theorem jN8 {X:Cx}{q:HZ}{a:Addr}{vs:List V}{xs:List D}(h:SqT X.K q.h a vs) (hi:Iss X.K q.z vs xs):∀H',jBb q.h H'→(∀i,i<xs.length→(Itt X.K a).go i H'∧∀x H'',(Itt X.K a).yld i H' x H''→H''=H'∧∃d,xs[i]? = some d∧Is X.K q.z x d)∧∀i,xs.length≤i→(Itt X.K a).stop i H':=by
 intro H' e
 have h':SqT X.K H' a vs:=SqT.same e h
 refine⟨fun i hlt=>⟨⟨vs,vs[i]'(by rw[hi.1];exact hlt),h',List.getElem?_eq_getElem (by rw[hi.1];exact hlt)⟩,fun x H'' hy=>⟨hy.1,?_⟩⟩,fun i hle=>⟨vs,h',by rw[hi.1];exact hle⟩⟩
 obtain⟨d,h1,h2⟩:=jDk hi (hy.2 vs h')
 exact⟨d,h1,h2⟩
section
variable {X:Cx}{e:Expr}{te:TE3}{ta:TA3}
theorem jCt:Src X (jQR X.K (FE X te)) (jTl te):=by
 intro B τ σ H z P R r ht k
 refine⟨B,z,τ,_,r,ht,fun s v H1 e1 i1 f1 h1=>?_⟩
 try dsimp only at h1
 split at h1
 ·rename_i xs hx
  cases s with
  |d z =>
   cases z with
   |tup zs =>
    cases hx
    obtain⟨p,vs,rfl,h3,h4⟩:=Is.tup_inv i1
    exact⟨p,rfl,.inr ⟨⟨vs,SqT.same e1.sub h3⟩,k _ H1 _ e1 h1 (jN8 (SqT.same e1.sub h3) h4)⟩⟩
   |lst zs =>
    cases hx
    obtain⟨p,vs,rfl,h3,h4⟩:=Is.lst_inv i1
    exact⟨p,rfl,.inl ⟨⟨vs,e1.sub.seq h3⟩,k _ H1 _ e1 h1 (jHD (e1.sub.seq h3) h4)⟩⟩
   |_=>cases hx
  |l zs =>
   cases hx
   obtain⟨p,vs,rfl,h3,h4⟩:=i1
   exact⟨p,rfl,.inl ⟨⟨vs,SqL.of h3⟩,k _ H1 _ e1 h1 (jHD (SqL.of h3) h4)⟩⟩
  |r zs =>
   cases hx
   obtain⟨p,vs,rfl,h3,h4⟩:=i1
   exact⟨p,rfl,.inl ⟨⟨vs,h3⟩,k _ H1 _ e1 h1 (jHD h3 h4)⟩⟩
 ·exact h1.elim
def jOX (lo st:Int)(n:Nat):List D:=(List.range n).map fun(i:Nat)=>D.int (lo+i*st)
theorem jAX (lo st:Int)(n:Nat):(jOX lo st n).length=n:=by unfold jOX;rw[List.length_map,List.length_range]
theorem jHp {lo st:Int}{n i:Nat}(h:i<n):(jOX lo st n)[i]? = some (.int (lo+i*st)):=by
 unfold jOX
 rw[List.getElem?_map,List.getElem?_range h]
 rfl
def jRO (ta:TA3):TX3:=fun τ P=>ta τ fun ss=>match ss with
 |[.d (.int j)]=>(-(2^62)≤j∧j<2^62)∧P (jOX 0 1 j.toNat)
 |_=>False
def jSd (ta:TA3):TX3:=fun τ P=>ta τ fun ss=>match ss with
 |[.d (.int i),.d (.int j)]=>(-(2^62)≤i∧i<2^62∧-(2^62)≤j∧j<2^62)∧P (jOX i 1 (j-i).toNat)
 |_=>False
theorem jI9:Src X (jOz (FA X ta)) (jRO ta):=by
 intro B τ σ H z P R r ht k
 refine⟨B,z,τ,_,r,ht,fun ss vs H1 e1 i1 h1=>?_⟩
 try dsimp only at h1
 split at h1
 ·rename_i j
  obtain⟨v,rfl,hv⟩:=jMi i1
  cases Is.int_inv hv
  obtain⟨⟨q1,q2⟩,hP⟩:=h1
  refine⟨j,rfl,q1,q2,k _ H1 _ e1 hP fun H' e=>⟨fun i hlt=>?_,fun i hle=>?_⟩⟩
  ·rw[jAX] at hlt
   refine⟨hlt,fun x H'' hy=>⟨hy.1,_,jHp hlt,?_⟩⟩
   rw[hy.2,Int.mul_one]
   exact .int _
  ·rw[jAX] at hle;exact hle
 ·exact h1.elim
theorem jFK:Src X (jO1 (FA X ta)) (jSd ta):=by
 intro B τ σ H z P R r ht k
 refine⟨B,z,τ,_,r,ht,fun ss vs H1 e1 i1 h1=>?_⟩
 try dsimp only at h1
 split at h1
 ·rename_i i0 j
  obtain⟨v,u,rfl,hv,hu⟩:=jMP i1
  cases Is.int_inv hv
  cases Is.int_inv hu
  obtain⟨q,hP⟩:=h1
  refine⟨i0,j,rfl,q,k _ H1 _ e1 hP fun H' e=>⟨fun i hlt=>?_,fun i hle=>?_⟩⟩
  ·rw[jAX] at hlt
   refine⟨hlt,fun x H'' hy=>⟨hy.1,_,jHp hlt,?_⟩⟩
   rw[hy.2,Int.mul_one]
   exact .int _
  ·rw[jAX] at hle;exact hle
 ·exact h1.elim
end
def jKK (τ:Tau)(idx:List Nat)(x:D):Tau:=some (.d x)::(jCA τ idx).map (Option.map S.share)
structure jI4 (X:Cx)(ifs:List Expr)(t:TT3):Prop where
 out:jOW X ifs (FT X t)
def jSW:TT3:=fun _ R=>R true
theorem jBL {X:Cx}:jI4 X [] jSW:=⟨fun pins s σ H Q I ⟨B,z,τ,R,r,ht,q⟩=>jMZ pins s σ H Q I (q true ⟨H,z⟩ (Ext.refl r.ext.sub) ht)⟩
theorem jI2 {X:Cx}{c:Expr}{t:TT3}(h:PT3 X c t):jI4 X [c] t:=⟨jNe h.out⟩
abbrev cxC (X:Cx)(N:List Str)(scope:Scope)(H₀:Hp):Cx:=jAs X N scope [] 0 X.s₀ H₀ []
section
variable {X:Cx}{x:Str}{px pos:Pos}{scope:Scope}{N:List Str}{idx:List Nat}{cl:List (Str×Addr)}{C:Addr}{s₀:Shared}{H₀ H H':Hp}{fp:List Addr}{σ:St}{τ:Tau}
theorem jNX {B p:HZ}(r:Rep (cxC X N scope H₀) B τ σ p):Rep (jAs X N scope cl C s₀ H₀ fp) B τ σ p:=⟨r.len,r.ext,r.val,r.own,r.sep,r.top,r.pin⟩
theorem jMs {α β:Type}(a:List (Option α)) (b:List (Option β)) (idx:List Nat):(jCA a idx).length=(jCA b idx).length:=by unfold jCA;rw[List.length_map,List.length_map]
theorem jHu {B p p0 q:HZ}{d:D}{v:V}(r:Rep X B τ σ p) (e:Ext p p0) (e':Ext p0 q) (iv:Is X.K q.z v d):Rep (cxC X N scope p0.h) p0 (jKK τ idx d) (some v::jCA σ idx) q:=by
 have no:∀(i:Nat)(xs:List D),¬(jKK τ idx d)[i]? = some (some (.l xs)):=fun i xs z=>by
  cases i with
  |zero=>cases z
  |succ k =>
   have z':((jCA τ idx).map (Option.map S.share))[k]? = some (some (.l xs)):=z
   rw[List.getElem?_map] at z'
   cases q:(jCA τ idx)[k]? with
   |none=>rw[q] at z';cases z'
   |some o =>
    rw[q] at z'
    cases o with
    |none=>cases z'
    |some s0 =>
     have z2:s0.share=.l xs:=Option.some.inj (Option.some.inj z')
     cases s0<;>cases z2
 refine⟨?_,e',fun i s hs=>?_,fun i xs a z _=>absurd z (no i xs),fun i j xs s a _ z _ _ _=>absurd z (no i xs),fun _=>jBb.refl _,fun k a h=>by cases h⟩
 ·unfold jKK
  rw[List.length_cons,List.length_cons,List.length_map,jMs]
 ·cases i with
  |zero =>
   cases hs
   exact⟨v,rfl,iv⟩
  |succ k =>
   have z':((jCA τ idx).map (Option.map S.share))[k]? = some (some s):=hs
   rw[List.getElem?_map] at z'
   cases q:(jCA τ idx)[k]? with
   |none=>rw[q] at z';cases z'
   |some o =>
    rw[q] at z'
    cases o with
    |none=>cases z'
    |some s0 =>
     have z2:s0.share=s:=Option.some.inj (Option.some.inj z')
     obtain⟨j,hj,hτ⟩:=jFS q
     obtain⟨w,hw,iw⟩:=r.val j s0 hτ
     refine⟨w,?_,?_⟩
     ·show(jCA σ idx)[k]? = some (some w)
      unfold jCA
      rw[List.getElem?_map,hj]
      show some ((σ[j]?).getD none)=_
      rw[hw]
      rfl
     ·rw[←z2]
      exact(iw.mono (e.trans e')).share
end
def jOH (idx:List Nat)(ws:TX3)(tt:TT3)(te:TE3):TE3:=fun τ R=>ws τ fun xs=>∃os:List (Option D),os.length=xs.length ∧
 (∀(n:Nat)(x:D),xs[n]? = some x→tt (jKK τ idx x) fun b=>if b=true then te (jKK τ idx x) (fun s=>dd s.arg fun y=>os[n]? = some (some y)) else os[n]? = some none)∧xs.length≤100000∧R (.l (os.filterMap id))
section
variable {X:Cx}{x:Str}{px pos:Pos}{scope:Scope}{N:List Str}{idx:List Nat}{elt iter:Expr}{ifs:List Expr}{wi:TI}{ws:TX3}{tt:TT3}{te:TE3}
theorem jJW (hsrc:Src X wi ws){σ:St}{H:Hp}{Q:VK}(h:FE X (jOH idx ws tt te) σ H Q):jLx X.K idx wi (fun H₀=>FT (cxC X N scope H₀) tt) (fun H₀=>FE (cxC X N scope H₀) te) σ H Q:=by
 obtain⟨B,z,τ,R,r,ht,q⟩:=h
 refine hsrc B τ σ H z _ _ r ht fun J p1 xs e1 hP hJ=>fun D' hD hK=>?_
 obtain⟨os,hlen,hel,hsz,hR⟩:=hP
 have sz:(100000:Nat)<sizeLine:=by decide
 refine⟨fun i m ys H'=>m=xs.length-i∧i≤xs.length∧∃z',Ext p1 ⟨H',z'⟩∧z' D'=none∧Iss X.K z' ys ((os.take i).filterMap id),⟨xs.length,rfl,Nat.zero_le _,p1.z,Ext.own e1.sub hD _,e1.sub.free hD,Iss.nil⟩,?_⟩
 rintro i m ys H' hD' ⟨rfl,hi,z',hs,hzD,hiss⟩
 by_cases hlt:i<xs.length
 ·obtain⟨go,yl⟩:=(hJ H' hs.hh).1 i hlt
  refine .inr ⟨go,fun v H'' hy=>?_⟩
  obtain⟨rfl,d,hx,iv⟩:=yl v H'' hy
  have rr:Rep (cxC X N scope p1.h) p1 (jKK τ idx d) (some v::jCA σ idx) ⟨H'',z'⟩:=jHu r e1 hs (iv.mono hs.zz)
  have hys:ys.length≤i:=by
   rw[hiss.1]
   refine Nat.le_trans (List.length_filterMap_le _ _) ?_
   rw[List.length_take];omega
  have keep:∀q:HZ,Ext ⟨H'',z'⟩ q→q.z D'=none:=fun q e=>by
   cases y:q.z D' with
   |none=>rfl
   |some o =>
    rcases e.new D' o y with y|y
    ·exact nomatch (hzD.symm.trans y)
    ·exact nomatch (hD'.symm.trans y)
  refine⟨_,_,_,_,rr,hel i d hx,fun b q3 e3 hb=>?_⟩
  cases b with
  |true =>
   rw[if_pos rfl] at hb ⊢
   refine⟨_,_,_,_,rr.mono e3,hb,fun s v2 q4 e4 i4 f4 h4=>?_⟩
   obtain⟨y,hy',h4⟩:=jEe h4
   obtain⟨z5,e5,i5⟩:=jDE e4 i4 f4
   rw[hy'] at i5
   have e35:=e3.trans e5
   have hD4:q4.h D'=some (.lst ys):=e35.hh _ _ hD'
   have hz5:z5 D'=none:=keep _ e35
   refine⟨hD4,by omega,xs.length-(i+1),by omega,rfl,hlt,z5,?_,hz5,?_⟩
   ·have e15:=hs.trans e35
    refine⟨fun b o hb'=>?_,e15.zz,fun b o hb'=>?_,e15.new⟩
    ·have hne:b≠D':=by rintro rfl;rw[hD] at hb';cases hb'
     show upd q4.h D' _ b=some o
     rw[jAn hne]
     exact e15.hh b o hb'
    ·have hne:b≠D':=by
      rintro rfl
      have hb2:z5 b=some o:=hb'
      rw[hz5] at hb2;cases hb2
     show upd q4.h D' _ b=some o
     rw[jAn hne]
     exact e15.sub b o hb'
   ·rw[List.take_add_one,h4,List.filterMap_append]
    exact(hiss.mono e35.zz).snoc i5
  |false =>
   rw[if_neg Bool.false_ne_true] at hb ⊢
   refine⟨e3.hh _ _ hD',xs.length-(i+1),by omega,rfl,hlt,q3.z,hs.trans e3,keep _ e3,?_⟩
   rw[List.take_add_one,hb,List.filterMap_append]
   have:([none]:List (Option D)).filterMap id=[]:=rfl
   show Iss X.K q3.z ys ((os.take i).filterMap id++([none]:List (Option D)).filterMap id)
   rw[this,List.append_nil]
   exact hiss.mono e3.zz
 ·have ei:i=xs.length:=by omega
  subst ei
  refine .inl ⟨(hJ H' hs.hh).2 _ (Nat.le_refl _),q (.l (os.filterMap id)) _ ⟨H',z'⟩ (e1.trans hs) ⟨D',ys,rfl,hD',?_⟩ (fun xs a _ h2=>?_) hR⟩
  ·rw[←hlen,List.take_length] at hiss
   exact hiss
  ·cases h2
   exact⟨e1.hh.free hD,hK,hzD⟩
theorem jHE (hifs:∀cl C s₀ H₀ fp,jI4 (jAs X N scope cl C s₀ H₀ fp) ifs tt):∀cl C s₀ H₀ fp,jOW (jAs X N scope cl C s₀ H₀ fp) ifs (FT (cxC X N scope H₀) tt):=fun cl C s₀ H₀ fp pins s σ H Q I ⟨B,z,τ,R,r,ht,q⟩ =>
 (hifs cl C s₀ H₀ fp).out pins s σ H Q I ⟨B,z,τ,R,jNX r,ht,q⟩
theorem jFi (helt:∀cl C s₀ H₀ fp,PE3 (jAs X N scope cl C s₀ H₀ fp) elt te):∀cl C s₀ H₀ fp,PE (jAs X N scope cl C s₀ H₀ fp) elt (FE (cxC X N scope H₀) te):=fun cl C s₀ H₀ fp pins s σ H Q I ⟨B,z,τ,R,r,ht,q⟩ =>
 (helt cl C s₀ H₀ fp).out pins s σ H Q I ⟨B,z,τ,R,jNX r,ht,q⟩
theorem jE4 (O:jAP X x scope N idx)(hc:X.calm=true)(hi:PI X (.Name x px) iter wi)(hsrc:Src X wi ws)(hifs:∀cl C s₀ H₀ fp,jI4 (jAs X N scope cl C s₀ H₀ fp) ifs tt)(helt:∀cl C s₀ H₀ fp,PE3 (jAs X N scope cl C s₀ H₀ fp) elt te)
 (hs:∀x,foldedSetIterable iter X.env x=pure x:=by intro _;rfl):PE3 X (.ListComp elt [⟨.Name x px,iter,ifs,0⟩] scope pos) (jOH idx ws tt te) :=
 ⟨jBe (jLe O hc hi (jHE hifs) (jFi helt) hs) fun σ H Q h=>jJW hsrc h⟩
theorem jIb {i:Nat}{y:Str}{py spos:Pos}(O:jAP X x scope N idx) (hc:X.calm=true) (hi:PI X (.Name x px) iter wi) (hsrc:Src X wi ws) (hifs:∀cl C s₀ H₀ fp,jI4 (jAs X N scope cl C s₀ H₀ fp) ifs tt) (helt:∀cl C s₀ H₀ fp,PE3 (jAs X N scope cl C s₀ H₀ fp) elt te)
 (hN:X.N.Nodup) (hy:X.N[i]? = some y) (hly:Loc X.env.scope y)
 (hsw:swapsWith (.ListComp elt [⟨.Name x px,iter,ifs,0⟩] scope pos) (some (.Name y py)) spos.line X.env=pure true:=by rfl) (hs:∀x,foldedSetIterable iter X.env x=pure x:=by intro _;rfl)
 (hfn:X.fn y=true∨X.env.scope.names.lookup y=some .local:=by first|exact .inl rfl|exact .inr rfl|assumption) (hp:jCT X i:=by first|exact jCn rfl|exact jCv rfl (by decide)|assumption) :
 PS3 X (.Assign [.Name y py] (.ListComp elt [⟨.Name x px,iter,ifs,0⟩] scope pos) spos) (jQD i (jOH idx ws tt te)) :=
 ⟨jBG (jGY O hc hi (jHE hifs) (jFi helt) hN hy hly hsw hs hfn) fun D2 σ H hh=>by obtain⟨B,z,τ,D3,r,ht,c⟩:=hh;exact jJW hsrc ⟨B,z,τ,_,r,ht,fun s v H' e i f h=>by
  cases s with
  |r _=>exact h.elim
  |d y=>exact c.nx _ _ _ (r.set e i f rfl hp) h
  |l ys=>exact c.nx _ _ _ (r.set e i f rfl hp) h⟩⟩
end
end L3
namespace L3
open PySem PySem.Spec PyProof.Rows L2
def jJN (fN:List Str)(scope:Scope)(N:List Str):Nat→List Nat→Bool
 |_,[]=>true
 |k,j::r=>(match N[k+1]?,fN[j]? with
  |some y,some y'=>y==y'&&(scope.names.lookup y==some NameKind.free)
  |_,_=>false)&&jJN fN scope N (k+1) r
def jKX (fsc:Scope)(fN:List Str)(x:Str)(scope:Scope)(N:List Str)(idx:List Nat):Bool :=
 (scope.kind == .function)&&scope.names.all (fun y=>!(y.2 == .cell))&&scope.names.all (fun y=>!(y.2 == .local)||scope.names.lookup y.1==some .local)&&(scope.names.lookup x==some NameKind.local) &&
 scope.names.all (fun y=>!(y.2 == .free)||fsc.names.lookup y.1==some .cell)&&decide N.Nodup&&(N[0]? == some x)&&(N.length==idx.length+1)&&jJN fN scope N 0 idx
theorem jNZ {fN:List Str}{scope:Scope}{N:List Str}:∀{idx:List Nat}{k0:Nat},jJN fN scope N k0 idx=true→∀(k j:Nat),idx[k]? = some j→∃y,N[k0+k+1]? = some y∧fN[j]? = some y∧scope.names.lookup y=some .free
 |[],_,_,_,_,h=>by simp at h
 |i::r,k0,h,k,j,hk=>by
  unfold jJN at h
  rw[Bool.and_eq_true] at h
  cases k with
  |zero =>
   have e:i=j:=by simpa using hk
   subst e
   obtain⟨h1,_⟩:=h
   split at h1
   ·rename_i y y' e1 e2
    rw[Bool.and_eq_true] at h1
    have ey:y=y':=by simpa using h1.1
    subst ey
    exact⟨y,e1,e2,by simpa using h1.2⟩
   ·cases h1
  |succ k =>
   obtain⟨y,a,b,c⟩:=jNZ h.2 k j (by simpa using hk)
   exact⟨y,by rw[←a];congr 1;omega,b,c⟩
theorem jAP.mk' {X:Cx}{x:Str}{scope:Scope}{N:List Str}{idx:List Nat}(fsc:Scope) (fN:List Str) (h1:X.env.scope=fsc) (h2:X.N=fN) (h:jKX fsc fN x scope N idx=true):jAP X x scope N idx:=by
 subst h1 h2
 unfold jKX at h
 simp only[Bool.and_eq_true] at h
 obtain⟨⟨⟨⟨⟨⟨⟨⟨a1,a2⟩,a3⟩,a4⟩,a5⟩,a6⟩,a7⟩,a8⟩,a9⟩:=h
 refine⟨by simpa using a1,fun y hy=>?_,fun y hy hl=>?_,by simpa using a4,fun y hy hf=>?_,by simpa using a6,by simpa using a7,by simpa using a8,fun k j hk=>?_⟩
 ·have:=List.all_eq_true.mp a2 y hy
  simpa using this
 ·have:=List.all_eq_true.mp a3 y hy
  rw[hl] at this
  simpa using this
 ·have:=List.all_eq_true.mp a5 y hy
  rw[hf] at this
  show X.env.scope.names.lookup y.1=some .cell
  simpa using this
 ·have:=jNZ a9 k j hk
  simpa using this
end L3
namespace L3
open PySem PySem.Spec PyProof.Rows L2
section
variable {X:Cx}{e a b c:Expr}{te ta tb tc:TE3}{pos:Pos}
theorem jSp {t:TE}(h:PE X e t):PE X e (fun σ H Q=>t σ H fun v H'=>(∀a o,H' a=some o→X.K.lookup a=none)→Q v H'):=fun pins s σ H Q I q =>
 thn (h pins s σ H _ I q) fun u s1 ⟨v,H1,I1,r1,q1⟩=>⟨v,H1,I1,r1,q1 fun a o e=>by
  cases y:X.K.lookup a with
  |none=>rfl
  |some o' =>
   have:=(I1.bs a o' (I1.ok.mod.kin a o' y)).2
   rw[e] at this
   cases this⟩
def jL7:D→Bool
 |.non=>true
 |_=>false
theorem jH2 {K:PySem.W.Frag}{z:Hp}{v:V}{x:D}(h:Is K z v x):decide (v=.non)=jL7 x:=by cases h<;>rfl
def jSy:R3:=fun dx dy R=>match dy with
 |.non=>R (.bl (jL7 dx))
 |_=>False
def jQ4:R3:=fun dx dy R=>match dy with
 |.non=>R (.bl (!jL7 dx))
 |_=>False
theorem jQK:jGm X (compareOp .Is) jSy:=jDJ jQ5 fun x y H Q hh=>by
 obtain⟨z,dx,dy,R,hz,hx,hy,h3,q⟩:=hh
 unfold jSy at h3
 split at h3
 ·exact⟨hy.non_inv,q _ _ ⟨H,z⟩ (Ext.refl hz) (.bl _) (by rw[jH2 hx];exact h3)⟩
 ·exact h3.elim
theorem jQJ:jGm X (compareOp .IsNot) jQ4:=jDJ jOg fun x y H Q hh=>by
 obtain⟨z,dx,dy,R,hz,hx,hy,h3,q⟩:=hh
 unfold jQ4 at h3
 split at h3
 ·exact⟨hy.non_inv,q _ _ ⟨H,z⟩ (Ext.refl hz) (.bl _) (by rw[jH2 hx];exact h3)⟩
 ·exact h3.elim
def jSz:R3:=fun dx dy R=>match dx,dy with
 |.tup xs,.tup ys=>xs≠[]∧xs.length+ys.length≤100000∧R (.tup (xs++ys))
 |.lst xs,.lst ys=>xs.length+ys.length≤100000∧R (.lst (xs++ys))
 |.int i,.int j=>R (.int (i+j))
 |_,_=>False
theorem Iss.append {K:PySem.W.Frag}{H:Hp}{vs ws:List V}{xs ys:List D}(h:Iss K H vs xs) (h':Iss K H ws ys):Iss K H (vs++ws) (xs++ys):=by
 refine⟨by simp[h.1,h'.1],fun i v x h1 h2=>?_⟩
 by_cases hi:i<vs.length
 ·rw[List.getElem?_append_left hi] at h1
  rw[List.getElem?_append_left (by have:=h.1;omega)] at h2
  exact h.2 i v x h1 h2
 ·rw[List.getElem?_append_right (by omega)] at h1
  rw[List.getElem?_append_right (by have:=h.1;omega)] at h2
  have:=h.1
  exact h'.2 (i-vs.length) v x h1 (by rw[this];exact h2)
theorem jGy {K:PySem.W.Frag}{H:Hp}{vs:List V}{xs:List D}(h:Iss K H vs xs):vs=[] ↔ xs=[]:=by
 have:=h.1
 constructor
 ·rintro rfl;exact List.eq_nil_of_length_eq_zero (by simpa using this.symm)
 ·rintro rfl;exact List.eq_nil_of_length_eq_zero (by simpa using this)
theorem jLM:jGm X (binaryOp .Add) jSz:=jDJ ((jOG.or jPP).or jNE) fun x y H Q hh=>by
 obtain⟨z,dx,dy,R,hz,hx,hy,h3,q⟩:=hh
 have sz:(100000:Nat)<sizeLine:=by decide
 unfold jSz at h3
 split at h3
 ·rename_i xs ys
  obtain⟨h1,h2,h3⟩:=h3
  obtain⟨p,vs,rfl,g1,g2⟩:=Is.tup_inv hx
  obtain⟨p',ws,rfl,g1',g2'⟩:=Is.tup_inv hy
  refine .inl (.inl ⟨p,p',vs,ws,rfl,rfl,SqT.same hz g1,SqT.same hz g1',fun w=>h1 ((jGy g2).mp w),by rw[g2.1,g2'.1];omega,fun w=>?_,fun w l hl=>?_⟩)
  ·have:ys=[]:=(jGy g2').mp w
   subst this
   rw[List.append_nil] at h3
   exact q _ _ ⟨H,z⟩ (Ext.refl hz) hx h3
  ·have j:=(g2.append g2').mono (jBr (hz.free hl) (.tup (vs++ws)))
   exact q _ _ _ (Ext.lay hz hl (.tup (vs++ws))) (Is.tup (SqT.of jAp) j.1 j.2) h3
 ·rename_i xs ys
  obtain⟨h2,h3⟩:=h3
  obtain⟨p,vs,rfl,g1,g2⟩:=Is.lst_own hx
  obtain⟨p',ws,rfl,g1',g2'⟩:=Is.lst_own hy
  refine .inl (.inr ⟨p,p',vs,ws,rfl,rfl,hz _ _ g1,hz _ _ g1',by rw[g2.1,g2'.1];omega,fun l hl=>?_⟩)
  have j:=(g2.append g2').mono (jBr (hz.free hl) (.lst (vs++ws)))
  exact q _ _ _ (Ext.lay hz hl (.lst (vs++ws))) (Is.lst jAp j.1 j.2) h3
 ·rename_i i j
  exact .inr ⟨i,j,hx.int_inv,hy.int_inv,q _ _ ⟨H,z⟩ (Ext.refl hz) (.int _) h3⟩
 ·exact h3.elim
def jGP (xs:List D)(lo hi:Option Int):List D:=(xs.drop (HT.sIx xs.length 0 lo)).take (HT.sIx xs.length xs.length hi-HT.sIx xs.length 0 lo)
theorem jLr {K:PySem.W.Frag}{H:Hp}{vs:List V}{xs:List D}(h:Iss K H vs xs) (lo hi:Option Int):Iss K H (jKu vs lo hi) (jGP xs lo hi):=by
 unfold jKu jGP
 rw[h.1]
 refine⟨by simp[h.1],fun i v x h1 h2=>?_⟩
 rw[List.getElem?_take] at h1 h2
 split at h1
 ·rename_i hlt
  rw[if_pos hlt] at h2
  rw[List.getElem?_drop] at h1 h2
  exact h.2 _ v x h1 h2
 ·cases h1
abbrev TO3:=Tau→(Option Int→Prop)→Prop
structure PO3 (X:Cx)(e:Option Expr)(t:TO3):Prop where
 out:PO X e (fun σ H Q=>∃B z τ R,Rep X B τ σ ⟨H,z⟩∧t τ R∧∀o q,Ext ⟨H,z⟩ q→R o→Q o q.h)
def oNo:TO3:=fun _ R=>R none
def jS4 (te:TE3):TO3:=fun τ R=>te τ fun s=>match s with
 |.d (.int i)=>R (some i)
 |_=>False
theorem jRz:PO3 X none oNo:=⟨fun pins s σ H Q I ⟨B,z,τ,R,r,ht,q⟩=>jOJ pins s σ H Q I (q none ⟨H,z⟩ (Ext.refl r.ext.sub) ht)⟩
theorem jIV (h:PE3 X e te):PO3 X (some e) (jS4 te):=⟨fun pins s σ H Q I ⟨B,z,τ,R,r,ht,q⟩=>jOi h.out pins s σ H Q I ⟨B,z,τ,_,r,ht,fun s v q1 e1 i1 f1 h1=>by
 split at h1
 ·rename_i i
  exact⟨i,Is.int_inv i1,q _ _ e1 h1⟩
 ·exact h1.elim⟩⟩
def vSl (te:TE3)(lo hi:TO3):TE3:=fun τ R=>te τ fun x=>lo τ fun l=>hi τ fun u=>match x with
 |.d (.tup xs)=>¬(HT.sIx xs.length 0 l=0∧HT.sIx xs.length xs.length u=xs.length)∧R (.d (.tup (jGP xs l u)))
 |.d (.lst xs)=>R (.l (jGP xs l u))
 |.l xs=>R (.l (jGP xs l u))
 |.r xs=>R (.l (jGP xs l u))
 |_=>False
theorem jQi {lo hi:Option Expr}{tl th:TO3}{p2:Pos}(he:PE3 X e te) (hl:PO3 X lo tl) (hh:PO3 X hi th):PE3 X (.Subscript e (.Slice lo hi none p2) pos) (vSl te tl th) :=
 ⟨jBe (jSp (jMD (jQY.or jOt) he.out hl.out hh.out)) fun σ H Q hh=>by
  obtain⟨B,z,τ,R,r,ht,q⟩:=hh
  refine⟨B,z,τ,_,r,ht,fun x v q1 e1 i1 f1 h1=>?_⟩
  refine⟨B,_,τ,_,r.mono e1,h1,fun l q2 e2 h2=>?_⟩
  refine⟨B,_,τ,_,(r.mono e1).mono e2,h2,fun u q3 e3 h3=>?_⟩
  have e23:=e2.trans e3
  have i1':=IsS.mono e23 i1
  have lists:∀(p:Addr)(vs:List V)(xs:List D),v=.ref p→SqL X.K q3.h p vs→Iss X.K q3.z vs xs→R (.l (jGP xs l u))→∃a xs,v=.ref a∧SqL X.K q3.h a xs∧∀p,q3.h p=none→((∀a o,upd q3.h p (.lst (jKu xs l u)) a=some o→X.K.lookup a=none)→Q (.ref p) (upd q3.h p (.lst (jKu xs l u)))):=fun p vs xs hv hs hi hR =>
   ⟨p,vs,hv,hs,fun d hd hk=>q (.l (jGP xs l u)) _ ⟨_,q3.z⟩ ((e1.trans e23).trans (Ext.own e23.sub hd _)) ⟨d,_,rfl,jAp,jLr hi l u⟩ (fun ys a _ h2=>by
    cases h2
    exact⟨(e1.trans e23).hh.free hd,hk d _ jAp,e23.sub.free hd⟩) hR⟩
  split at h3
  ·rename_i xs
   obtain⟨p,vs,rfl,g1,g2⟩:=Is.tup_inv i1'
   refine .inl ⟨p,vs,rfl,SqT.same e23.sub g1,by rw[g2.1];exact h3.1,fun d hd _=>?_⟩
   have j:=(jLr g2 l u).mono (jBr (e23.sub.free hd) (.tup (jKu vs l u)))
   exact q (.d _) _ _ ((e1.trans e23).trans (Ext.lay e23.sub hd (.tup (jKu vs l u)))) (Is.tup (SqT.of jAp) j.1 j.2) jEt h3.2
  ·rename_i xs
   obtain⟨p,vs,rfl,g1,g2⟩:=Is.lst_inv i1'
   exact .inr (lists p vs xs rfl (e23.sub.seq g1) g2 h3)
  ·rename_i xs
   obtain⟨p,vs,rfl,g1,g2⟩:=i1'
   exact .inr (lists p vs xs rfl (SqL.of g1) g2 h3)
  ·rename_i xs
   obtain⟨p,vs,rfl,g1,g2⟩:=i1'
   exact .inr (lists p vs xs rfl g1 g2 h3)
  ·exact h3.elim⟩
def jOy (te:TE3):TE3:=fun τ R=>te τ fun s=>match items s with
 |some xs=>R (.l xs)
 |none=>False
def jQ7 (te:TE3):TE3:=fun τ R=>te τ fun s=>match items s with
 |some xs=>R (.d (.tup xs))
 |none=>False
theorem jNY {K:PySem.W.Frag}{p:HZ}{v:V}{s:S}{xs:List D}(i:IsS K p v s) (hz:jBb p.z p.h) (h:items s=some xs):∃a vs,v=.ref a∧Iss K p.z vs xs∧((SqL K p.h a vs)∨(SqT K p.z a vs∧s=.d (.tup xs))):=by
 cases s with
 |d z =>
  cases z with
  |tup zs=>cases h;obtain⟨a,vs,rfl,g1,g2⟩:=Is.tup_inv i;exact⟨a,vs,rfl,g2,.inr ⟨g1,rfl⟩⟩
  |lst zs=>cases h;obtain⟨a,vs,rfl,g1,g2⟩:=Is.lst_inv i;exact⟨a,vs,rfl,g2,.inl (hz.seq g1)⟩
  |_=>cases h
 |l zs=>cases h;obtain⟨a,vs,rfl,g1,g2⟩:=i;exact⟨a,vs,rfl,g2,.inl (SqL.of g1)⟩
 |r zs=>cases h;obtain⟨a,vs,rfl,g1,g2⟩:=i;exact⟨a,vs,rfl,g2,.inl g1⟩
theorem jJn {p:Pos}(he:PE3 X e te) (hg:Gl X "list") (hm:X.mg "list"=none) (hs:starEach [e] X.env=(false,eval e X.env)::starEach [] X.env:=by exact jBR rfl):PE3 X (.Call (.Name "list" p) [e] [] pos) (jOy te) :=
 ⟨jBe (jSp (jIl jIj hg hm PyProof.Rows.boot_list (jA2 he.out jB9 hs) (he:=hs))) fun σ H Q hh=>by obtain⟨B,z,τ,R,r,ht,q⟩:=hh;exact⟨B,z,τ,_,r,ht,fun s v q1 e1 i1 f1 h1=>by
  split at h1
  ·rename_i xs hx
   obtain⟨a,vs,rfl,g2,g1⟩:=jNY i1 e1.sub hx
   refine⟨a,vs,rfl,g1.elim .inl fun g=>.inr (SqT.same e1.sub g.1),fun d hd hk=>?_⟩
   exact q (.l xs) _ ⟨_,q1.z⟩ (e1.trans (Ext.own e1.sub hd _)) ⟨d,vs,rfl,jAp,g2⟩ (fun ys a _ h2=>by
    cases h2
    exact⟨e1.hh.free hd,hk d _ jAp,e1.sub.free hd⟩) h1
  ·exact h1.elim⟩⟩
theorem jO8 {p:Pos}(he:PE3 X e te) (hg:Gl X "tuple") (hm:X.mg "tuple"=none) (hs:starEach [e] X.env=(false,eval e X.env)::starEach [] X.env:=by exact jBR rfl):PE3 X (.Call (.Name "tuple" p) [e] [] pos) (jQ7 te) :=
 ⟨jBe (jIl jHG hg hm PyProof.Rows.boot_tuple (jA2 he.out jB9 hs) (he:=hs)) fun σ H Q hh=>by obtain⟨B,z,τ,R,r,ht,q⟩:=hh;exact⟨B,z,τ,_,r,ht,fun s v q1 e1 i1 f1 h1=>by
  split at h1
  ·rename_i xs hx
   obtain⟨a,vs,rfl,g2,g1⟩:=jNY i1 e1.sub hx
   refine⟨a,vs,rfl,?_⟩
   rcases g1 with g1|⟨g1,rfl⟩
   ·refine .inl ⟨g1,fun d hd=>?_⟩
    have j:=g2.mono (jBr (e1.sub.free hd) (.tup vs))
    exact q (.d _) _ _ (e1.trans (Ext.lay e1.sub hd (.tup vs))) (Is.tup (SqT.of jAp) j.1 j.2) jEt h1
   ·exact .inr ⟨SqT.same e1.sub g1,q (.d _) _ q1 e1 i1 jEt h1⟩
  ·exact h1.elim⟩⟩
end
end L3
namespace L3
open PySem PySem.Spec PyProof.Rows L2
section
variable {X:Cx}{e a b c:Expr}{te ta tb tc ti:TE3}{pos:Pos}
def jRC:S→Option (List D)
 |.d (.lst xs)=>some xs
 |.l xs=>some xs
 |.r xs=>some xs
 |_=>none
theorem jNI {K:PySem.W.Frag}{p:HZ}{v:V}{s:S}{xs:List D}(i:IsS K p v s) (hz:jBb p.z p.h) (h:jRC s=some xs):∃a vs,v=.ref a∧Iss K p.z vs xs∧SqL K p.h a vs:=by
 cases s with
 |d z =>
  cases z with
  |lst zs=>cases h;obtain⟨a,vs,rfl,g1,g2⟩:=Is.lst_inv i;exact⟨a,vs,rfl,g2,hz.seq g1⟩
  |_=>cases h
 |l zs=>cases h;obtain⟨a,vs,rfl,g1,g2⟩:=i;exact⟨a,vs,rfl,g2,SqL.of g1⟩
 |r zs=>cases h;obtain⟨a,vs,rfl,g1,g2⟩:=i;exact⟨a,vs,rfl,g2,g1⟩
end
end L3
namespace L3
open PySem PySem.Spec PyProof.Rows L2
section
variable {X:Cx}{e:Expr}{es:List Expr}{tr:TA3}{th:TS3}
end
structure GC (K:PySem.W.Frag)(mg:Str→Option Value)(x:Str)(d:D):Prop where
 ex:∃u v,mg x=some u∧jBM v u∧∀H,Is K H v d
theorem jKd {X:Cx}{x:Str}{d:D}{pos:Pos}(hg:Gl X x) (c:GC X.K X.mg x d) (hd:(x==("__debug__":Str))=false:=by decide):PE3 X (.Name x pos) (vC d):=by
 obtain⟨u,v,hm,hr,hi⟩:=c.ex
 exact⟨jBe (jKN hg hm hr hd) fun σ H Q hh=>by obtain⟨B,z,τ,R,r,ht,q⟩:=hh;exact q (.d d) v ⟨H,z⟩ (Ext.refl r.ext.sub) (hi _) jEt ht⟩
def KD (K:PySem.W.Frag)(u:Value)(d:D):Prop:=∃v,jBM v u∧∀H,Is K H v d
theorem KD.of {K:PySem.W.Frag}{mg:Str→Option Value}{x:Str}{u:Value}{d:D}(hm:mg x=some u) (h:KD K u d):GC K mg x d:=by
 obtain⟨v,r,i⟩:=h
 exact⟨u,v,hm,r,i⟩
section
variable {K:PySem.W.Frag}
theorem KD.int {i:Int}{t}:KD K (Value.int i t) (.int i):=⟨.int i,⟨t,rfl⟩,fun _=>.int i⟩
inductive KDs (K:PySem.W.Frag):List Value→List D→Prop where
 |nil:KDs K [] []
 |cons {u:Value}{us:List Value}{d:D}{ds:List D}:KD K u d→KDs K us ds→KDs K (u::us) (d::ds)
theorem KDs.out:∀{us:List Value}{ds:List D},KDs K us ds→∃vs,jBJ vs us∧∀H,Iss K H vs ds
 |_,_,.nil=>⟨[],.nil,fun _=>⟨rfl,fun i v x h=>by simp at h⟩⟩
 |_,_,.cons ⟨v,r,i⟩ t=>by
  obtain⟨vs,rs,is⟩:=t.out
  refine⟨v::vs,.cons r rs,fun H=>⟨by simp[(is H).1],fun j w x h1 h2=>?_⟩⟩
  cases j with
  |zero=>simp at h1 h2;subst h1;subst h2;exact i H
  |succ j=>exact(is H).2 j w x (by simpa using h1) (by simpa using h2)
theorem KD.tup {a:Addr}{od:Option Addr}{its:Array Value}{n:Nat}{sl:Array (Option Value)}{ds:List D}(h:K.lookup a=some ⟨.type "tuple",od,.seq its n,sl⟩) (hz:its.size≤sizeLine) (hs:KDs K its.toList ds):KD K (.ref a) (.tup ds):=by
 obtain⟨vs,rs,is⟩:=hs.out
 exact⟨.ref a,rfl,fun H=>.tup (.inr ⟨_,its,n,h,rfl,rfl,hz,rs⟩) (is H).1 (is H).2⟩
end
end L3
namespace L3
open PySem PySem.Spec PyProof.Rows L2
section
variable {X:Cx}{e:Expr}{es:List Expr}{tr:TA3}
end
end L3
namespace CH
open PySem L2 L3
theorem jAt {i j:Int}{m n:Nat}(hi:i.natAbs<2^m) (hj:j.natAbs<2^n) (h:m+n≤134217728):IntMulOk i j :=
 PyProof.Rows.mulOk_of_bits (PyProof.Rows.intBits_le hi) (PyProof.Rows.intBits_le hj) h
def dg (n:Int):Nat:=if n==0 then 0 else n.natAbs.log2/30+1
theorem jKY {i:Int}{m:Nat}(h:i.natAbs<2^m):dg i≤m/30+1:=by
 unfold dg
 by_cases h0:(i==0)=true
 ·rw[if_pos h0];omega
 ·rw[if_neg h0]
  have hn:i.natAbs≠0:=by
   intro z
   apply h0
   have:i=0:=by omega
   rw[this];rfl
  have:i.natAbs.log2<m:=(Nat.log2_lt hn).mpr h
  omega
theorem jRh {i j:Int}(h:i.natAbs<2^13000):Builtin.divisionGoesByPylong i j=false:=by
 have k:=jKY h
 clear h
 show(decide (dg j>300)&&decide (dg i>dg j+150))=false
 rw[Bool.and_eq_false_iff]
 by_cases hq:dg j>300
 ·exact .inr (decide_eq_false (by omega))
 ·exact .inl (decide_eq_false hq)
theorem jBV {i j:Int}(h:j.natAbs<1073741824):Builtin.divisionGoesByPylong i j=false:=PyProof.noPylong_small h
theorem nz2:(2:Int)≠0:=by decide
theorem jLK (i:Int):0≤(if i<0 then -i else i):=by split<;>omega
def cell (ns:List Int)(k:Int):Int:=ns.getD k.toNat 0
theorem jJh {ns:List Int}{k:Int}(h0:0≤k) (h1:k<(ns.length:Int)):atI (ns.map D.int) k=some (.int (cell ns k)):=by
 have hk:k.toNat<ns.length:=by omega
 have ek:k=((k.toNat:Nat):Int):=by omega
 have q:atI (ns.map D.int) ((k.toNat:Nat):Int)=some (.int ns[k.toNat]):=atI_nat (by rw[List.getElem?_map,List.getElem?_eq_getElem hk]<;>rfl)
 rw[←ek] at q
 rw[q]
 unfold cell
 rw[List.getD_eq_getElem?_getD,List.getElem?_eq_getElem hk]
 rfl
theorem jNi {ns:List Int}{k:Int}(h0:0≤k) (h1:¬k<(ns.length:Int)):cell ns k=0:=by
 unfold cell
 rw[List.getD_eq_getElem?_getD,List.getElem?_eq_none_iff.mpr (by omega)]
 rfl
abbrev I (i:Int):Option S:=some (.d (.int i))
theorem jBA {c A B:Prop} [Decidable c] (h1:c→A) (h2:¬c→B):if decide c=true then A else B:=by
 by_cases h:c
 ·rw[decide_eq_true h,if_pos rfl];exact h1 h
 ·rw[decide_eq_false h,if_neg Bool.false_ne_true];exact h2 h
theorem jJi {c A B:Prop} [Decidable c] (h1:¬c→A) (h2:c→B):if (!decide c)=true then A else B:=by
 by_cases h:c
 ·rw[decide_eq_true h];exact h2 h
 ·rw[decide_eq_false h];exact h1 h
theorem iF {b:Bool}{A B:Prop}(h:B) (hb:b=false:=by rfl):if b=true then A else B:=by subst hb;rw[if_neg Bool.false_ne_true];exact h
end CH
namespace L3
theorem boot_max:PySem.bootBuiltins "max"=some (.builtin "max"):=by decide +kernel
theorem boot_min:PySem.bootBuiltins "min"=some (.builtin "min"):=by decide +kernel
end L3
namespace L3
open PySem PySem.Spec PyProof.Rows L2
section
variable {prog:Program}{w:World}{A:Around}{R:Result→Shared→Prop}{s:Shared}
theorem jPC {fa:Addr}{ag:PySem.Args}{ob:Obj}{f:FuncData}{bd:Expr}{nm:Str}(hroom:A.depth<recursionLimit) (hob:s.heap.get? fa=some ob) (hdt:ob.data=.func f)
 (hc1:f.scope.isCoroutine=false) (hc2:f.scope.isGenerator=false) (hbd:f.body=.expr bd) (hcd:s.heap.CodeRec f.code nm)
 (k:wpAny (model prog w) A.in1 (bindArgs f ag) (fun bs s1=>wpAny (model prog w) A.in1 (newFunctionEnv f.scope f.globals f.closure bs (nm ++ ".<locals>.") (some fa) f.code none f.builtins)
  (fun en s2=>s2.heap.NoLimit∧codeAny (model prog w) A (.expr bd en) R s2) (fun x s3=>R (.error x) s3) s1) (fun x s3=>R (.error x) s3) s) :
 codeAny (model prog w) A (.call (.ref fa) ag) R s:=by
 refine codeAny_of_tree ?_
 show wpAny _ A.in1 (callAny (.ref fa) ag) _ _ s
 simp only[callAny]
 refine wpAny_bind (wpAny_load hob ?_)
 obtain⟨cc,oc,fs,tq,hc,hoc,hdc,hq⟩:=hcd
 simp only[hdt,callFunction,hc1,hc2,hbd,hc]
 rw[hc] at k
 refine wpAny_bind (m:=field (.ref cc) 1) (wpAny_field hoc hdc hq (wpAny_bind (wpAny_pure ?_)))
 exact wpAny_bind (wpAny_mono k (fun bs s1 k1=>wpAny_bind (wpAny_mono k1 (fun en s2 k2=>wpAny_bind (wpAny_enterFrame k2.1 hroom (wpAny_pure (And.intro rfl k2.2)))) fun _ _ z=>z)) fun _ _ z=>z)
end
structure jMt (P:Program)(w:World)(K:PySem.W.Frag)(mg:Str→Option Value)(base:Heap)(k:Nat)(s:Shared)(H:Hp)(fs:List Addr)(a:Addr)(dom:D→Prop)(p:D→Bool):Prop where
 obj:∃o u fd,H a=some (.frz o u)∧o.data=.func fd
 run:∀(A:Around)(outer:List Env)(s':Shared)(H':Hp)(v:V)(u:Value)(x:D),jDO k A→jPd P w K mg base A outer s' H' →
  (∀b o,s.heap.get? b=some o→H b=none→b∉fs→s'.heap.get? b=some o∧H' b=none)→jBb H H'→jBM v u→Is K H' v x→dom x →
  codeAny (model P w) A (.call (.ref a) ⟨[u],[]⟩) (CR CX0 outer P w H' s' (fun r H2=>r=.bl (p x)∧jBb H' H2) fun _ _ _=>False) s'
def jOL (X:Cx)(N:List Str)(scope:Scope)(cl:List (Str×Addr))(nm:Str)(a:Addr)(cdv:Value)(A:Around)(outer:List Env)(s:Shared)(H:Hp):Cx :=
 { X with A:=A.deeper (PySem.W.envX nm scope s.heap.objs.size a cdv cl),N:=N,s₀:=s,H₀:=H,env:=PySem.W.envX nm scope s.heap.objs.size a cdv cl,outer:=outer,stack:=PySem.W.envX nm scope s.heap.objs.size a cdv cl::outer,ex:=[],fn:=fun _=>false,calm:=true,pn:=[],xe:=fun _ _=>False,lent:=none }
def jH6 (τ:Tau)(idx:List Nat):Tau:=idx.map fun j=>match τ[j]? with
 |some (some (S.d y))=>some (S.d y)
 |_=>none
section
variable {X:Cx}{pins:List (Addr×Obj)}{σ:St}{H1 H:Hp}{s1 s:Shared}{x:Str}{scope:Scope}{N:List Str}{idx:List Nat}{cl:List (Str×Addr)}
theorem jKf (I1:Inv X pins σ H1 s1)(hfn:∀y,X.fn y=true){y:Str}{c:Addr}(e:X.env.cells.lookup y=some c):c∉frs X.stack:=fun hb=>by
 rcases List.mem_cons.mp (I1.stkSub c hb) with z|z
 ·exact I1.cne y c e z
 ·obtain⟨_,o,ho,_⟩:=I1.ok.funs.mem z
  exact absurd (Nat.lt_of_lt_of_le (Heap.lt_size ho) (I1.ok.cab y c (hfn y) e)) (Nat.lt_irrefl _)
theorem jLg (O:jAP X x scope N idx)(hfn:∀y,X.fn y=true)(I1:Inv X pins σ H1 s1)(hcl:∀y c,cl.lookup y=some c→X.env.cells.lookup y=some c)(hcl2:∀y,(y,NameKind.free)∈scope.names→∃c,cl.lookup y=some c)
 {A:Around}{outer:List Env}{s':Shared}{H':Hp}(e0:jPd X.prog X.w X.K X.mg X.base A outer s' H') (hd:A.handled=none)
 (st:∀b o,s1.heap.get? b=some o→H1 b=none→b∉frs X.stack→s'.heap.get? b=some o∧H' b=none){v:V}{u:Value}(r:jBM v u)
 {h1:Heap}(hns:h1.Ns s'.heap.objs.size (fun y=>[(x,u)].reverse.lookup y)) (old:∀b o,s'.heap.get? b=some o→h1.get? b=some o){tk:Nat}{nm:Str}{a:Addr}{cdv:Value} :
 Inv (jOL X N scope cl nm a cdv A outer s' H') [] (some v::jCA σ idx) H' { s' with heap:=h1,toks:=tk }:=by
 have kept:∀y c,X.env.cells.lookup y=some c→∀z,s1.heap.IsCell c z→h1.IsCell c z∧H' c=none:=fun y c e z hh=>by
  obtain⟨o,ho,hd⟩:=hh
  obtain⟨g1,g2⟩:=st c o ho (I1.freeC y c e) (jKf I1 hfn e)
  exact⟨⟨o,old _ _ g1,hd⟩,g2⟩
 refine⟨⟨e0.mod,O.kind,rfl,rfl,Nat.le_refl _,fun y z c h1 h2=>I1.ok.inj y z c (hcl y c h1) (hcl z c h2),fun y hy=>?_,(fun _ _ z=>by cases z),fun _=>hd,Around.frames_deeper e0.frames,.inr ⟨rfl,rfl⟩,(fun b z=>by cases z),e0.bs,e0.bsz,(fun _ _ _ z=>by cases z),(fun b z=>by cases z),e0.funs,e0.frf,e0.tb⟩,
  rfl,e0.bare,Un.kept old,⟨_,hns,fun i y v' e1 e2 e3=>?_⟩,fun y c e=>?_,e0.hok.fresh (Nat.le_refl _),fun y c e=>?_,(fun p hp=>by cases hp),e0.hok.kept old,?_⟩
 ·have hy':scope.names.lookup y=some .cell∨scope.names.lookup y=some .free:=hy
  rcases hy' with z|z
  ·exact absurd rfl (O.cell _ (jBa z))
  ·exact hcl2 y (jBa z)
 ·cases i with
  |zero =>
   have e1':y=x:=Option.some.inj (e1.symm.trans O.fst)
   subst e1'
   cases e2
   exact⟨u,r,.inl ⟨O.own,by simp⟩⟩
  |succ k =>
   obtain⟨j,ej,es⟩:=jFS (k:=k) e2
   obtain⟨y',n1,n2,n3⟩:=O.cap k j ej
   have ey:y'=y:=Option.some.inj (n1.symm.trans e1)
   subst ey
   have kc:=O.free _ (jBa n3) rfl
   obtain⟨m0,hn0,hl0⟩:=I1.loc
   obtain⟨u',ru,lk⟩:=hl0 j y' v' n2 es (.inr (.inl kc))
   refine⟨u',ru,?_⟩
   rcases lk with⟨k1,_⟩|⟨_,c,hc,ic⟩
   ·rw[kc] at k1;cases k1
   ·obtain⟨c',hc'⟩:=hcl2 y' (jBa n3)
    have:c'=c:=Option.some.inj ((hcl y' c' hc').symm.trans hc)
    subst this
    exact .inr ⟨.inr n3,c',hc',(kept y' c' hc _ ic).1⟩
 ·obtain⟨z,ic⟩:=I1.cell y c (hcl y c e)
  exact⟨z,(kept y c (hcl y c e) z ic).1⟩
 ·obtain⟨z,ic⟩:=I1.cell y c (hcl y c e)
  exact(kept y c (hcl y c e) z ic).2
 ·show(some v::jCA σ idx).length=N.length
  rw[O.len,List.length_cons]
  unfold jCA
  rw[List.length_map]
theorem jIp {τ:Tau}{idx:List Nat}{k:Nat}{y:S}(h:(jH6 τ idx)[k]? = some (some y)):∃j d,idx[k]? = some j∧y=.d d∧τ[j]? = some (some (.d d)):=by
 unfold jH6 at h
 rw[List.getElem?_map] at h
 cases e:idx[k]? with
 |none=>rw[e] at h;cases h
 |some j =>
  rw[e] at h
  have h':=Option.some.inj h
  dsimp only at h'
  split at h'
  ·rename_i d hd
   exact⟨j,d,rfl,(Option.some.inj h').symm,hd⟩
  ·cases h'
theorem jQg (O:jAP X x scope N idx)(hfn:∀y,X.fn y=true)(I1:Inv X pins σ H1 s1)(hcl:∀y c,cl.lookup y=some c→X.env.cells.lookup y=some c)(hcl2:∀y,(y,NameKind.free)∈scope.names→∃c,cl.lookup y=some c)
 {a c':Addr}{fo oc:Obj}{fs:Array Value}{nm qual:Str}{tq kb:Nat}{u1 u2:HO}{params:Arguments}{body:Expr}{pm ctv:Value}{tb:TE3}{dom:D→Prop}{p:D→Bool}{B:HZ}{z:Hp}{τ:Tau}
 (ha:H1 a=some (.frz fo u1)) (hfo:fo.data=.func (PySem.W.kla_fn "<lambda>" qual params body scope cl pm (.ref c') ctv)) (hc:H1 c'=some (.frz oc u2)) (hoc:oc.data=.fields fs) (hfs:fs[1]? = some (.str nm tq))
 (hco:scope.isCoroutine=false) (hgen:scope.isGenerator=false) (hbind:∀(q:Str)(cl:List (Str×Addr))(pm cv ct u:Value),bindArgs (PySem.W.kla_fn "<lambda>" q params body scope cl pm cv ct) ⟨[u],[]⟩=pure [(x,u)])
 (hb:∀cl nm a cdv A outer s H,jDO kb (A.deeper (PySem.W.envX nm scope s.heap.objs.size a cdv cl))→PE3 (jOL X N scope cl nm a cdv A outer s H) body tb)
 (rep:Rep X B τ σ ⟨H1,z⟩) (hdom:∀x,dom x→tb (some (.d x)::jH6 τ idx) fun s=>s=.d (.bl (p x))):jMt X.prog X.w X.K X.mg X.base (kb+1) s1 H1 (frs X.stack) a dom p:=by
 refine⟨⟨fo,u1,_,ha,hfo⟩,fun A outer s' H' v u d hr e0 st sm rv is dm=>?_⟩
 have ga:s'.heap.get? a=some fo:=(e0.hok a _ (sm _ _ ha)).1
 have gc:s'.heap.get? c'=some oc:=(e0.hok c' _ (sm _ _ hc)).1
 have lim:s'.heap.NoLimit:=e0.mod.nolimit.keeps fun b o e=>(e0.bs b o e).1
 refine jPC (nm:=nm) hr.depth ga hfo hco hgen rfl ⟨c',oc,fs,tq,rfl,gc,hoc,hfs⟩ ?_
 rw[hbind]
 refine wpAny_pure (wpAny_newFunctionEnv O.cell (fun y hy=>?_) (fun h1 hns hsb=>?_) O.kind)
 ·have:y=(x,u):=by simpa using hy
  subst this
  exact O.own
 have old:∀b o,s'.heap.get? b=some o→h1.get? b=some o:=fun b o e=>hsb.extBut b o (Nat.ne_of_lt (Heap.lt_size e)) (Heap.get?_push_of_some _ e)
 refine⟨lim.keeps old,?_⟩
 show codeAny _ _ (.expr body (PySem.W.envX nm scope s'.heap.objs.size a (.ref c') cl)) _ _
 have J:=jLg (nm:=nm) (a:=a) (cdv:=.ref c') (tk:=s'.toks + [(x,u)].length) O hfn I1 hcl hcl2 e0 hr.hd st rv hns old
 refine PySem.W.kla_codeExpr (wpAny_mono ((hb cl nm a (.ref c') A outer s' H' (hr.deeper _)).out [] _ _ H' (fun r H2=>r=.bl (p d)∧jBb H' H2) J ⟨⟨H',H'⟩,H',some (.d d)::jH6 τ idx,fun s=>s=.d (.bl (p d)),?_,hdom d dm,fun s2 v2 q2 e2 i2 f2 h2=>?_⟩)
  (fun r s2 ⟨v2,H2,J2,r2,hq⟩=>⟨v2,H2,J2.os,J2.bare,J2.base,J2.hok,r2,hq⟩) fun _ _ z=>z.elim)
 ·have noL:∀(i:Nat)(xs:List D),¬(some (S.d d)::jH6 τ idx)[i]? = some (some (.l xs)):=fun i xs z=>by
   cases i with
   |zero=>cases z
   |succ k=>obtain⟨_,_,_,e,_⟩:=jIp (k:=k) z;cases e
  refine⟨by simp[jCA,jH6],Ext.refl (jBb.refl _),fun i y hy=>?_,fun i xs _ z _=>absurd z (noL i xs),fun i _ xs _ _ _ z _ _ _=>absurd z (noL i xs),fun _=>jBb.refl _,fun k a h=>by cases h⟩
  cases i with
  |zero=>cases hy;exact⟨v,rfl,is⟩
  |succ k =>
   obtain⟨j,y',ej,ey,et⟩:=jIp (k:=k) hy
   subst ey
   obtain⟨v',e1,e2⟩:=rep.val j _ et
   refine⟨v',?_,(Is.mono rep.ext.sub e2).mono sm⟩
   show(jCA σ idx)[k]? = _
   unfold jCA
   rw[List.getElem?_map,ej]
   show some ((σ[j]?).getD none)=_
   rw[e1]
   rfl
 ·subst h2
  exact⟨Is.bl_inv i2,e2.hh⟩
end
section
variable {X:Cx}{pins:List (Addr×Obj)}{σ:St}{H:Hp}{s:Shared}
theorem jG7 {pos pos':Pos}{c cv:Value}:∀(l:List Value),TriplesOk l→codeAmong pos' (l++[rawInt pos.line,rawInt pos.col,c])=some cv→codeAmong pos' l=some cv∨cv=c:=by
 intro l h
 fun_induction TriplesOk l with
 |case1 =>
  intro e
  simp only[List.nil_append,codeAmong,rawInt] at e
  split at e
  ·exact .inr (Option.some.inj e).symm
  ·cases e
 |case2 a t b u x rest ih =>
  intro e
  simp only[List.cons_append,codeAmong] at e ⊢
  split at e
  ·rename_i hc;rw[if_pos hc];exact .inl e
  ·rename_i hc;rw[if_neg hc];exact ih h e
 |case3 l h1 h2=>exact h.elim
theorem jNg {x:Str}{c T:Addr}{params:Arguments}{body:Expr}{scope:Scope}{pos:Pos}{cl:List (Str×Addr)}{E:Value→Shared→Prop}{QQ:Value→Shared→Prop}(I:Inv X pins σ H s) (ht:PySem.W.tabIn X.K x=some (c,T)) (hp:(recsOf X.prog).any (fun d=>d.name==x)=true)
 (hcode:X.env.code=.ref c) (hdef:defaultsOf params X.env=([],[])) (hcl:closureFor scope X.env=pure cl)
 (h:∀(a c':Addr)(H':Hp)(s':Shared)(fo oc:Obj)(fs:Array Value)(nm qual:Str)(tq:Nat)(pm ctv:Value),Inv X pins σ H' s'→jBb H H'→H' a=some (.frz fo (.own T))→fo.data=.func (PySem.W.kla_fn "<lambda>" qual params body scope cl pm (.ref c') ctv) →
  H' c'=some (.frz oc (.own T))→oc.data=.fields fs→fs[1]? = some (.str nm tq)→QQ (.ref a) s') :
 wpAny (model X.prog X.w) X.A (eval (.Lambda params body scope pos) X.env) QQ E s:=by
 obtain⟨hd,ps,hT⟩:=I.tb.tab x c T ht hp
 obtain⟨bm,ob,b1,b2,b3,b4,b5,b6⟩:=I.tb.bm
 obtain⟨tab,e1,tr,cod⟩:=(show jI5 H s.heap T from I.hok T _ hT)
 have tabNe:∀{b:Addr}{o:Obj},X.base.get? b=some o→b≠T:=fun {b o} e z=>by
  have:=(I.bs b o e).2
  rw[z,hT] at this
  cases this
 have hgs:s.heap.Ns mainGlobals X.mg:=I.mod.glob.keeps I.bk
 have hgT:mainGlobals≠T:=by
  obtain⟨o,_,_,e,_⟩:=I.mod.glob
  exact tabNe e
 have hbG:bm≠mainGlobals:=fun z=>by
  obtain⟨o,es,ep,e,d,_⟩:=I.mod.glob
  rw[z,e] at b3;cases b3;rw[d] at b6;cases b6
 have hB:s.heap.BuiltinsAt X.mg T:=⟨bm,ob,b1,b2,hbG,tabNe b3,I.bk _ _ b3,b4,b5,b6⟩
 refine PySem.W.kla_eval hdef ?_
 cases hf:codeAmong pos tab.toList with
 |some cv =>
  obtain⟨c',oc,fs,nm,tq,rfl,hc',hoc,hfs⟩:=cod pos cv hf
  refine PySem.W.kla_makeFunctionHit (mg:=X.mg) hcl I.ok.glob hgs hcode (hd.keeps I.bk) e1 tr hf hB fun ctv h' tk old sz=>?_
  refine h h'.objs.size c' (upd H h'.objs.size (.frz _ (.own T))) _ _ oc fs nm _ tq _ ctv (I.laid (fun b o e=>Heap.get?_push_of_some _ (old b o e)) sz ⟨Heap.get?_push_size _ rfl,_,Heap.get?_push_size _ rfl⟩) (jBr (I.hok.fresh sz) _) jAp rfl ?_ hoc hfs
  rw[jAn (Nat.ne_of_lt (Nat.lt_of_lt_of_le (I.hok.lt hc') sz))]
  exact hc'
 |none =>
  refine PySem.W.kla_makeFunction (mg:=X.mg) hcl I.ok.glob hgs hcode (hd.keeps I.bk) e1 tr hf hgT hB fun c' ctv h' tk hx hge hlt hrec htb=>?_
  obtain⟨c2,oc,fs,tq,ec,hoc,hdt,hfs⟩:=hrec
  cases ec
  have nT:∀{b:Addr}{o:Obj},s.heap.get? b=some o→b≠T→h'.get? b=some o:=fun {b o} e z=>hx b o z e
  have fresh1:H c'=none:=I.hok.fresh hge
  have cT:T≠c':=Nat.ne_of_lt (Nat.lt_of_lt_of_le (Heap.lt_size e1) hge)
  have s1:jBb H (upd H c' (.frz oc (.own T))):=jBr fresh1 _
  have ok1:HOk X.prog X.w (upd H c' (.frz oc (.own T))) h':=fun b u e=>by
   by_cases hb:b=c'
   ·subst hb
    rw[jAp] at e
    cases e
    exact⟨hoc,oc,hoc⟩
   ·rw[jAn hb] at e
    by_cases hb2:b=T
    ·subst hb2
     rw[hT] at e
     cases e
     refine⟨_,htb,by rw[Array.toList_append];exact TriplesOk_snoc _ _ _ _ tr,fun pos' cv z=>?_⟩
     rw[Array.toList_append] at z
     rcases jG7 _ tr z with z|z
     ·obtain⟨c3,o3,f3,n3,t3,q1,q2,q3⟩:=cod pos' cv z
      exact⟨c3,o3,f3,n3,t3,q1,s1 _ _ q2,q3⟩
     ·exact⟨c',oc,fs,_,tq,z,jAp,hdt,hfs⟩
    ·refine(I.hok b u e).stay (hf:=fun d w1 w2 q=>s1 _ _ q) (fun d o hdd q=>nT q ?_) (fun d q=>s1 _ _ q) fun d xs q=>s1 _ _ q
     rcases hdd with rfl|hdd
     ·exact hb2
     ·rintro rfl
      rw[hT] at hdd
      cases hdd
  have un1:Un X.fs [] H (upd H c' (.frz oc (.own T))) s.heap h':=by
   refine⟨fun b o e n _ _=>nT e (fun z=>by rw[z,hT] at n;cases n),fun b o e n _ _=>⟨o.slots,nT e (fun z=>by rw[z,hT] at n;cases n)⟩,fun b o e n _=>?_,fun b o e _=>?_,fun b xs q=>s1 _ _ q,fun b o u q=>s1 _ _ q,fun b ps q=>⟨#[],by rw[s1 _ _ q];simp⟩⟩
   ·rw[jAn (Nat.ne_of_lt (Nat.lt_of_lt_of_le (Heap.lt_size e) hge))];exact n
   ·by_cases z:b=T
    ·subst z;exact⟨_,htb⟩
    ·exact⟨o,nT e z⟩
  have I1:Inv X pins σ (upd H c' (.frz oc (.own T))) { s with heap:=h',toks:=tk }:=I.un un1 ok1
  have I2:=I1.laid (a:=h'.objs.size) (o:=.frz (PySem.W.kla_obj "<lambda>" (X.env.qual ++ "<lambda>") params body scope cl ((X.mg "__name__").getD .none) c' ctv) (.own T)) (t':=tk) (h':=h'.push (PySem.W.kla_obj "<lambda>" (X.env.qual ++ "<lambda>") params body scope cl ((X.mg "__name__").getD .none) c' ctv))
   (fun b o e=>Heap.get?_push_of_some _ e) (Nat.le_refl _) ⟨Heap.get?_push_size _ rfl,_,Heap.get?_push_size _ rfl⟩
  refine h h'.objs.size c' _ _ _ oc fs _ _ tq _ ctv I2 (s1.trans (jBr (I1.hok.fresh (Nat.le_refl _)) _)) jAp rfl ?_ hdt hfs
  rw[jAn (Nat.ne_of_lt hlt)]
  exact jAp
end
abbrev SpL:=Addr→(D→Prop)→(D→Bool)→Sp3
structure jMC (P:Program)(w:World)(K:PySem.W.Frag)(mg:Str→Option Value)(base:Heap)(k kl:Nat)(f:Addr)(fd:FuncData)(ps:List Str)(sp:SpL):Prop where
 len:∀a dom p ss R U,sp a dom p ss R U→ss.length=ps.length
 run:∀(A:Around)(outer:List Env)(s:Shared)(H:Hp)(args:PySem.Args)(us:List Value)(vs:List V)(Q:VK)(E:XK)(a:Addr)(dom:D→Prop)(p:D→Bool),jDO k A→jPd P w K mg base A outer s H→BindsTo s fd args (ps.zip us)→jBJ vs us →
  jMt P w K mg base kl s H (frs outer) a dom p→jAj K mg (sp a dom p) vs H Q E→codeAny (model P w) A (.call (.ref f) args) (CR CX0 outer P w H s Q E) s
structure jRG (P:Program)(w:World)(K:PySem.W.Frag)(mg:Str→Option Value)(base:Heap)(k kl:Nat)(x:Str)(ps:List Str)(sp:SpL):Prop where
 ex:∃f fd,jMC P w K mg base k kl f fd ps sp∧mg x=some (.ref f)∧PySem.W.keepIn K (.ref f)=true∧Binds K fd ps []
section
variable {P:Program}{w:World}{K:PySem.W.Frag}{mg:Str→Option Value}{base:Heap}
theorem fnL {x qual:Str}{st:Stmt}{f:Addr}{fd:FuncData}{N ps:List Str}{k kl:Nat}{sp:SpL}(F:Fun K x qual st f fd) (Sc:jAe N ps (jAc st)) (len:∀a dom p ss R U,sp a dom p ss R U→ss.length=ps.length)
 (hbody:∀(cdv:Value)(A:Around)(outer:List Env)(s:Shared)(H:Hp)(E:XK)(a:Addr)(dom:D→Prop)(p:D→Bool)(ss:List S)(R:S→Prop)(U:Str→Prop),jDO k (A.deeper (envOfC qual (jAc st) s.heap.objs.size f cdv))→jMt P w K mg base kl s H (frs outer) a dom p→sp a dom p ss R U →
  ∃t,jDx (jH8 CX0 P w K mg base N qual (jAc st) f cdv A outer s H E).nox (jBD st) t∧t { nx:=fun _=>R (.d .non),rt:=R } (jBO N ss)):jMC P w K mg base (k+1) kl f fd ps sp:=by
 obtain⟨oc,od,kV,doc,pm,an,cdv,ct,osl,rfl,lk,hcd⟩:=F.ex
 refine⟨len,fun A outer s H args us vs Q E a dom p hr e0 hb rv hL hh=>?_⟩
 obtain⟨z,ss,R,U,hz,ha,h3,q,qe⟩:=hh
 have hl:vs.length=ps.length:=ha.1.trans (len _ _ _ _ _ _ h3)
 have KX:K.In s.heap:=e0.mod.kin.keeps fun b o e=>(e0.bs b o e).1
 have lim:s.heap.NoLimit:=e0.mod.nolimit.keeps fun b o e=>(e0.bs b o e).1
 refine codeAny_call_function hr.depth (KX _ _ lk) rfl Sc.co Sc.gen rfl (PySem.W.codeRec_of KX hcd) (hb _ _ _ _ ?_)
 refine wpAny_newFunctionEnv_cells Sc.kind (fun y hy=>?_) fun env he s1 xx=>?_
 ·obtain⟨n,v⟩:=y
  rcases Sc.par n (List.of_mem_zip hy).1 with g|g
  ·exact .inl g
  ·exact .inr ⟨g,PySem.W.cellsFrom_some _ _ _ (.inl g)⟩
 subst he
 refine⟨lim.keeps xx.toInCall.keep,codeAny_func ?_⟩
 obtain⟨t,ht,hq⟩:=hbody cdv A outer s H E a dom p ss R U (hr.deeper _) hL h3
 have I:Inv (jH8 CX0 P w K mg base N qual (jAc st) f cdv A outer s H E) [] (start N vs) H s1:=jIq Sc hr.hd e0 hl rv xx
 refine wpAny_mono (ht.out.nox [] s1 (start N vs) H { nx:=fun _ H'=>Q .non H',rt:=Q } I ⟨⟨H,z⟩,z,jBO N ss,_,jDz ha hz (jBb.refl H),hq,⟨fun τ σ p r h=>q (.d .non) _ p r.ext Is.non jEt h,fun _ _ _ _ z=>z.elim,fun _ _ _ _ z=>z.elim,fun s v p e i f h=>q s v p e i f h⟩⟩) (fun fl s' hs=>?_) fun e s' hs=>hs
 have fin:∀{σ':St}{H':Hp}{v:V}{u:Value},Inv (jH8 CX0 P w K mg base N qual (jAc st) f cdv A outer s H E) [] σ' H' s'→jBM v u→Q v H'→CE outer P w H s Q u s' :=
  fun {σ' H' v u} J rv q=>⟨v,H',J.os,J.bare,J.base,J.hok,rv,q⟩
 cases fl with
 |ret u =>
  obtain⟨v,σ',H',J,rv,q⟩:=hs
  exact fin J rv q
 |next =>
  obtain⟨σ',H',J,q⟩:=hs
  exact fin (v:=V.non) (u:=Value.none) J rfl q
 |brk=>obtain⟨_,_,_,g⟩:=hs;exact False.elim g
 |cont=>obtain⟨_,_,_,g⟩:=hs;exact False.elim g
end
section
variable {X:Cx}{pos:Pos}{e:Expr}{te tb:TE3}
theorem jQu {outer:List Env}{P:Program}{w:World}{H:Hp}{s s':Shared}{Q Q':VK}{u:Value}(h:CE outer P w H s Q u s') (f:∀v H',Q v H'→Q' v H'):CE outer P w H s Q' u s' :=
 let ⟨v,H',a,b,c,d,r,q⟩:=h;⟨v,H',a,b,c,d,r,f _ _ q⟩
def jQ8 (i:Nat)(a:Addr)(dom:D→Prop)(p:D→Bool)(te:TE3):TE3:=fun τ R=>τ[i]? = some (some (.d (.ref a)))∧te τ fun s=>dd s fun x=>dom x∧R (.d (.bl (p x)))
theorem jPy {i k:Nat}{x:Str}{np:Pos}{a:Addr}{dom:D→Prop}{p:D→Bool}(hL:jMt X.prog X.w X.K X.mg X.base k X.s₀ X.H₀ X.fs a dom p) (hr:jDO k X.A) (hv:PE X (.Name x np) (jJS i)) (he:PE3 X e te) (hex:X.ex=[]:=by rfl) (hl:X.lent=none:=by rfl)
 (hs:starEach [e] X.env=(false,eval e X.env)::starEach [] X.env:=by exact jBR rfl):PE3 X (.Call (.Name x np) [e] [] pos) (jQ8 i a dom p te):=by
 refine⟨fun pins s σ H Q I hh=>?_⟩
 obtain⟨B,z,τ,R,r,⟨hi,ht⟩,q⟩:=hh
 obtain⟨v,h1,h2⟩:=r.val i _ hi
 have ev:v=.ref a:=by
  have h2':Is X.K z v (.ref a):=h2
  cases h2';rfl
 subst ev
 obtain⟨o,uu,fd,ho,hfd⟩:=hL.obj
 refine wpAny_Call_Name_kw (thn (hv pins s σ H (fun v' H'=>v'=.ref a∧H'=H) I ⟨_,h1,rfl,rfl⟩) fun f s1 hh=>?_)
 obtain⟨v',H',I1,rv,e1,e2⟩:=hh
 subst e1;subst e2
 obtain rfl:f=Value.ref a:=rv
 have pa:wpAny (model X.prog X.w) X.A (spliced (backTo pos (starEach [e] X.env))) _ X.xe s1:=(jA2 he.out jB9 hs) pos pins s1 σ H' (fun vs H1=>∃y z1 x,vs=[y]∧Ext ⟨H',z⟩ ⟨H1,z1⟩∧Is X.K z1 y x∧dom x∧R (.d (.bl (p x)))) I1 ⟨B,z,τ,_,r,ht,fun s2 v2 q2 e2 i2 f2 h2=>by
  obtain⟨x,rfl,hx⟩:=jEe h2
  exact⟨v2,q2.z,x,rfl,e2,i2,hx⟩⟩
 rw[hs] at pa ⊢
 refine PySem.W.callWith_of (P:=fun h=>∃ob,h.get? a=some ob∧ob.data=.func fd) rfl (fun h ⟨ob,g1,g2⟩=>⟨.frame,.inl rfl,?_⟩) (Calls.evalArgs_plain (thn pa fun us s2 ⟨vs,H2,I2,rv2,y,z1,x,evs,e2,i2,dm,hR⟩=>?_))
 ·obtain⟨oc,od,od2,osl⟩:=ob
  cases g2
  exact(PySem.W.Looks.ld (part:=none) g1).andThen .now
 subst evs
 have sm:jBb X.H₀ H2:=(r.all hl).trans e2.hh
 obtain⟨u,rfl,ru⟩:∃u,us=[u]∧jBM y u:=by
  cases rv2 with
  |cons a b=>cases b;exact⟨_,rfl,a⟩
 refine⟨⟨o,(I2.hok a _ (sm _ _ ho)).1,hfd⟩,wpAny_call (codeAny_mono (hL.run X.A X.stack s2 H2 y u x hr I2.env0 (fun b ob g1 g2 g3=>⟨I2.base.keep b ob g1 g2 g3 (by rw[hex];simp),I2.base.free b ob g1 g2 (by rw[hex];simp)⟩) sm ru (Is.mono e2.sub i2) dm) fun r2 s3 hq=>?_)⟩
 cases r2 with
 |error e=>exact hq.elim
 |ok fl =>
  cases fl with
  |ret u2 =>
   refine I2.after (jQu hq fun v3 H3 h3=>?_)
   obtain⟨rfl,sm3⟩:=h3
   exact q (.d (.bl (p x))) _ ⟨H3,z1⟩ (e2.trans (Ext.grow e2.sub sm3)) (.bl _) jEt hR
  |next=>exact False.elim hq
  |brk=>exact False.elim hq
  |cont=>exact False.elim hq
end
theorem jJv {K:PySem.W.Frag}{x:Str}{c T f:Addr}{oc:Value}{od:Option Addr}{fd:FuncData}{osl:Array (Option Value)}(ht:PySem.W.tabIn K x=some (c,T)) (hn:PySem.W.nsIn K mainGlobals x=some (some (.ref f))) (lk:K.lookup f=some ⟨oc,od,.func fd,osl⟩):fd.code=.ref c:=by
 unfold PySem.W.tabIn at ht
 rw[hn] at ht
 dsimp only at ht
 rw[lk] at ht
 dsimp only at ht
 split at ht
 ·rename_i c2 hc
  split at ht
  ·split at ht
   ·cases ht;exact hc
   ·cases ht
  ·cases ht
 ·cases ht
section
variable {P:Program}{w:World}{K:PySem.W.Frag}{mg:Str→Option Value}{base:Heap}
theorem jTx {x qual:Str}{st:Stmt}{f c T:Addr}{fd:FuncData}{N ps:List Str}{k:Nat}{sp:Sp3}(ht:PySem.W.tabIn K x=some (c,T)) (hn:PySem.W.nsIn K mainGlobals x=some (some (.ref f))) (F:Fun K x qual st f fd) (Sc:jAe N ps (jAc st)) (len:∀ss R U,sp ss R U→ss.length=ps.length)
 (hbody:∀(cdv:Value)(A:Around)(outer:List Env)(s:Shared)(H:Hp)(E:XK)(ss:List S)(R:S→Prop)(U:Str→Prop),cdv=.ref c→jDO k (A.deeper (envOfC qual (jAc st) s.heap.objs.size f cdv))→sp ss R U →
  jOa (jH8 (CXU P w) P w K mg base N qual (jAc st) f cdv A outer s H E) U →
  ∃t,jDx (jH8 (CXU P w) P w K mg base N qual (jAc st) f cdv A outer s H E) (jBD st) t∧t { nx:=fun _=>R (.d .non),rt:=R } (jBO N ss)):jAz P w K mg base (CXU P w) (k+1) f fd ps (jAj K mg sp):=by
 obtain⟨oc,od,kV,doc,pm,an,cdv,ct,osl,rfl,lk,hcd⟩:=F.ex
 have ec:cdv=.ref c:=jJv ht hn lk
 refine jM0 lk hcd Sc (fun vs H Q E hh=>by obtain⟨z,ss,R,U,hz,ha,h3,_⟩:=hh;exact ha.1.trans (len ss R U h3)) fun A outer s H vs Q E hr hh9=>?_
 obtain⟨z,ss,R,U,hz,ha,h3,q,qe⟩:=hh9
 obtain⟨t,ht,hq⟩:=hbody cdv A outer s H E ss R U ec hr h3 (jK8 qe)
 exact⟨_,ht.out,⟨H,z⟩,z,jBO N ss,_,jDz ha hz (jBb.refl H),hq,⟨fun τ σ p r h=>q (.d .non) _ p r.ext Is.non jEt h,fun _ _ _ _ z=>z.elim,fun _ _ _ _ z=>z.elim,fun s v p e i f h=>q s v p e i f h⟩⟩
theorem jR8 {x qual:Str}{st:Stmt}{f c T:Addr}{fd:FuncData}{N ps:List Str}{k:Nat}{sp:Sp3}(ht:PySem.W.tabIn K x=some (c,T)) (hn:PySem.W.nsIn K mainGlobals x=some (some (.ref f))) (F:Fun K x qual st f fd) (Sc:jAe N ps (jAc st)) (len:∀ss R U,sp ss R U→ss.length=ps.length)
 (hbody:∀(cdv:Value)(A:Around)(outer:List Env)(s:Shared)(H:Hp)(E:XK)(ss:List S)(R:S→Prop)(U:Str→Prop),cdv=.ref c→jDO k (A.deeper (envOfC qual (jAc st) s.heap.objs.size f cdv))→sp ss R U →
  ∃t,jDx (jH8 CX0 P w K mg base N qual (jAc st) f cdv A outer s H E).nox (jBD st) t∧t { nx:=fun _=>R (.d .non),rt:=R } (jBO N ss)):jAz P w K mg base CX0 (k+1) f fd ps (jAj K mg sp):=by
 obtain⟨oc,od,kV,doc,pm,an,cdv,ct,osl,rfl,lk,hcd⟩:=F.ex
 have ec:cdv=.ref c:=jJv ht hn lk
 refine jM0 lk hcd Sc (fun vs H Q E hh=>by obtain⟨z,ss,R,U,hz,ha,h3,_⟩:=hh;exact ha.1.trans (len ss R U h3)) fun A outer s H vs Q E hr hh9=>?_
 obtain⟨z,ss,R,U,hz,ha,h3,q,qe⟩:=hh9
 obtain⟨t,ht,hq⟩:=hbody cdv A outer s H E ss R U ec hr h3
 exact⟨_,ht.out.nox,⟨H,z⟩,z,jBO N ss,_,jDz ha hz (jBb.refl H),hq,⟨fun τ σ p r h=>q (.d .non) _ p r.ext Is.non jEt h,fun _ _ _ _ z=>z.elim,fun _ _ _ _ z=>z.elim,fun s v p e i f h=>q s v p e i f h⟩⟩
end
theorem jGG {us:List Value}{n:Nat}(h:us.length=n+1):∃x r,us=x::r∧r.length=n:=by
 cases us with
 |nil=>cases h
 |cons x r=>exact⟨x,r,rfl,Nat.succ.inj h⟩
theorem jPn {us:List Value}(h:us.length=1):∃x0,us=[x0]:=by
 obtain⟨x0,r0,e0,h0⟩:=jGG h
 have e:=List.eq_nil_of_length_eq_zero h0
 exact⟨x0,by rw[e0,e]⟩
theorem jOl {us:List Value}(h:us.length=2):∃x0 x1,us=[x0,x1]:=by
 obtain⟨x0,r0,e0,h0⟩:=jGG h
 obtain⟨x1,r1,e1,h1⟩:=jGG h0
 have e:=List.eq_nil_of_length_eq_zero h1
 exact⟨x0,x1,by rw[e0,e1,e]⟩
theorem jOe {us:List Value}(h:us.length=3):∃x0 x1 x2,us=[x0,x1,x2]:=by
 obtain⟨x0,r0,e0,h0⟩:=jGG h
 obtain⟨x1,r1,e1,h1⟩:=jGG h0
 obtain⟨x2,r2,e2,h2⟩:=jGG h1
 have e:=List.eq_nil_of_length_eq_zero h2
 exact⟨x0,x1,x2,by rw[e0,e1,e2,e]⟩
theorem jPg {us:List Value}(h:us.length=4):∃x0 x1 x2 x3,us=[x0,x1,x2,x3]:=by
 obtain⟨x0,r0,e0,h0⟩:=jGG h
 obtain⟨x1,r1,e1,h1⟩:=jGG h0
 obtain⟨x2,r2,e2,h2⟩:=jGG h1
 obtain⟨x3,r3,e3,h3⟩:=jGG h2
 have e:=List.eq_nil_of_length_eq_zero h3
 exact⟨x0,x1,x2,x3,by rw[e0,e1,e2,e3,e]⟩
open Classical in
theorem jL6 {P q:Program}{loose:List Str}{mean:ExcName→Option Value}{w:World}{K:PySem.W.Frag}{mg mb:Str→Option Value}{k:Nat}{fa a:Addr}{fd:FuncData}{x:Str}{s₁:Shared}{vs:List Value}{ns:List Int}
 (T:Top q loose mean mg mb s₁.heap) (hq:∀y:Str,(recsOf P).any (fun d=>d.name==y)=true→(recsOf q).any (fun d=>d.name==y)=true) (hnt:PySem.W.noTabs K=true) (KX:K.In s₁.heap) (hg:s₁.gens=#[])
 (ha:s₁.heap.get? a=some { cls:=.type "list",data:=.seq vs.toArray }) (hi:IntsAre vs ns) (hl:ns.length≤63) (hr:jDO k callerA)
 (F:∀base:Heap,K.In base→base.Ns mainGlobals mg→∃mg',jAz P w K mg base CX0 k fa fd [x] (jAj K mg' jJf)) (hbind:∀(s:Shared)(u:Value),BindsTo s fd ⟨[u],[]⟩ [(x,u)]) :
 codeAny (model P w) callerA (.call (.ref fa) ⟨[.ref a],[]⟩) (fun r s'=>r=.ok (.ret (.bool true))∧OldK s₁.heap s'.heap∧s'.os=s₁.os∧AllBare s'.gens) s₁:=by
 have rv:=jIg hi
 have lenV:=hi.length
 have sz:(63:Nat)≤sizeLine:=by decide
 let IsT:Addr→Prop:=fun b=>∃y c,PySem.W.tabIn K y=some (c,b)∧(recsOf P).any (fun d=>d.name==y)=true
 have tabs:∀{y:Str}{c b:Addr},PySem.W.tabIn K y=some (c,b)→(recsOf P).any (fun d=>d.name==y)=true→PySem.W.CodeHd s₁.heap c b∧s₁.heap.get? b=some (PySem.W.tabObj #[]):=fun {y c b} h1 h2=>by
  have h3:=hq y h2
  cases e:(recsOf q).find? (fun d=>d.name==y) with
  |some d=>exact PySem.W.tab_of T KX e h1
  |none =>
   obtain⟨d,hd,hn⟩:=List.any_eq_true.mp h3
   exact absurd hn (List.find?_eq_none.mp e d hd)
 have tabG:∀{b:Addr},IsT b→s₁.heap.get? b=some (PySem.W.tabObj #[]):=fun⟨_,_,h1,h2⟩=>(tabs h1 h2).2
 let H:Hp:=fun b=>if b=a∧K.lookup a=none then some (.frz { cls:=.type "list",data:=.seq vs.toArray } (.lst (ns.map V.int))) else if IsT b then some (.tbl #[]) else none
 have Ha:K.lookup a=none→H a=some (.frz { cls:=.type "list",data:=.seq vs.toArray } (.lst (ns.map V.int))):=fun h=>if_pos ⟨rfl,h⟩
 have neT:∀{b:Addr},IsT b→b≠a:=fun t z=>by
  have:=tabG t
  rw[z,ha] at this
  cases this
 have Ht:∀{b:Addr},IsT b→H b=some (.tbl #[]):=fun {b} t=>(if_neg (fun z=>neT t z.1)).trans (if_pos t)
 have Hn:∀{b:Addr},¬(b=a∧K.lookup a=none)→¬IsT b→H b=none:=fun {b} h1 h2=>(if_neg h1).trans (if_neg h2)
 have three:∀b,H b=none∨(b=a∧K.lookup a=none)∨IsT b:=fun b=>by
  by_cases h1:b=a∧K.lookup a=none
  ·exact .inr (.inl h1)
  ·by_cases h2:IsT b
   ·exact .inr (.inr h2)
   ·exact .inl (Hn h1 h2)
 have free_of:∀{b:Addr}{o:Obj},s₁.heap.get? b=some o→(∀xs n,o.data≠.seq xs n)→o≠PySem.W.tabObj #[]→H b=none:=fun {b o} e h1 h2=>by
  refine Hn (fun z=>?_) (fun z=>?_)
  ·rw[z.1,ha] at e
   cases e
   exact h1 _ _ rfl
  ·have:=tabG z
   rw[e] at this
   exact h2 (Option.some.inj this)
 have hok:HOk P w H s₁.heap:=fun b u e=>by
  rcases three b with z|z|z
  ·rw[z] at e;cases e
  ·obtain⟨rfl,z⟩:=z
   rw[Ha z] at e
   cases e
   exact⟨ha,by rw[List.length_map];exact Nat.le_trans hl sz,vs,_,rv,ha⟩
  ·rw[Ht z] at e
   cases e
   exact⟨#[],tabG z,trivial,fun pos cv z=>by cases z⟩
 have base_of:∀{b:Addr}{o:Obj},s₁.heap.get? b=some o→H b=none→(jMe s₁.heap H).get? b=some o:=fun e n=>jMA e n
 have nsK:∀{b:Addr}{m:Str→Option Value},s₁.heap.Ns b m→(jMe s₁.heap H).Ns b m:=fun {b m} ⟨o,es,ep,e,d,r⟩=>⟨o,es,ep,base_of e (free_of e (fun xs n z=>by rw[d] at z;cases z) (fun z=>by rw[z] at d;cases d)),d,r⟩
 have hKb:K.In (jMe s₁.heap H):=fun b o e=>base_of (KX b o e) (Hn (fun z=>by rw[z.1,z.2] at e;cases e) (fun z=>by
  have h1:=tabG z
  rw[KX b o e] at h1
  have h2:=List.all_eq_true.mp hnt (b,o) (PySem.W.mem_of_lookupK e)
  rw[Option.some.inj h1] at h2
  exact absurd (show false=true from h2) Bool.false_ne_true))
 have hM:Mod K mg (jMe s₁.heap H):=⟨hKb,nsK T.g,⟨mb,nsK T.b,T.builtins⟩,let ⟨mc,h1,h2⟩:=T.nolimit;⟨mc,nsK h1,h2⟩⟩
 have hTB:TB P K mg (jMe s₁.heap H) H:=by
  refine⟨?_,fun y c b h1 h2=>⟨?_,#[],Ht ⟨y,c,h1,h2⟩⟩⟩
  ·obtain⟨bm,ob,b1,b2,b3,b4,b5,b6⟩:=T.bmain
   exact⟨bm,ob,b1,b2,base_of b3 (free_of b3 (fun xs n z=>by rw[b6] at z;cases z) (fun z=>by rw[z] at b4;cases b4)),b4,b5,b6⟩
  ·obtain⟨o,fs,file,tf,flags,tg,inF,text,tt,g1,g2,g3,g4⟩:=(tabs h1 h2).1
   exact⟨o,fs,file,tf,flags,tg,inF,text,tt,base_of g1 (free_of g1 (fun xs n z=>by rw[g3] at z;cases z) (fun z=>by rw[z] at g2;cases g2)),g2,g3,g4⟩
 have e0:jPd P w K mg (jMe s₁.heap H) callerA [] s₁ H:=⟨rfl,hM,fun b o e=>jN9 e,Nat.le_of_eq (jLA _ _),trivial,fun b hb=>absurd (show b∈([]:List Addr) from hb) (by simp),hok,.of_eq hg,hTB⟩
 have hS:SqL K H a (ns.map V.int):=by
  cases hk:K.lookup a with
  |some o =>
   have e:=KX a o hk
   rw[ha] at e
   cases e
   exact .inr ⟨_,vs.toArray,_,hk,rfl,rfl,rfl,by rw[List.size_toArray,lenV];exact Nat.le_trans hl sz,by simpa using rv⟩
  |none=>exact .inl (.inr ⟨_,Ha hk⟩)
 obtain⟨mg',FF⟩:=F _ hKb (nsK T.g)
 refine codeAny_mono (FF.run callerA [] s₁ H ⟨[.ref a],[]⟩ [.ref a] [.ref a] (fun v _=>v=.bl true) (fun _ _ _=>False) hr e0 (hbind s₁ (.ref a)) (.cons rfl .nil) ⟨H,[.r (ns.map D.int)],fun s=>s=.d (.bl true),NoU,jBb.refl H,⟨rfl,fun i v s h1 h2=>?_⟩,⟨ns,rfl,hl,rfl⟩,fun s v q _ i _ e=>?_,fun _ _ _ _ _ z=>z.elim⟩) fun r s' h=>?_
 ·cases i with
  |zero =>
   cases h1
   cases h2
   exact⟨⟨a,_,rfl,hS,jM4 ns⟩,rfl⟩
  |succ i=>cases h1
 ·subst e
  exact Is.bl_inv i
 cases r with
 |error e=>exact(show False from h).elim
 |ok fl =>
  cases fl with
  |next=>exact False.elim h
  |brk=>exact False.elim h
  |cont=>exact False.elim h
  |ret u =>
   obtain⟨v,H',os,bare,un,hok',r',g⟩:=h
   have g':v=.bl true:=g
   subst g'
   obtain rfl:u=Value.bool true:=r'
   refine⟨rfl,⟨fun b o e=>?_,fun b o e=>un.there b o e (by simp)⟩,os,bare⟩
   rcases three b with z|z|z
   ·exact .inl (un.keep b o e z (by intro z;exact absurd (show b∈([]:List Addr) from z) (by simp)) (by simp))
   ·obtain⟨rfl,z⟩:=z
    obtain⟨e2,_⟩:=hok' b _ (un.frzs b _ _ (Ha z))
    rw[ha] at e
    cases e
    exact .inl e2
   ·have e1:=tabG z
    obtain⟨y,c,h1,h2⟩:=id z
    rw[e] at e1
    cases e1
    obtain⟨more,e3⟩:=un.tbls b _ (Ht z)
    obtain⟨tab,e4,_⟩:=(show jI5 H' s'.heap b from hok' b _ e3)
    exact .inr (.inl ⟨((tabs h1 h2).1.tab (tabs h1 h2).2).isCodeTable,rfl,#[],tab,rfl,by rw[e4];simp⟩)
theorem walk3 {l:PySem.W.OpenLaw}{k:Nat}{q:Program}{loose:List Str}{XP:(Str→Option Value)→Heap→Prop}{YP:World→Heap→Prop}{d:DefRec}{K:Params→PySem.W.Frag}{x:Str}(hn:l.most=some 63) (hdf:d.params.defaults=[]) (hr:jDO k callerA)
 (hq:∀y:Str,(recsOf l.prog).any (fun d=>d.name==y)=true→(recsOf q).any (fun d=>d.name==y)=true)
 (hY:∀(w:World)(h:Heap),YP w h→(K w.params).In h) (hnt:∀w:World,PySem.W.noTabs (K w.params)=true)
 (F:∀(w:World)(mg:Str→Option Value)(fa:Addr)(h:Heap),(K w.params).In h→h.Ns mainGlobals mg→mg d.name=some (.ref fa) →
  ∃fd:FuncData,(∀(s:Shared)(u:Value),BindsTo s fd ⟨[u],[]⟩ [(x,u)])∧∀base:Heap,(K w.params).In base→base.Ns mainGlobals mg→∃mg',jAz l.prog w (K w.params) mg base CX0 k fa fd [x] (jAj (K w.params) mg' jJf)) :
 PySem.W.WalkO q loose XP YP l.row.toRowW d [] (fun f vs=>PySem.call f vs):=by
 refine Att.attach_call hn hdf fun w s₀ s₁ mg mb fa o pm cd doc a vs ns G Y ho hd hcd hmg hobj hints hlen hg=>?_
 have KX:=hY w _ Y
 obtain⟨fd,hb,hF⟩:=F w mg fa _ KX G.T.g hmg
 exact jL6 G.T hq (hnt w) KX hg hobj hints hlen hr hF hb
end L3
namespace L3
open PySem PySem.Spec PyProof.Rows L2
section
variable {X:Cx}{e a b:Expr}{es:List Expr}{te ta tb:TE3}{tr:TA3}{pos:Pos}
theorem vN (i:Nat){x:Str}(hN:X.N[i]? = some x:=by rfl) (hv:Vis X.env.scope x:=by first|exact Or.inl rfl|exact Or.inr (Or.inl rfl)|exact Or.inr (Or.inr rfl)) (hd:(x==("__debug__":Str))=false:=by decide) (hcd:(x==("__classdict__":Str))=false:=by decide):PE3 X (.Name x pos) (jR9 i):=jRE (pv i hN hv hd hcd)
theorem a1 (ha:PE3 X e te)(hs:starEach [e] X.env=(false,eval e X.env)::starEach [] X.env:=by exact jBR rfl):PA3 X [e] (jK9 te jRc):=jAO ha jO4 hs
theorem a2 (ha:PE3 X a ta)(hb:PE3 X b tb)(h1:starEach [a,b] X.env=(false,eval a X.env)::starEach [b] X.env:=by exact jBR rfl)(h2:starEach [b] X.env=(false,eval b X.env)::starEach [] X.env:=by exact jBR rfl):PA3 X [a,b] (jK9 ta (jK9 tb jRc)):=jAO ha (jAO hb jO4 h2) h1
theorem jGZ {k k':Nat}{x:Str}{ps:List Str}{sp:Sp3}{p:Pos}{U:Str→Prop}(xo:jOa X U) (hr:jDO k' X.A) (c:Cal X.prog X.w X.K X.mg X.base (CXU X.prog X.w) k x ps sp) (ha:PA3 X (e::es) tr) (hk:k≤k':=by decide) (hg:Gl X x:=by exact rfl)
 (hdb:(x==("__debug__":Str))=false:=by decide) (he:starEach (e::es) X.env=(false,eval e X.env)::starEach es X.env:=by exact jBR rfl) (hpl:(backTo pos (starEach es X.env)).any (·.1)=false:=by exact jCD rfl) (hl:X.lent=none∨∀y,¬U y:=by first|exact .inl rfl|exact .inr (fun _ z=>z)) :
 PE3 X (.Call (.Name x p) (e::es) [] pos) (jKM U sp tr):=jKS xo c (hr.mono hk) hg ha hdb he hpl hl
theorem jAA {k k':Nat}{x:Str}{ps:List Str}{sp:Sp3}{p:Pos}(hr:jDO k' X.A) (c:Cal X.prog X.w X.K X.mg X.base (CXU X.prog X.w) k x ps sp) (ha:PA3 X (e::es) tr) (hk:k≤k':=by decide) (hg:Gl X x:=by exact rfl)
 (hdb:(x==("__debug__":Str))=false:=by decide) (he:starEach (e::es) X.env=(false,eval e X.env)::starEach es X.env:=by exact jBR rfl) (hpl:(backTo pos (starEach es X.env)).any (·.1)=false:=by exact jCD rfl) :
 PE3 X (.Call (.Name x p) (e::es) [] pos) (jKM NoU sp tr):=jKS jO7 c (hr.mono hk) hg ha hdb he hpl (.inr fun _ z=>z)
theorem jCR {p:Pos}(hm:X.mg "len"=none) (ha:PE3 X e te) (hg:Gl X "len":=by exact rfl) (he:starEach [e] X.env=(false,eval e X.env)::starEach [] X.env:=by exact jBR rfl) (hpl:(backTo pos (starEach [] X.env)).any (·.1)=false:=by exact jCD rfl) :
 PE3 X (.Call (.Name "len" p) [e] [] pos) (vCB jRp (jK9 te jRc)):=jE7 jRk hg hm PySem.boot_len (jAO ha jO4 he) (by decide) (by decide) he hpl
theorem jAH (i:Nat){x:Str}{pos':Pos}{ps:List Str}{sc:Scope}(O:jAe X.N ps sc) (he:PE3 X e te) (hi:X.N[i]? = some x:=by rfl) (hx:Loc X.env.scope x:=by first|exact Or.inl rfl|exact Or.inr rfl) (hs:swapsWith e (some (.Name x pos')) pos.line X.env=pure false:=by rfl) (hf:X.fn x=true∨X.env.scope.names.lookup x=some .local:=by first|exact .inl rfl|exact .inr rfl|assumption) (hp:jCT X i:=by first|exact jCn rfl|exact jCv rfl (by decide)|assumption) :
 PS3 X (.Assign [.Name x pos'] e pos) (jQD i te):=jSe O.nd hi hx he hs hf hp
theorem jBc (he:PE3 X e te):jDx X [.Return (some e) pos] (jSN te):=jAl (jRB he)
theorem jCf {op:CmpOp}{r3:R3}(ho:jGm X (compareOp op) r3) (ha:PE3 X a ta) (hb:PE3 X b tb) (hm:behindInMarks op b=false:=by exact jG3 _):PT3 X (.Compare a [op] [b] pos) (jOC (vOp r3 ta tb)):=jR1 ho ha hb hm
end
theorem scN {N P:List Str}{sc:Scope}(h1:(sc.kind=.function∧sc.isCoroutine=false∧sc.isGenerator=false):=by exact⟨rfl,rfl,rfl⟩) (h2:N.take P.length=P:=by rfl) (h3:N.Nodup∧(∀x∈P,sc.names.lookup x=some .local∨sc.names.lookup x=some .cell)∧∀y∈sc.names,y.2≠.free:=by decide +kernel):jAe N P sc:=⟨h1.1,h1.2.1,h1.2.2,h3.1,h2,h3.2.1,h3.2.2⟩
def Bnd (st:Stmt)(n:Str)(ps:List Str):Prop:=∀(kV doc pm:Value)(an:Option Addr)(cdv ct:Value)(us:List Value),us.length=ps.length→bindArgs (PySem.W.fnOf n n (jEy st) (jBD st) (jAc st) .none kV doc pm an cdv ct) ⟨us,[]⟩=pure (ps.zip us)
section
variable {P:Program}{w:World}{K:PySem.W.Frag}{mg:Str→Option Value}{base h:Heap}
theorem mkC (X:K.In h)(G:h.Ns mainGlobals mg){n:Str}{st:Stmt}(r:Rw K n st){k:Nat}{ps:List Str}{sp:Sp3}(ok:∀{f:Addr}{fd:FuncData},Fun K n n st f fd→rA K n f→jAz P w K mg base (CXU P w) k f fd ps (jAj K mg sp))
 (hb:Bnd st n ps:=by(intro _ _ _ _ _ _ us hl;first|(obtain⟨x0,rfl⟩:=jPn hl;rfl)|(obtain⟨x0,x1,rfl⟩:=jOl hl;rfl)|(obtain⟨x0,x1,x2,rfl⟩:=jOe hl;rfl)|(obtain⟨x0,x1,x2,x3,rfl⟩:=jPg hl;rfl))):Cal P w K mg base (CXU P w) k n ps sp:=by
 obtain⟨a,l,c,k⟩:=r
 have F:=jI7 (st:=st) l c k
 exact⟨⟨_,_,ok F a,PySem.W.mg_of X G a,k,F.binds hb⟩⟩
theorem mkL (X:K.In h)(G:h.Ns mainGlobals mg){n:Str}{st:Stmt}(r:Rw K n st){k kl:Nat}{ps:List Str}{sp:SpL}(ok:∀{f:Addr}{fd:FuncData},Fun K n n st f fd→rA K n f→jMC P w K mg base k kl f fd ps sp)
 (hb:Bnd st n ps:=by(intro _ _ _ _ _ _ us hl;first|(obtain⟨x0,rfl⟩:=jPn hl;rfl)|(obtain⟨x0,x1,rfl⟩:=jOl hl;rfl)|(obtain⟨x0,x1,x2,rfl⟩:=jOe hl;rfl)|(obtain⟨x0,x1,x2,x3,rfl⟩:=jPg hl;rfl))):jRG P w K mg base k kl n ps sp:=by
 obtain⟨a,l,c,k⟩:=r
 have F:=jI7 (st:=st) l c k
 exact⟨⟨_,_,ok F a,PySem.W.mg_of X G a,k,F.binds hb⟩⟩
end
end L3
namespace L3
open PySem PySem.Spec PyProof.Rows L2
section
variable {X:Cx}{e a b:Expr}{te ta tb:TE3}{pos:Pos}
def jSC (i:Nat)(te:TE3):TS3:=fun D3 τ=>match τ[i]? with
 |some (some (S.d (D.int n)))=>te τ fun s=>dd s fun d=>match d with
  |.int j=>D3.nx (τ.set i (some (.d (.int (n+j)))))
  |_=>False
 |_=>False
theorem jNJ {i:Nat}{x:Str}{px:Pos}(hN:X.N.Nodup) (hi:X.N[i]? = some x) (hx:Loc X.env.scope x) (he:PE3 X e te) (hf:X.fn x=true∨X.env.scope.names.lookup x=some .local:=by first|exact .inl rfl|exact .inr rfl|assumption) (hp:jCT X i:=by first|exact jCn rfl|exact jCv rfl (by decide)|assumption) :
 PS3 X (.AugAssign (.Name x px) .Add e pos) (jSC i te):=⟨jBG (jQs hN hi hx he.out jQH hf) fun D2 σ H hh=>by
 obtain⟨B,z,τ,D3,r,ht,c⟩:=hh
 unfold jSC at ht
 split at ht
 ·rename_i n hs
  obtain⟨v,h1,h2⟩:=r.val i _ hs
  have ev:v=.int n:=Is.int_inv h2
  subst ev
  refine⟨.int n,h1,B,_,τ,_,r,ht,fun s v q1 e1 i1 f1 h3=>?_⟩
  obtain⟨d,rfl,h4⟩:=jEe h3
  split at h4
  ·rename_i j
   have ev:v=.int j:=Is.int_inv i1
   subst ev
   refine⟨n,j,rfl,rfl,?_⟩
   exact c.nx _ _ _ ((r.mono e1).setd (.int (n+j)) hp) h4
  ·exact h4.elim
 ·exact ht.elim⟩
def jS3 (r3:R3)(ta tb:TE3):TE3:=fun τ R=>ta τ fun x=>tb τ fun y=>dd x.arg fun dx=>dd y.arg fun dy=>r3 dx dy fun d=>R (.d d)
theorem jKU {op:Operator}{r3:R3}(ho:jGm X (binaryOp op) r3) (ha:PE3 X a ta) (hb:PE3 X b tb):PE3 X (.BinOp a op b pos) (jS3 r3 ta tb):=⟨jBe (jPe ho ha.out hb.out) fun σ H Q hh=>by
 obtain⟨B,z,τ,R,r,ht,q⟩:=hh
 refine⟨B,z,τ,_,r,ht,fun s v q1 e1 i1 f1 h1=>?_⟩
 obtain⟨z1,e1',i1'⟩:=jDE e1 i1 f1
 refine⟨B,z1,τ,_,r.mono e1',h1,fun s2 v2 q2 e2 i2 f2 h2=>?_⟩
 obtain⟨z2,e2',i2'⟩:=jDE e2 i2 f2
 obtain⟨dx,ex,h2⟩:=jEe h2
 obtain⟨dy,ey,h2⟩:=jEe h2
 rw[ex] at i1'
 rw[ey] at i2'
 refine⟨z2,dx,dy,_,e2'.sub,(show Is X.K z1 v dx from i1').mono e2'.zz,i2',h2,fun d w q3 e3 i3 h3=>?_⟩
 exact q (.d d) w q3 (e1'.trans (e2'.trans e3)) i3 jEt h3⟩
end
end L3
namespace L3
open PySem PySem.Spec PyProof.Rows L2
def Ite (K:PySem.W.Frag)(a:Addr):It :=
 ⟨fun i H=>∃xs x,SqL K H a xs∧xs[i]? = some x,fun i H x H'=>∃p y,H p=none∧x=.ref p∧(∀xs,SqL K H a xs→xs[i]? = some y)∧H'=upd H p (.tup [.int i,y]),fun i H=>∃xs,SqL K H a xs∧xs.length≤i⟩
theorem jK2 {P:Program}{w:World}{K:PySem.W.Frag}{elts:List Expr}{x1:Nat}{tpos:Pos}(a e it:Addr) (hne:e≠it):jMw P w K (.Tuple elts x1 tpos) (Ite K a) [e,it] e (fun i h=>(∃old,IsEnum h e it ((i:Nat):Int) old)∧h.IsListIter it a i) where
 mem:=by simp
 obj:=fun i h st b hb=>by
  obtain⟨⟨old,he⟩,hi⟩:=st
  rcases List.mem_cons.mp hb with rfl|hb
  ·exact⟨_,he,fun v z=>by cases z⟩
  ·have:b=it:=by simpa using hb
   subst this
   obtain⟨o,e1,c,d⟩:=hi
   exact⟨o,e1,fun v z=>by rw[d] at z;cases z⟩
 keep:=fun i h h' st k=>⟨let ⟨old,he⟩:=st.1;⟨old,k e (by simp) _ he⟩,st.2.at fun o e1=>k it (by simp) o e1⟩
 item:=by
  intro X hP hw hK hc i pins s σ H E I hf st hg
  subst hP hw hK
  obtain⟨xs,x,hq,hx⟩:=hg
  obtain⟨its,rv,p,hz⟩:=I.list hq
  obtain⟨u,hu,ru⟩:=rv.get hx
  obtain⟨⟨old,he⟩,hi⟩:=st
  obtain⟨f0,f1,f2,f3,f4,f5⟩:=hf e (by simp)
  obtain⟨g0,g1,g2,g3,g4,g5⟩:=hf it (by simp)
  refine wpAny_pyNext_enum_item he hi p.isList (x:=u) (by simpa using hu) hne fun h1 heo hit1 ht1 hz1 hk1=>⟨_,rfl,wpAny_letOwnedTupleGo_enum (s:={ s with heap:=h1,toks:=s.toks+1 }) heo fun h2 he2 hs2=>?_⟩
  have hs2':Heap.SameBut e h1 h2:=hs2
  have el:e<s.heap.objs.size:=Heap.lt_size he
  have sz:s.heap.objs.size≠e:=Nat.ne_of_gt el
  have hn:H s.heap.objs.size=none:=I.hok.fresh (Nat.le_refl _)
  have old2:∀b o,b≠e→b≠it→s.heap.get? b=some o→h2.get? b=some o:=fun b o n1 n2 z=>(hs2'.2 b n1).trans (hk1 b o n1 n2 z)
  have tup2:h2.get? s.heap.objs.size=some { cls:=.type "tuple",data:=.seq #[.int i s.toks,u] }:=(hs2'.2 _ sz).trans ht1
  have trk:∀{b:Addr}{o:HO},H b=some o→b≠e∧b≠it:=fun {b o} z=>⟨(fun y=>by rw[y,f0] at z;cases z),(fun y=>by rw[y,g0] at z;cases z)⟩
  have hok2:HOk X.prog X.w (upd H s.heap.objs.size (.tup [.int i,x])) h2:=fun b o z=>by
   by_cases hb:b=s.heap.objs.size
   ·subst hb
    rw[jAp] at z
    cases z
    exact⟨by show 2≤sizeLine;decide,[.int i s.toks,u],.cons ⟨_,rfl⟩ (.cons ru .nil),⟨_,tup2,rfl,_,rfl⟩⟩
   ·rw[jAn hb] at z
    refine(I.hok b o z).stay (hf:=fun c w1 w2 y=>by rw[jAn (jAx y hn)];exact y) (fun c v hc' y=>?_) (fun c y=>by rw[jAn (jAx y hn)];exact y) fun c ys y=>by rw[jAn (jAx y hn)];exact y
    have t:c≠e∧c≠it:=by
     rcases hc' with rfl|hc'
     ·exact trk z
     ·exact trk hc'
    exact old2 c v t.1 t.2 y
  have I2:Inv X pins σ (upd H s.heap.objs.size (.tup [.int i,x])) { s with heap:=h2,toks:=s.toks+1 }:=by
   refine I.step (g':=s.gens) (d':=s.drawn) (ch:=[e,it]) (fun b hb=>?_) (fun b o _ _ hb z _=>old2 b o (fun y=>hb (by simp[y])) (fun y=>hb (by simp[y])) z) (fun b o _ _ hb z _=>⟨o.slots,old2 b o (fun y=>hb (by simp[y])) (fun y=>hb (by simp[y])) z⟩)
    (fun b o _ z n=>by rw[jAn (Nat.ne_of_lt (Heap.lt_size z))];exact n) (fun b o hb z=>⟨o,old2 b o (fun y=>hb (by simp[y])) (fun y=>hb (by simp[y])) z⟩)
    (fun b ys y=>by rw[jAn (jAx y hn)];exact y) (fun b o ys y=>by rw[jAn (jAx y hn)];exact y) (fun b ps y=>⟨#[],by rw[jAn (jAx y hn),y];simp⟩) (fun m hm=>?_) hok2 I.bare
   ·rcases List.mem_cons.mp hb with rfl|hb
    ·exact⟨f3,f1,f4,f5⟩
    ·have:b=it:=by simpa using hb
     subst this
     exact⟨g3,g1,g4,g5⟩
   ·obtain⟨o,es,ep,ho,r⟩:=hm
    exact⟨o,es,ep,old2 _ o (Ne.symm f1) (Ne.symm g1) ho,r⟩
  refine⟨.ref s.heap.objs.size,_,I2,rfl,⟨_,x,hn,rfl,fun ys hy=>by rw[I.list_inj hy hq];exact hx,rfl⟩,⟨⟨u,?_⟩,hit1.extBut hs2'.extBut (Ne.symm hne)⟩,fun b hb=>?_⟩
  ·have:((i+1:Nat):Int)=(i:Int)+1:=by omega
   rw[this]
   exact he2
  ·rcases List.mem_cons.mp hb with rfl|hb
   ·rw[jAn (Ne.symm sz)];exact f0
   ·have:b=it:=by simpa using hb
    subst this
    obtain⟨o,e1,_⟩:=hi
    rw[jAn (Nat.ne_of_lt (Heap.lt_size e1))]
    exact g0
 done:=by
  intro X hP hw hK hc i pins s σ H E I hf st hg
  subst hP hw hK
  obtain⟨xs,hq,hx⟩:=hg
  obtain⟨its,rv,p,hz⟩:=I.list hq
  obtain⟨⟨old,he⟩,hi⟩:=st
  obtain⟨g0,g1,g2,g3,g4,g5⟩:=hf it (by simp)
  refine wpAny_pyNext_enum_end (I.ok.hd hc) he hi p.isList (by rw[List.getElem?_toArray];rw[List.getElem?_eq_none_iff,←rv.length];exact hx) fun h' hx'=>⟨rfl,?_⟩
  exact I.turned (t':=s.toks) (fun b o hb z=>hx' b o hb z) g0 g1 g3 g4 g5
 self:=fun A i s Q E st h=>by
  obtain⟨⟨old,he⟩,_⟩:=st
  exact wpAny_pyIter_enum he h
section
variable {X:Cx}{pos:Pos}
def jQz (K:PySem.W.Frag)(tl:TE):TI:=fun σ H R=>tl σ H fun x H1=>∃a,x=.ref a∧(∃xs,Rd H1 a (.lst xs))∧R (Ite K a) H1
theorem jOm {elts:List Expr}{x1:Nat}{tpos p:Pos}{l:Expr}{tl:TE}(hg:Gl X "enumerate") (hm:X.mg "enumerate"=none) (hl:PE X l tl) (hs:starEach [l] X.env=[(false,eval l X.env)]:=by rfl):PI X (.Tuple elts x1 tpos) (.Call (.Name "enumerate" p) [l] [] pos) (jQz X.K tl):=by
 intro pins s σ H R I h
 refine Call_ (jFw I hg hm PyProof.Rows.boot_enumerate (PyProof.Rows.callWith_type1 ?_ hs rfl))
 rw[hs]
 refine Calls.spliced_cons (thn (hl pins s σ H _ I h) fun v s1 ⟨x,H1,I1,r1,q1⟩=>Calls.spliced_nil ?_)
 obtain⟨a,e,⟨xs,hq⟩,q⟩:=q1
 subst e
 cases r1
 obtain⟨_,its,n,rv,ho⟩:=hq.ok I1.hok
 refine call_enumerate_1 (items:=its.toArray) (n:=n) ho fun h' he hit hz old=>?_
 have I2:Inv X pins σ H1 { s1 with heap:=h' }:=I1.kept (t':=s1.toks) old
 refine wpAny_pyIter_enum (s:={ s1 with heap:=h' }) he ?_
 refine⟨s1.heap.objs.size+1,[s1.heap.objs.size+1,s1.heap.objs.size],_,_,H1,rfl,I2,jK2 a (s1.heap.objs.size+1) s1.heap.objs.size (Nat.succ_ne_self _),⟨⟨_,he⟩,hit⟩,fun b hb=>?_,q⟩
 rcases List.mem_cons.mp hb with rfl|hb
 ·exact I1.fpOk (Nat.le_succ _) (I1.hok.fresh (Nat.le_succ _))
 ·have:b=s1.heap.objs.size:=by simpa using hb
  subst this
  exact I1.fpOk (Nat.le_refl _) (I1.hok.fresh (Nat.le_refl _))
def jQE (i1 i2:Nat)(xs:List D)(tb:TS3)(D3:jHR)(τ0:Tau):Prop:=∃I:Nat→Tau→Prop,I 0 τ0 ∧
 (∀n τ x,xs[n]? = some x→I n τ→tb { D3 with nx:=I (n+1),ct:=I (n+1),bk:=D3.nx } ((τ.set i1 (some (.d (.int n)))).set i2 (some (.d x))))∧∀τ,I xs.length τ→D3.nx τ
def jQl (j i1 i2:Nat)(tb:TS3):TS3:=fun D3 τ=>match τ[j]? with
 |some (some (.l xs))=>jQE i1 i2 xs tb D3 (τ.set j (some (.r xs)))
 |_=>False
theorem jQF {j i1 i2:Nat}{x1 x2 y:Str}{p1 p2 pt py pn pc:Pos}{kt:Nat}{body:List Stmt}{tb:TS3}
 (h:PS X (.For (.Tuple [.Name x1 p1,.Name x2 p2] kt pt) (.Call (.Name "enumerate" pn) [.Name y py] [] pc) body [] pos) (jN1 (jQz X.K (jJS j)) (jSl X.K 2 (jLV (jDg i1) (jLV (jDg i2) jRn))) (FS X tb))) (hp1:jCT X i1:=by first|exact jCn rfl|exact jCv rfl (by decide)|assumption) (hp2:jCT X i2:=by first|exact jCn rfl|exact jCv rfl (by decide)|assumption) :
 PS3 X (.For (.Tuple [.Name x1 p1,.Name x2 p2] kt pt) (.Call (.Name "enumerate" pn) [.Name y py] [] pc) body [] pos) (jQl j i1 i2 tb):=⟨jBG h fun D2 σ H hh=>by
 obtain⟨B,z,τ,D3,r,ht,c⟩:=hh
 unfold jQl at ht
 split at ht
 ·rename_i xs hs
  obtain⟨v,h1,a,vs,rfl,h3,h4⟩:=r.val j _ hs
  have r':=r.freeze hs rfl
  obtain⟨I,i0,turn,out⟩:=ht
  have hno:∀(m:Nat)(ys:List D),(τ.set j (some (.r xs)))[m]? = some (some (S.l ys))→σ[m]?≠some (some (V.ref a)):=fun m ys hm hσ=>by
   rcases jAD hm with⟨rfl,z⟩|⟨hn,hm'⟩
   ·cases z
   ·have hl:j<τ.length:=(List.getElem?_eq_some_iff.mp hs).1
    exact r'.sep m j ys (.r xs) a hn hm (by rw[List.getElem?_set_self hl]) rfl hσ h1
  have hB:SqL X.K (jIR (τ.set j (some (.r xs))) σ H) a vs:=.inl (.inl (by rw[jFQ hno];exact h3))
  refine⟨.ref a,h1,a,rfl,⟨vs,.inl h3⟩,fun n m σ1 H1=>m=vs.length-n∧n≤vs.length∧∃z1 τ1,Rep X ⟨jIR (τ.set j (some (.r xs))) σ H,z⟩ τ1 σ1 ⟨H1,z1⟩∧I n τ1,⟨vs.length,by simp,Nat.zero_le _,z,_,r'.inB,i0⟩,?_⟩
  rintro n m σ1 H1 ⟨rfl,hn,z1,τ1,r1,ih1⟩
  have q:=r1.ext.hh.seq hB
  by_cases hlt:n<vs.length
  ·refine .inr ⟨⟨vs,vs[n],q,by simp[hlt]⟩,fun σ' H'=>∃z' τ',Rep X ⟨jIR (τ.set j (some (.r xs))) σ H,z⟩ τ' σ' ⟨H',z'⟩∧I (n+1) τ',fun σ' H' p'=>⟨vs.length-(n+1),by omega,rfl,hlt,p'⟩,fun x H' y=>?_⟩
   obtain⟨p,w,hp,rfl,hy,rfl⟩:=y
   have hw:=hy vs q
   obtain⟨d,hd,id⟩:=jDk h4 hw
   have e1:Ext ⟨H1,z1⟩ ⟨upd H1 p (.tup [.int n,w]),z1⟩:=Ext.own r1.ext.sub hp _
   have r2:=r1.mono e1
   refine⟨p,[.int n,w],rfl,.inl (.inl jAp),rfl,.int n,[w],rfl,w,[],rfl,rfl,?_⟩
   exact⟨_,_,_,_,(r2.setd (i:=i1) (.int (n:Int)) hp1).setd (i:=i2) (id.mono r1.ext.zz) hp2,turn n τ1 d hd ih1,c.inB r'.leB fun τ' σ' p' r' h'=>⟨p'.z,τ',r',h'⟩⟩
  ·have e:n=vs.length:=by omega
   subst e
   exact .inl ⟨⟨vs,q,Nat.le_refl _⟩,c.nx _ _ _ (r1.outB r'.leB) (out τ1 (by rw[←h4.1];exact ih1))⟩
 ·exact ht.elim⟩
end
end L3
namespace L3
open PySem L2
section
variable {X:Cx}
end
end L3
namespace CH
open PySem L2 L3
def qd (q:Rat):D:=.tup [.int q.num,.int (q.den:Int)]
abbrev tp (a b:Int):D:=.tup [.int a,.int b]
abbrev Cs:=List (Rat×Rat)
def cd (c:Rat×Rat):D:=.tup [qd c.1,qd c.2]
def tt (cs:Cs)(k:Nat):Rat:=(cs.getD k (0,0)).1
def vv (cs:Cs)(k:Nat):Rat:=(cs.getD k (0,0)).2
def slp (cs:Cs)(m:Rat)(k:Nat):Rat:=if k+1<cs.length then (vv cs (k+1)-vv cs k)/(tt cs (k+1)-tt cs k) else m
def Up (cs:Cs):Prop:=∀k,k+1<cs.length→tt cs k<tt cs (k+1)
def SzC (n:Nat)(cs:Cs):Prop:=∀k,k<cs.length→Sz n (tt cs k)∧Sz n (vv cs k)
theorem jL2 {cs:Cs}{k:Nat}(h:k<cs.length):atI (cs.map cd) (k:Int)=some (.tup [qd (tt cs k),qd (vv cs k)]):=by
 refine atI_nat ?_
 rw[List.getElem?_map,List.getElem?_eq_getElem h]
 unfold tt vv
 rw[List.getD_eq_getElem?_getD,List.getElem?_eq_getElem h]
 rfl
end CH
namespace CH
open PySem L2 L3
theorem atR {o:Option D}{d:D}{F:D→Prop}(e:o=some d) (h:F d):(match (generalizing:=false) o with|some d=>F d|none=>False):=by subst e;exact h
theorem jBI {cs:Cs}{i:Int}(k:Nat) (hi:i=(k:Int)) (h:k<cs.length):atI (cs.map cd) i=some (.tup [qd (tt cs k),qd (vv cs k)]):=by subst hi;exact jL2 h
def L4 (k:Nat)(a b c d:Int):Prop:=a.natAbs<2^k∧b.natAbs<2^k∧c.natAbs<2^k∧d.natAbs<2^k
def Lb (k:Nat)(a:Int):Prop:=a.natAbs<2^k
theorem jCs {cs:Cs}{m:Rat}{k:Nat}(h:k+1<cs.length):slp cs m k=(vv cs (k+1)-vv cs k)/(tt cs (k+1)-tt cs k):=if_pos h
theorem jBo {cs:Cs}{m:Rat}{k:Nat}(h:¬k+1<cs.length):slp cs m k=m:=if_neg h
theorem jPf (q:Rat):((q.num:Int):Rat)=q*(((q.den:Nat):Int):Rat):=by rw[Rat.intCast_natCast];exact jE1 q
theorem jJR (q:Rat):q=q/1:=by grind
theorem jEJ {a b:Rat}(h:a<b):b-a≠0:=by grind
theorem jNp {k:Nat}(h:k≠0):(1:Int).natAbs<2^k:=Nat.one_lt_two_pow h
theorem jRD:((1:Int):Rat)=1*((1:Int):Rat):=by simp
def crv (cs:Cs)(m:Rat):D:=.tup [.tup (cs.map cd),qd m]
structure Crv (cs:Cs)(m:Rat):Prop where
 ne:0<cs.length
 t0:tt cs 0=0
 v0:0≤vv cs 0
 m0:0≤m
 up:Up cs
 vu:∀k,k+1<cs.length→vv cs k≤vv cs (k+1)
 bend:∀k,k+1<cs.length→slp cs m k≠slp cs m (k+1)
structure SzK (n:Nat)(cs:Cs)(m:Rat):Prop where
 len:cs.length≤100000
 cs:SzC n cs
 m:Sz n m
theorem jL1 {cs:Cs}{n:Nat}{x:D}(h:(cs.map cd)[n]? = some x):n<cs.length∧x=.tup [qd (tt cs n),qd (vv cs n)]:=by
 have hl:n<cs.length:=by
  have:=(List.getElem?_eq_some_iff.mp h).1
  rwa [List.length_map] at this
 have a:=jL2 hl
 rw[show atI (cs.map cd) (n:Int)=(cs.map cd)[n]? from ?_,h] at a
 ·exact⟨hl,Option.some.inj a⟩
 ·rw[h]
  exact atI_nat h
def kp (cs:Cs)(m:Rat):Nat→Cs
 |0=>[(tt cs 0,vv cs 0)]
 |n+1=>if slp cs m n=slp cs m (n+1) then kp cs m n else kp cs m n++[(tt cs (n+1),vv cs (n+1))]
theorem jMc {cs:Cs}{m:Rat}{n:Nat}(h:¬slp cs m n=slp cs m (n+1)):kp cs m (n+1)=kp cs m n++[(tt cs (n+1),vv cs (n+1))]:=if_neg h
theorem jGx {cs:Cs}{m:Rat}{n:Nat}(h:slp cs m n=slp cs m (n+1)):kp cs m (n+1)=kp cs m n:=if_pos h
theorem jIr (cs:Cs)(m:Rat):∀n,(kp cs m n).length≤n+1
 |0=>Nat.le_refl _
 |n+1=>by
  have:=jIr cs m n
  by_cases h:slp cs m n=slp cs m (n+1)
  ·rw[jGx h];omega
  ·rw[jMc h,List.length_append];simp;omega
theorem jLZ {L M:Cs}{k:Nat}(h:k<L.length):tt (L++M) k=tt L k:=by
 unfold tt;rw[List.getD_eq_getElem?_getD,List.getD_eq_getElem?_getD,List.getElem?_append_left h]
theorem jMO {L M:Cs}{k:Nat}(h:k<L.length):vv (L++M) k=vv L k:=by
 unfold vv;rw[List.getD_eq_getElem?_getD,List.getD_eq_getElem?_getD,List.getElem?_append_left h]
theorem jPD {L:Cs}{c:Rat×Rat}:tt (L++[c]) L.length=c.1:=by
 unfold tt;rw[List.getD_eq_getElem?_getD,List.getElem?_append_right (Nat.le_refl _)];simp
theorem jRd {L:Cs}{c:Rat×Rat}:vv (L++[c]) L.length=c.2:=by
 unfold vv;rw[List.getD_eq_getElem?_getD,List.getElem?_append_right (Nat.le_refl _)];simp
theorem jCi {L:Cs}{c:Rat×Rat}:(L++[c]).length=L.length+1:=by simp
theorem jEQ {L:Cs}{c:Rat×Rat}{M M':Rat}{i:Nat}(hi:i<L.length) (h:(c.2-vv L (L.length-1))/(c.1-tt L (L.length-1))=M):slp (L++[c]) M' i=slp L M i:=by
 rw[jCs (by rw[jCi];omega)]
 by_cases e:i+1<L.length
 ·rw[jCs e,jLZ e,jLZ hi,jMO e,jMO hi]
 ·rw[jBo e,jLZ hi,jMO hi]
  have e':i+1=L.length:=by omega
  rw[e',jPD,jRd,show i=L.length-1 by omega]
  exact h
theorem jHA {L:Cs}{c:Rat×Rat}{M':Rat}:slp (L++[c]) M' L.length=M':=jBo (by rw[jCi];omega)
structure Ord (cs:Cs):Prop where
 ne:0<cs.length
 t0:tt cs 0=0
 v0:0≤vv cs 0
 up:Up cs
 vu:∀k,k+1<cs.length→vv cs k≤vv cs (k+1)
theorem Ord.snoc {L:Cs}{c:Rat×Rat}(h:Ord L) (ht:tt L (L.length-1)<c.1) (hv:vv L (L.length-1)≤c.2):Ord (L++[c]):=by
 have n:=h.ne
 refine⟨by rw[jCi];omega,by rw[jLZ n];exact h.t0,by rw[jMO n];exact h.v0,fun k hk=>?_,fun k hk=>?_⟩
 all_goals
  rw[jCi] at hk
  by_cases e:k+1<L.length
 ·rw[jLZ e,jLZ (by omega)];exact h.up k e
 ·have e':k+1=L.length:=by omega
  rw[e',jPD,jLZ (by omega),show k=L.length-1 by omega];exact ht
 ·rw[jMO e,jMO (by omega)];exact h.vu k e
 ·have e':k+1=L.length:=by omega
  rw[e',jRd,jMO (by omega),show k=L.length-1 by omega];exact hv
theorem Ord.one {v:Rat}(h:0≤v):Ord [(0,v)]:=⟨Nat.one_pos,rfl,h,fun k hk=>by simp at hk,fun k hk=>by simp at hk⟩
structure jSV (cs:Cs)(m:Rat)(n:Nat)(L:Cs):Prop where
 ord:Ord L
 bend:∀k,k+1<L.length→slp L (slp cs m n) k≠slp L (slp cs m n) (k+1)
 at_:∃j,j≤n∧tt L (L.length-1)=tt cs j∧vv L (L.length-1)=vv cs j∧vv cs n-vv cs j=slp cs m n*(tt cs n-tt cs j)∧tt cs j≤tt cs n∧vv cs j≤vv cs n
theorem seg {a b x y z v w s:Rat}(h1:w-v=s*(b-a)) (h2:(x-w)/(y-b)=s) (h3:b<y):x-v=s*(y-a):=by
 have h4:y-b≠0:=jEJ h3
 have h5:x-w=s*(y-b):=by grind
 grind
theorem jNw {x y s:Rat}(h:x=s*y) (hy:y≠0):x/y=s:=by grind
theorem jG6 {cs:Cs}{m:Rat}(o:Ord cs):∀n,n<cs.length→jSV cs m n (kp cs m n)
 |0,h=>⟨by
  have e:kp cs m 0=[(0,vv cs 0)]:=by show [(tt cs 0,vv cs 0)]=_;rw[o.t0]
  rw[e];exact Ord.one o.v0,fun k hk=>by simp[kp] at hk,0,Nat.le_refl _,rfl,rfl,by grind,Rat.le_refl,Rat.le_refl⟩
 |n+1,h=>by
  obtain⟨ko,kb,j,hj,ht,hv,hs,tn,vn⟩:=jG6 o n (by omega)
  have u:=o.up n h
  have w:=o.vu n h
  have sn:=jCs (m:=m) h
  have g:vv cs (n+1)-vv cs j=slp cs m n*(tt cs (n+1)-tt cs j):=seg (z:=0) hs sn.symm u
  by_cases e:slp cs m n=slp cs m (n+1)
  ·rw[jGx e]
   exact⟨ko,e ▸ kb,j,by omega,ht,hv,e ▸ g,by grind,by grind⟩
  ·rw[jMc e]
   have lt:tt cs j<tt cs (n+1):=by grind
   have sl:(vv cs (n+1)-vv (kp cs m n) ((kp cs m n).length-1))/(tt cs (n+1)-tt (kp cs m n) ((kp cs m n).length-1))=slp cs m n:=by
    rw[ht,hv];exact jNw g (jEJ lt)
   have nl:=ko.ne
   refine⟨ko.snoc (by rw[ht];exact lt) (by rw[hv];grind),fun k hk=>?_,n+1,Nat.le_refl _,?_,?_,by grind,Rat.le_refl,Rat.le_refl⟩
   ·rw[jCi] at hk
    by_cases e1:k+1<(kp cs m n).length
    ·rw[jEQ (c:=(tt cs (n+1),vv cs (n+1))) (by omega) sl,jEQ (c:=(tt cs (n+1),vv cs (n+1))) e1 sl]
     exact kb k e1
    ·have e2:k+1=(kp cs m n).length:=by omega
     rw[jEQ (c:=(tt cs (n+1),vv cs (n+1))) (by omega) sl,jBo e1,e2,jHA]
     exact e
   ·rw[jCi,Nat.add_sub_cancel,jPD]
   ·rw[jCi,Nat.add_sub_cancel,jRd]
theorem jHm {cs:Cs}{m:Rat}(o:Ord cs) (hm:0≤m):Crv (kp cs m (cs.length-1)) m:=by
 have n:=o.ne
 have k:=jG6 (m:=m) o (cs.length-1) (by omega)
 have e:slp cs m (cs.length-1)=m:=jBo (by omega)
 exact⟨k.ord.ne,k.ord.t0,k.ord.v0,hm,k.ord.up,k.ord.vu,by have b:=k.bend;rw[e] at b;exact b⟩
theorem jLB {lo hi:Int}(c:lo<hi):lo≤(lo+hi)/2∧(lo+hi)/2<hi:=by omega
theorem jRU {a b c:Int}(h:b<c) (h2:a≤b):(b-a).toNat<(c-a).toNat:=by omega
theorem jRy {m lo:Int}{L:Nat}(h1:0≤lo) (h2:lo≤m){hi:Int}(h3:m<hi) (h4:hi≤L):m.toNat<L:=by omega
theorem jRi (j:Nat):0+(j:Int)*1=(j:Int):=by omega
theorem jC6 {lo st:Int}{n i:Nat}{x:D}(h:(jOX lo st n)[i]? = some x):i<n∧x=.int (lo+i*st):=by
 have hl:i<n:=by
  have:=(List.getElem?_eq_some_iff.mp h).1
  rwa [jAX] at this
 rw[jHp hl] at h
 exact⟨hl,(Option.some.inj h).symm⟩
theorem fm {a m:Int}(h:0<m):0≤a.fmod m∧a.fmod m<m:=⟨Int.fmod_nonneg_of_pos a h,Int.fmod_lt_of_pos a h⟩
theorem jGc {a b c:Int}(hc:0<c) (h:a<b):Rat.divInt a c<Rat.divInt b c:=by
 have hc':(0:Rat)<(c:Rat):=Rat.intCast_pos.mpr hc
 rw[Rat.divInt_eq_div,Rat.divInt_eq_div,Rat.div_lt_iff hc',Rat.div_mul_cancel (fun z=>absurd (z ▸ hc') Rat.lt_irrefl)]
 exact Rat.intCast_lt_intCast.mpr h
theorem jK0 {a b c:Int}(hc:0<c) (h:a≤b):Rat.divInt a c≤Rat.divInt b c:=by
 by_cases e:a=b
 ·rw[e];exact Rat.le_refl
 ·exact Rat.le_of_lt (jGc hc (by omega))
theorem jGq {a c:Int}(hc:0<c) (h:0≤a):0≤Rat.divInt a c:=(Rat.divInt_nonneg_iff_of_pos_right hc).mpr h
theorem SzC.mono {n m:Nat}{L:Cs}(h:SzC n L) (hk:n≤m):SzC m L:=fun k hl=>⟨(h k hl).1.mono hk,(h k hl).2.mono hk⟩
theorem jD1 {ms:List Int}{i:Int}(k:Nat) (hi:i=(k:Int)) (h:k<ms.length):atI (ms.map D.int) i=some (.int (cell ms k)):=by
 subst hi
 exact jJh (by omega) (by omega)
theorem jGL {a b:Int}{k:Nat}(hb:0<b) (h1:a.natAbs<2^k) (h2:b.natAbs<2^k):Sz k (Rat.divInt a b):=jC5 (by omega) h1 h2
theorem rs2 (M:Int):Builtin.Range.rangeSize 0 M 2=if 0<M then (M-0-1)/2+1 else 0:=rfl
theorem jNG {M:Int}(h0:-1000≤M) (h1:M≤1000):((2:Int)≠0∧(2:Int).natAbs<1073741824∧Builtin.Range.small 0 M 2=true∧0≤Builtin.Range.rangeSize 0 M 2)∧∀n:Nat,n<(Builtin.Range.rangeSize 0 M 2).toNat→(n:Int)*2<M:=by
 have hS:=rs2 M
 refine⟨⟨nz2,by decide,?_,by rw[hS];split<;>omega⟩,fun n hn=>?_⟩
 ·unfold Builtin.Range.small
  rw[hS]
  simp only[Builtin.Range.rangeFitsLong,Bool.and_eq_true,Bool.or_eq_true,decide_eq_true_eq,beq_iff_eq,show(2:Int)>0 by decide,if_true]
  split<;>omega
 ·rw[hS] at hn
  split at hn<;>omega
theorem jNN {cs:Cs}(j:Nat) (h0:0<j) (h:j≤cs.length):atI (cs.map cd) (-(j:Int))=some (.tup [qd (tt cs (cs.length-j)),qd (vv cs (cs.length-j))]):=by
 have e:=jL2 (cs:=cs) (k:=cs.length-j) (by omega)
 rw[←e]
 unfold atI ixN
 rw[List.length_map,if_neg (by omega),if_pos (by omega),if_pos (by omega),if_pos (by omega)]
 rw[show(-(j:Int)+(cs.length:Int)).toNat=(((cs.length-j:Nat):Int)).toNat by omega]
def plc (cs:Cs)(t:Rat):Nat→Nat
 |0=>0
 |n+1=>if t<tt cs n then plc cs t n else n
theorem jGO {cs:Cs}{t:Rat}(h:0<cs.length):∀n,n≤cs.length→plc cs t n<cs.length
 |0,_=>h
 |n+1,hn=>by
  unfold plc
  split
  ·exact jGO h n (by omega)
  ·omega
def val (cs:Cs)(m t:Rat):Rat:=vv cs (plc cs t cs.length)+slp cs m (plc cs t cs.length)*(t-tt cs (plc cs t cs.length))
structure Wq (k:Nat)(a b:Int)(q:Rat):Prop where
 pos:0<b
 eq:(a:Rat)=q*b
 la:Lb k a
 lb:Lb k b
theorem Wq.mono {k n:Nat}{a b:Int}{q:Rat}(h:Wq k a b q) (hk:k≤n):Wq n a b q:=⟨h.pos,h.eq,jAw h.la hk,jAw h.lb hk⟩
theorem Wq.of {k:Nat}{q:Rat}(h:Sz k q):Wq k q.num q.den q:=⟨by have:=den_pos q;omega,jPf q,h.1,jAB h⟩
theorem Wq.minus {k:Nat}{a b c d:Int}{p q:Rat}(h:Wq k a b p) (g:Wq k c d q):Wq (k+k+1) (a*d-c*b) (b*d) (p-q):=by
 refine⟨Int.mul_pos h.pos g.pos,?_,jCF (jAh h.la g.lb) (jAh g.la h.lb),jAw (jAh h.lb g.lb) (by omega)⟩
 rw[Rat.intCast_sub,Rat.intCast_mul,Rat.intCast_mul,Rat.intCast_mul,h.eq,g.eq]
 grind
theorem Wq.mul {k n:Nat}{a b c d:Int}{p q:Rat}(h:Wq k a b p) (g:Wq n c d q):Wq (k+n) (a*c) (b*d) (p*q):=by
 refine⟨Int.mul_pos h.pos g.pos,?_,jAh h.la g.la,jAh h.lb g.lb⟩
 rw[Rat.intCast_mul,Rat.intCast_mul,h.eq,g.eq]
 grind
theorem Wq.inv {k:Nat}{a b:Int}{q:Rat}(h:Wq k a b q) (hq:0<q):0<a∧Wq k b a (1/q):=by
 have hb:(0:Rat)<(b:Rat):=Rat.intCast_pos.mpr h.pos
 have ha:(0:Rat)<(a:Rat):=by rw[h.eq];exact Rat.mul_pos hq hb
 have ha':0<a:=Rat.intCast_pos.mp ha
 have q0:q≠0:=fun z=>absurd (z ▸ hq) Rat.lt_irrefl
 refine⟨ha',ha',?_,h.lb,h.la⟩
 rw[h.eq]
 grind
theorem Wq.lt_iff {k n:Nat}{a b c d:Int}{p q:Rat}(h:Wq k a b p) (g:Wq n c d q):a*d<c*b ↔ p<q:=by
 have hb:(0:Rat)<(b:Rat):=Rat.intCast_pos.mpr h.pos
 have hd:(0:Rat)<(d:Rat):=Rat.intCast_pos.mpr g.pos
 rw[←Rat.intCast_lt_intCast,Rat.intCast_mul,Rat.intCast_mul,h.eq,g.eq]
 rw[show p*(b:Rat)*(d:Rat)=p*((b:Rat)*d) by grind,show q*(d:Rat)*(b:Rat)=q*((b:Rat)*d) by grind]
 have hp:=Rat.mul_pos hb hd
 constructor
 ·intro e
  by_cases z:p<q
  ·exact z
  ·exact absurd e (Rat.not_lt.mpr (Rat.mul_le_mul_of_nonneg_right (Rat.not_lt.mp z) (Rat.le_of_lt hp)))
 ·intro e
  exact Rat.mul_lt_mul_of_pos_right e hp
theorem Wq.one:Wq 1 1 1 1:=⟨by decide,jRD,jNp (by decide),jNp (by decide)⟩
theorem Wq.plus {k n:Nat}{a b c d:Int}{p q:Rat}(h:Wq k a b p) (g:Wq n c d q):Wq (k+n+1) (a*d+c*b) (b*d) (p+q):=by
 refine⟨Int.mul_pos h.pos g.pos,?_,jEX (jAh h.la g.lb) (jAw (jAh g.la h.lb) (by omega)),jAw (jAh h.lb g.lb) (by omega)⟩
 rw[Rat.intCast_add,Rat.intCast_mul,Rat.intCast_mul,Rat.intCast_mul,h.eq,g.eq]
 grind
theorem Wq.cast {k:Nat}{a b:Int}{p q:Rat}(h:Wq k a b p) (e:p=q):Wq k a b q:=e ▸ h
theorem Wq.l4 {k n:Nat}{a b c d:Int}{p q:Rat}(h:Wq k a b p) (g:Wq k c d q) (hk:k≤n):L4 n a b c d:=⟨jAw h.la hk,jAw h.lb hk,jAw g.la hk,jAw g.lb hk⟩
theorem jJg {cs:Cs}{t:Rat}{n:Nat}(h:t<tt cs n):plc cs t (n+1)=plc cs t n:=if_pos h
theorem jG4 {cs:Cs}{t:Rat}{n:Nat}(h:¬t<tt cs n):plc cs t (n+1)=n:=if_neg h
theorem jJH {a b:Rat}(h:a<b):0<b-a:=by grind
theorem jNW {v r s g:Rat}:v+r*g*(1/s)=v+r/s*g:=by grind
def sat (cs:Cs)(m t:Rat):Rat:=slp cs m (plc cs t cs.length)
theorem jQO {L M:Cs}{t:Rat}:∀n,n≤L.length→plc (L++M) t n=plc L t n
 |0,_=>rfl
 |n+1,h=>by
  unfold plc
  rw[jLZ (by omega),jQO n (by omega)]
theorem jJQ {L:Cs}{c:Rat×Rat}{t:Rat}:plc (L++[c]) t (L++[c]).length=if t<c.1 then plc L t L.length else L.length:=by
 rw[jCi]
 conv=>lhs;unfold plc
 rw[jPD,jQO _ (Nat.le_refl _)]
theorem jJl {L:Cs}{c:Rat×Rat}{M M' t:Rat}(n:0<L.length) (h:(c.2-vv L (L.length-1))/(c.1-tt L (L.length-1))=M):sat (L++[c]) M' t=if t<c.1 then sat L M t else M':=by
 unfold sat
 rw[jJQ]
 split
 ·exact jEQ (jGO n _ (Nat.le_refl _)) h
 ·exact jHA
theorem jJG {L:Cs}{c:Rat×Rat}{M M' t:Rat}(n:0<L.length) (h:(c.2-vv L (L.length-1))/(c.1-tt L (L.length-1))=M):val (L++[c]) M' t=if t<c.1 then val L M t else c.2+M'*(t-c.1):=by
 unfold val
 rw[jJQ]
 split
 ·have p:=jGO (t:=t) n _ (Nat.le_refl _)
  rw[jEQ p h,jMO p,jLZ p]
 ·rw[jHA,jRd,jPD]
theorem jLP {L:Cs}{t:Rat}(n:0<L.length) (h:tt L (L.length-1)≤t):plc L t L.length=L.length-1:=by
 have e:L.length=L.length-1+1:=by omega
 rw[e,jG4 (Rat.not_lt.mpr h),Nat.add_sub_cancel]
theorem jII {L:Cs}{M t:Rat}(n:0<L.length) (h:tt L (L.length-1)≤t):sat L M t=M:=by
 unfold sat
 rw[jLP n h,jBo (by omega)]
theorem jDM {L:Cs}{M t:Rat}(n:0<L.length) (h:tt L (L.length-1)≤t):val L M t=vv L (L.length-1)+M*(t-tt L (L.length-1)):=by
 unfold val
 rw[jLP n h,jBo (by omega)]
def pre (cs:Cs)(n:Nat):Cs:=cs.take (n+1)
theorem jLC {cs:Cs}{n:Nat}(h:n<cs.length):(pre cs n).length=n+1:=by unfold pre;rw[List.length_take];omega
theorem jP2 {cs:Cs}{n:Nat}(h:n+1<cs.length):pre cs (n+1)=pre cs n++[(tt cs (n+1),vv cs (n+1))]:=by
 unfold pre tt vv
 rw[List.take_succ,List.getElem?_eq_getElem h,List.getD_eq_getElem?_getD,List.getElem?_eq_getElem h]
 rfl
theorem jPX {cs:Cs}{n k:Nat}(h:n<cs.length) (hk:k≤n):tt (pre cs n) k=tt cs k∧vv (pre cs n) k=vv cs k:=by
 have e:cs=pre cs n++cs.drop (n+1):=(List.take_append_drop _ _).symm
 have l:=jLC h
 constructor
 ·conv=>rhs;rw[e]
  rw[jLZ (by omega)]
 ·conv=>rhs;rw[e]
  rw[jMO (by omega)]
theorem jOI {cs:Cs}(n:0<cs.length):pre cs (cs.length-1)=cs:=by
 unfold pre
 exact List.take_of_length_le (by omega)
theorem jMb {cs:Cs}{m:Rat}(o:Ord cs) (t:Rat):∀n,n<cs.length→val (kp cs m n) (slp cs m n) t=val (pre cs n) (slp cs m n) t∧sat (kp cs m n) (slp cs m n) t=sat (pre cs n) (slp cs m n) t
 |0,h=>by
  have e:pre cs 0=kp cs m 0:=by
   cases cs with
   |nil=>exact absurd h (by simp)
   |cons c r=>rfl
  rw[e]
  exact⟨rfl,rfl⟩
 |n+1,h=>by
  obtain⟨iv,is⟩:=jMb (m:=m) o t n (by omega)
  have k:=jG6 (m:=m) o n (by omega)
  obtain⟨j,hj,ht,hv,hs,tn,vn⟩:=k.at_
  have u:=o.up n h
  have sn:=jCs (m:=m) h
  have g:vv cs (n+1)-vv cs j=slp cs m n*(tt cs (n+1)-tt cs j):=seg (z:=0) hs sn.symm u
  have lp:=jLC (cs:=cs) (n:=n) (by omega)
  have pl:=jPX (cs:=cs) (n:=n) (k:=n) (by omega) (Nat.le_refl _)
  have sp:(vv cs (n+1)-vv (pre cs n) ((pre cs n).length-1))/(tt cs (n+1)-tt (pre cs n) ((pre cs n).length-1))=slp cs m n:=by
   rw[lp,Nat.add_sub_cancel,pl.1,pl.2,sn]
  rw[jP2 h,jJG (c:=(tt cs (n+1),vv cs (n+1))) (by omega) sp,jJl (c:=(tt cs (n+1),vv cs (n+1))) (by omega) sp]
  have lt:tt cs j<tt cs (n+1):=by grind
  by_cases e:slp cs m n=slp cs m (n+1)
  ·rw[jGx e,←e,iv,is]
   by_cases c:t<tt cs (n+1)
   ·rw[if_pos c,if_pos c];exact⟨rfl,rfl⟩
   ·rw[if_neg c,if_neg c]
    have c':=Rat.not_lt.mp c
    have en:tt (pre cs n) ((pre cs n).length-1)≤t:=by rw[lp,Nat.add_sub_cancel,pl.1];grind
    rw[jDM (by omega) en,jII (by omega) en,lp,Nat.add_sub_cancel,pl.1,pl.2]
    refine⟨?_,rfl⟩
    have q:vv cs (n+1)-vv cs n=slp cs m n*(tt cs (n+1)-tt cs n):=by
     have:=jEJ u
     rw[sn];grind
    show _=vv cs (n+1)+slp cs m n*(t-tt cs (n+1))
    grind
  ·have sl:(vv cs (n+1)-vv (kp cs m n) ((kp cs m n).length-1))/(tt cs (n+1)-tt (kp cs m n) ((kp cs m n).length-1))=slp cs m n:=by
    rw[ht,hv];exact jNw g (jEJ lt)
   rw[jMc e,jJG (c:=(tt cs (n+1),vv cs (n+1))) k.ord.ne sl,jJl (c:=(tt cs (n+1),vv cs (n+1))) k.ord.ne sl,iv,is]
   exact⟨rfl,rfl⟩
theorem jFr {cs:Cs}{m:Rat}(o:Ord cs) (t:Rat):val (kp cs m (cs.length-1)) m t=val cs m t∧sat (kp cs m (cs.length-1)) m t=sat cs m t:=by
 have n:=o.ne
 have k:=jMb (m:=m) o t (cs.length-1) (by omega)
 rw[jBo (show ¬cs.length-1+1<cs.length by omega),jOI n] at k
 exact k
theorem jBz {cs:Cs}(u:Up cs){i:Nat}:∀{j:Nat},i≤j→j<cs.length→tt cs i≤tt cs j
 |0,h,_=>by have:i=0:=by omega
            subst this;exact Rat.le_refl
 |j+1,h,hl=>by
  by_cases e:i=j+1
  ·subst e;exact Rat.le_refl
  ·have:=jBz u (i:=i) (j:=j) (by omega) (by omega)
   have:=u j hl
   grind
theorem jIy {cs:Cs}(u:∀k,k+1<cs.length→vv cs k≤vv cs (k+1)){i:Nat}:∀{j:Nat},i≤j→j<cs.length→vv cs i≤vv cs j
 |0,h,_=>by have:i=0:=by omega
            subst this;exact Rat.le_refl
 |j+1,h,hl=>by
  by_cases e:i=j+1
  ·subst e;exact Rat.le_refl
  ·have:=jIy u (i:=i) (j:=j) (by omega) (by omega)
   have:=u j hl
   grind
theorem jGT {cs:Cs}(u:Up cs){t:Rat}{k:Nat}(h1:tt cs k≤t) (h2:k+1<cs.length→t<tt cs (k+1)):∀n,k<n→n≤cs.length→plc cs t n=k
 |0,h,_=>by omega
 |n+1,h,hn=>by
  by_cases e:n=k
  ·subst e;exact jG4 (Rat.not_lt.mpr h1)
  ·rw[jJg,jGT u h1 h2 n (by omega) (by omega)]
   have a:=h2 (by omega)
   have b:=jBz u (i:=k+1) (j:=n) (by omega) (by omega)
   grind
structure On (cs:Cs)(k:Nat)(t:Rat):Prop where
 lt:k<cs.length
 lo:tt cs k≤t
 hi:k+1<cs.length→t≤tt cs (k+1)
theorem jL9 {cs:Cs}{m:Rat}(u:Up cs){k:Nat}(h:k+1<cs.length):vv cs (k+1)=vv cs k+slp cs m k*(tt cs (k+1)-tt cs k):=by
 have:=jEJ (u k h)
 rw[jCs h];grind
theorem jFq {cs:Cs}{m t:Rat}(u:Up cs){k:Nat}(o:On cs k t):val cs m t=vv cs k+slp cs m k*(t-tt cs k):=by
 have hl:=o.lt
 by_cases e:k+1<cs.length∧t=tt cs (k+1)
 ·obtain⟨e1,e2⟩:=e
  have p:plc cs t cs.length=k+1:=jGT u (by rw[e2];exact Rat.le_refl) (fun h=>by rw[e2];exact u _ h) _ e1 (Nat.le_refl _)
  unfold val
  rw[p,jL9 (m:=m) u e1,e2]
  grind
 ·have p:plc cs t cs.length=k:=jGT u o.lo (fun h=>by
   have a:=o.hi h
   have b:t≠tt cs (k+1):=fun z=>e ⟨h,z⟩
   grind) _ hl (Nat.le_refl _)
  unfold val
  rw[p]
theorem Wq.sz {k:Nat}{a b:Int}{q:Rat}(h:Wq k a b q):Sz k q:=by
 have hb:(b:Rat)≠0:=fun z=>absurd (Rat.intCast_eq_zero_iff.mp z) (Int.ne_of_gt h.pos)
 have e:q=Rat.divInt a b:=by
  rw[Rat.divInt_eq_div,h.eq]
  grind
 rw[e]
 exact jGL h.pos h.la h.lb
end CH
namespace CH
open PySem L2 L3
theorem jNO (p q:Rat):eqN 1 (qd p) (qd q)=decide (p=q):=by
 by_cases h:p=q
 ·subst h
  rw[decide_eq_true rfl]
  exact jFM 1 _ rfl
 ·rw[decide_eq_false h]
  cases e:eqN 1 (qd p) (qd q) with
  |false=>rfl
  |true =>
   exfalso
   apply h
   have e':((p.num==q.num&&((p.den:Int)==(q.den:Int)&&true))&&true)=true:=e
   rw[Bool.and_true,Bool.and_true,Bool.and_eq_true,beq_iff_eq,beq_iff_eq] at e'
   exact Rat.ext e'.1 (Int.ofNat.inj e'.2)
theorem neT (p q:Rat){A B:Prop}(h1:¬p=q→A) (h2:p=q→B):if (!eqN 1 (qd p) (qd q))=true then A else B:=by
 rw[jNO]
 exact jJi h1 h2
theorem eqT (p q:Rat){A B:Prop}(h1:p=q→A) (h2:¬p=q→B):if eqN 1 (qd p) (qd q)=true then A else B:=by
 rw[jNO]
 exact jBA h1 h2
def Bgn (cs:Cs):Prop:=0<cs.length∧tt cs 0=0∧0≤vv cs 0
def Ris (cs:Cs)(n:Nat):Prop:=∀k,k<n→k+1<cs.length→tt cs k<tt cs (k+1)∧vv cs k≤vv cs (k+1)
def jHM (cs:Cs)(m:Rat):List Rat:=(List.range cs.length).map (slp cs m)
theorem jDZ (cs:Cs)(m:Rat):(jHM cs m).length=cs.length:=by unfold jHM;rw[List.length_map,List.length_range]
theorem atI_nat {α:Type}{xs:List α}{k:Nat}(h:k<xs.length):atI xs (k:Int)=xs[k]? := by
 unfold atI ixN
 rw[if_pos (by omega),if_pos (by omega)]
 simp
theorem jJ7 {cs:Cs}{m:Rat}{i:Int}(k:Nat) (hi:i=(k:Int)) (h:k<cs.length):atI ((jHM cs m).map qd) i=some (qd (slp cs m k)):=by
 subst hi
 rw[atI_nat (by rw[List.length_map,jDZ];exact h)]
 unfold jHM
 rw[List.getElem?_map,List.getElem?_map,List.getElem?_range h]
 rfl
theorem jJb (cs:Cs)(m:Rat)(h:0<cs.length):(((List.range (cs.length-1)).map fun i=>some (qd (slp cs m i))).filterMap id)++[qd m]=(jHM cs m).map qd:=by
 have e:((List.range (cs.length-1)).map fun i=>some (qd (slp cs m i))).filterMap id=(List.range (cs.length-1)).map fun i=>qd (slp cs m i):=by
  rw[List.filterMap_map]
  exact congrFun (List.filterMap_eq_map (f:=fun i=>qd (slp cs m i))) _
 rw[e]
 unfold jHM
 rw[List.map_map]
 have e2:cs.length=cs.length-1+1:=by omega
 conv=>rhs;rw[e2,List.range_succ,List.map_append]
 show _++[qd m]=_++[qd (slp cs m (cs.length-1))]
 rw[jBo (cs:=cs) (m:=m) (k:=cs.length-1) (by omega)]
 rfl
theorem jQ1 {n:Nat}{cs:Cs}{m:Rat}(up:Up cs) (hz:SzK n cs m){k:Nat}(hk:k<cs.length):Sz (4*n+2) (slp cs m k):=by
 by_cases c:k+1<cs.length
 ·rw[jCs c]
  have z0:=hz.cs k hk
  have z1:=hz.cs (k+1) c
  exact((z1.2.sub z0.2).div (z1.1.sub z0.1) (jEJ (up k c))).mono (by omega)
 ·rw[jBo c]
  exact hz.m.mono (by omega)
def tOf:D→Rat
 |.tup (.tup [.int a,.int b]::_)=>Rat.divInt a b
 |_=>0
theorem jNy (a b:Rat):tOf (.tup [qd a,qd b])=a:=Rat.num_divInt_den a
theorem jD6 {cs:Cs}{t:Rat}(h0:tt cs 0≤t):∀n,0<n→tt cs (plc cs t n)≤t∧plc cs t n<n∧∀i,plc cs t n<i→i<n→t<tt cs i
 |1,_=>by
  have e:plc cs t 1=0:=by rw[jG4 (n:=0) (Rat.not_lt.mpr h0)]
  rw[e]
  exact⟨h0,Nat.one_pos,fun i h1 h2=>by omega⟩
 |n+2,_=>by
  obtain⟨h1,h2,h3⟩:=jD6 h0 (n+1) (Nat.succ_pos n)
  by_cases c:t<tt cs (n+1)
  ·rw[jJg c]
   refine⟨h1,by omega,fun i i1 i2=>?_⟩
   by_cases e:i=n+1
   ·rw[e];exact c
   ·exact h3 i i1 (by omega)
  ·rw[jG4 c]
   exact⟨Rat.not_lt.mp c,by omega,fun i i1 i2=>by omega⟩
theorem jPm {cs:Cs}{t:Rat}(up:Up cs) (h0:tt cs 0≤t){i:Nat}(hi:i<cs.length):(!decide (t<tt cs i))=decide (i<plc cs t cs.length+1):=by
 obtain⟨h1,h2,h3⟩:=jD6 h0 cs.length (by omega)
 by_cases c:i<plc cs t cs.length+1
 ·rw[decide_eq_true c,decide_eq_false (Rat.not_lt.mpr (Rat.le_trans (jBz up (i:=i) (j:=plc cs t cs.length) (by omega) h2) h1))]
  rfl
 ·rw[decide_eq_false c,decide_eq_true (h3 i (by omega) hi)]
  rfl
theorem jPW {a b:Rat}(ha:0≤a) (hb:0<b):0≤a/b:=by
 by_cases h:0≤a/b
 ·exact h
 ·have h':0 < -(a/b):=by grind
  have:=Rat.mul_pos h' hb
  have e:-(a/b)*b=-a:=by grind
  rw[e] at this
  grind
structure jJB (cs:Cs)(m:Rat):Prop where
 o:Ord cs
 m0:0≤m
theorem jLp {cs:Cs}{m:Rat}(r:jJB cs m) (k:Nat):0≤slp cs m k:=by
 by_cases c:k+1<cs.length
 ·rw[jCs c]
  have h1:=r.o.vu k c
  have h2:=r.o.up k c
  exact jPW (by grind) (by grind)
 ·rw[jBo c];exact r.m0
theorem jGS {cs:Cs}(o:Ord cs){t:Rat}(ht:0≤t):On cs (plc cs t cs.length) t:=by
 have n:=o.ne
 obtain⟨h1,h2,h3⟩:=jD6 (cs:=cs) (t:=t) (by rw[o.t0];exact ht) cs.length n
 exact⟨h2,h1,fun c=>Rat.le_of_lt (h3 _ (by omega) c)⟩
theorem jNA {cs:Cs}{m t:Rat}(r:jJB cs m){k:Nat}(hk:k<cs.length) (h:tt cs k≤t):vv cs k≤val cs m t:=by
 have t0:0≤t:=by
  have:=jBz r.o.up (i:=0) (j:=k) (by omega) hk
  rw[r.o.t0] at this
  grind
 have n:=r.o.ne
 obtain⟨h1,h2,h3⟩:=jD6 (cs:=cs) (t:=t) (by rw[r.o.t0];exact t0) cs.length n
 have kj:k≤plc cs t cs.length:=by
  by_cases c:k≤plc cs t cs.length
  ·exact c
  ·have:=h3 k (by omega) hk
   grind
 have:=jIy r.o.vu kj h2
 have s:=jLp r (plc cs t cs.length)
 have p:=Rat.mul_nonneg s (show 0≤t-tt cs (plc cs t cs.length) by grind)
 show vv cs k≤vv cs (plc cs t cs.length)+slp cs m (plc cs t cs.length)*(t-tt cs (plc cs t cs.length))
 grind
theorem jPI {cs:Cs}{m t:Rat}(r:jJB cs m){k:Nat}(hk:k<cs.length) (t0:0≤t) (h:t≤tt cs k):val cs m t≤vv cs k:=by
 have on:=jGS r.o t0
 generalize hj:plc cs t cs.length=j at on
 by_cases c:j<k
 ·have c1:j+1<cs.length:=by omega
  have:=jIy r.o.vu (i:=j+1) (j:=k) (by omega) hk
  have e:=jL9 (m:=m) r.o.up c1
  have s:=jLp r j
  have p:=Rat.mul_nonneg s (show 0≤tt cs (j+1)-t by have:=on.hi c1;grind)
  rw[jFq r.o.up on]
  grind
 ·have e1:=jBz r.o.up (i:=k) (j:=j) (by omega) on.lt
  have e2:=on.lo
  have e:t=tt cs k:=by grind
  by_cases c2:j=k
  ·subst c2
   rw[jFq r.o.up on,e]
   grind
  ·have e3:=jBz r.o.up (i:=k+1) (j:=j) (by omega) on.lt
   have e4:=r.o.up k (by have:=on.lt;omega)
   grind
theorem jFJ {cs:Cs}{m x y:Rat}(r:jJB cs m) (x0:0≤x) (h:x≤y):val cs m x≤val cs m y:=by
 have ox:=jGS r.o x0
 have oy:=jGS r.o (Rat.le_trans x0 h)
 by_cases c:plc cs y cs.length≤plc cs x cs.length
 ·have e1:=jBz r.o.up c ox.lt
  have oy2:On cs (plc cs x cs.length) y∨plc cs y cs.length<plc cs x cs.length:=by
   by_cases e:plc cs y cs.length=plc cs x cs.length
   ·rw[←e];exact .inl oy
   ·exact .inr (by omega)
  rcases oy2 with oy2|oy2
  ·rw[jFq r.o.up ox,jFq r.o.up oy2]
   have s:=jLp r (plc cs x cs.length)
   have p:=Rat.mul_nonneg s (show 0≤y-x by grind)
   grind
  ·have h3:=(jD6 (cs:=cs) (t:=y) (by rw[r.o.t0];exact Rat.le_trans x0 h) cs.length r.o.ne).2.2 _ oy2 ox.lt
   have:=ox.lo
   grind
 ·have c':plc cs x cs.length+1<cs.length:=by have:=oy.lt;omega
  have h1:=jPI (m:=m) r c' x0 (ox.hi c')
  have h2:=jNA (m:=m) (t:=y) r c' (by
   have e3:=jBz r.o.up (i:=plc cs x cs.length+1) (j:=plc cs y cs.length) (by omega) oy.lt
   have:=oy.lo
   grind)
  exact Rat.le_trans h1 h2
theorem jEl {cs:Cs}{m:Rat}(o:Ord cs){k:Nat}(hk:k<cs.length):val cs m (tt cs k)=vv cs k:=by
 rw[jFq (k:=k) o.up ⟨hk,Rat.le_refl,fun c=>Rat.le_of_lt (o.up k c)⟩]
 grind
theorem jHv {cs:Cs}{m:Rat}(o:Ord cs):val cs m 0=vv cs 0:=by
 have:=jEl (m:=m) o o.ne
 rw[o.t0] at this
 exact this
end CH
namespace CH
open PySem L2 L3
end CH
namespace CH
open PySem L2 L3
theorem jCB {α:Type}{f:α→D}{xs:List α}{i:Nat}{x:D}(h:(xs.map f)[i]? = some x):∃a,xs[i]? = some a∧x=f a:=by
 rw[List.getElem?_map] at h
 cases e:xs[i]? with
 |none=>rw[e] at h;cases h
 |some a=>rw[e] at h;exact⟨a,rfl,(Option.some.inj h).symm⟩
theorem jCZ {α:Type}(xs:List α) (f:α→D):(xs.map fun a=>some (f a)).filterMap id=xs.map f:=by
 rw[List.filterMap_map]
 exact congrFun (List.filterMap_eq_map (f:=f)) _
end CH
namespace CH
open PySem L2 L3
def rcs (l:List (Int×Int))(lo hi:Int):Cs:=l.map fun p=>(Rat.divInt p.1 lo,Rat.divInt p.2 hi)
def ia (l:List (Int×Int))(k:Nat):Int:=(l.getD k (0,0)).1
def iv (l:List (Int×Int))(k:Nat):Int:=(l.getD k (0,0)).2
structure jJK (B:Nat)(l:List (Int×Int)):Prop where
 ne:0<l.length
 le:l.length≤1000
 t0:ia l 0=0
 v0:0≤iv l 0
 up:∀k,k+1<l.length→ia l k<ia l (k+1)∧iv l k≤iv l (k+1)
 sz:∀k,k<l.length→(ia l k).natAbs<2^B∧(iv l k).natAbs<2^B
theorem jCb {l:List (Int×Int)}{lo hi:Int}:(rcs l lo hi).length=l.length:=List.length_map _
theorem jBP {l:List (Int×Int)}{lo hi:Int}{k:Nat}(h:k<l.length):tt (rcs l lo hi) k=Rat.divInt (ia l k) lo∧vv (rcs l lo hi) k=Rat.divInt (iv l k) hi:=by
 unfold rcs tt vv ia iv
 rw[List.getD_eq_getElem?_getD,List.getElem?_map,List.getD_eq_getElem?_getD,List.getElem?_eq_getElem h]
 exact⟨rfl,rfl⟩
theorem jOB {B:Nat}{l:List (Int×Int)}{lo hi:Int}(r:jJK B l) (h1:0<lo) (h2:0<hi):Ord (rcs l lo hi):=by
 have n:=r.ne
 refine⟨by rw[jCb];exact n,by rw[(jBP n).1,r.t0,Rat.zero_divInt],by rw[(jBP n).2];exact jGq h2 r.v0,fun k hk=>?_,fun k hk=>?_⟩
 ·rw[jCb] at hk
  rw[(jBP (show k<l.length by omega)).1,(jBP hk).1]
  exact jGc h1 (r.up k hk).1
 ·rw[jCb] at hk
  rw[(jBP (show k<l.length by omega)).2,(jBP hk).2]
  exact jK0 h2 (r.up k hk).2
theorem jQe {B:Nat}{l:List (Int×Int)}{lo hi:Int}(r:jJK B l) (h1:0<lo) (h2:0<hi) (b1:lo.natAbs<2^B) (b2:hi.natAbs<2^B):SzC B (rcs l lo hi):=fun k hk=>by
 rw[jCb] at hk
 rw[(jBP hk).1,(jBP hk).2]
 exact⟨jGL h1 (r.sz k hk).1 b1,jGL h2 (r.sz k hk).2 b2⟩
theorem jMh {l:List (Int×Int)}{p:Int×Int}{k:Nat}(h:k<l.length):ia (l++[p]) k=ia l k∧iv (l++[p]) k=iv l k:=by
 unfold ia iv
 rw[List.getD_eq_getElem?_getD,List.getElem?_append_left h,List.getD_eq_getElem?_getD]
 exact⟨rfl,rfl⟩
theorem jNL {l:List (Int×Int)}{p:Int×Int}:ia (l++[p]) l.length=p.1∧iv (l++[p]) l.length=p.2:=by
 unfold ia iv
 rw[List.getD_eq_getElem?_getD,List.getElem?_append_right (Nat.le_refl _),Nat.sub_self]
 exact⟨rfl,rfl⟩
theorem jJK.snoc {B:Nat}{l:List (Int×Int)}{a v:Int}(r:jJK B l) (hl:l.length<1000) (h1:ia l (l.length-1)<a) (h2:iv l (l.length-1)≤v) (z1:a.natAbs<2^B) (z2:v.natAbs<2^B):jJK B (l++[(a,v)]):=by
 have n:=r.ne
 have ll:(l++[(a,v)]).length=l.length+1:=by simp
 refine⟨by omega,by omega,by rw[(jMh n).1];exact r.t0,by rw[(jMh n).2];exact r.v0,fun k hk=>?_,fun k hk=>?_⟩
 ·by_cases e:k+1<l.length
  ·rw[(jMh e).1,(jMh e).2,(jMh (show k<l.length by omega)).1,(jMh (show k<l.length by omega)).2]
   exact r.up k e
  ·have e':k+1=l.length:=by omega
   rw[e',jNL.1,jNL.2,(jMh (show k<l.length by omega)).1,(jMh (show k<l.length by omega)).2,show k=l.length-1 by omega]
   exact⟨h1,h2⟩
 ·by_cases e:k<l.length
  ·rw[(jMh e).1,(jMh e).2];exact r.sz k e
  ·have e':k=l.length:=by omega
   rw[e',jNL.1,jNL.2];exact⟨z1,z2⟩
theorem jJK.one {B:Nat}{st:Int}(h:0≤st) (z:st.natAbs<2^B):jJK B [(0,st)]:=by
 refine⟨Nat.one_pos,by show 1≤1000;decide,rfl,h,fun k hk=>?_,fun k hk=>?_⟩
 ·have:k+1<1:=hk
  omega
 ·have:k=0:=by have:k<1:=hk;omega
  subst this
  exact⟨Nat.two_pow_pos B,z⟩
end CH
namespace CH
open PySem L2 L3
end CH
namespace CH
open PySem L2 L3
end CH
namespace CH
open PySem L2 L3
end CH
namespace CH
open PySem L2 L3
end CH
namespace CH
open PySem L2 L3
theorem jLl {cs:Cs}{k:Nat}(h:k<cs.length):tt cs k=cs[k].1∧vv cs k=cs[k].2:=by
 unfold tt vv
 rw[List.getD_eq_getElem?_getD,List.getElem?_eq_getElem h]
 exact⟨rfl,rfl⟩
end CH
namespace CH
open PySem L2 L3
end CH
namespace CH
open PySem L2 L3
end CH
namespace CH
open PySem L2 L3
theorem jP9 {cs:Cs}{m:Rat}:∀k,k<cs.length→∀i,i<(kp cs m k).length→∃j,j<cs.length∧tt (kp cs m k) i=tt cs j
 |0,hk=>fun i hi=>by
  have:i=0:=by simp[kp] at hi;omega
  subst this
  exact⟨0,hk,rfl⟩
 |k+1,hk=>by
  have ih:=jP9 (cs:=cs) (m:=m) k (by omega)
  by_cases e:slp cs m k=slp cs m (k+1)
  ·rw[jGx e];exact ih
  ·rw[jMc e]
   intro i hi
   by_cases c:i<(kp cs m k).length
   ·rw[jLZ c];exact ih i c
   ·rw[jCi] at hi
    rw[show i=(kp cs m k).length by omega,jPD]
    exact⟨k+1,hk,rfl⟩
theorem jRF {α:Type}{f:α→D}{xs:List α}{h:Nat}(hh:h≤xs.length):jGP (xs.map f) none (some (h:Int))=(xs.take h).map f:=by
 unfold jGP
 rw[HT.sIx_nat,List.length_map,Nat.min_eq_left hh]
 show((xs.map f).drop 0).take (h-0)=_
 rw[List.drop_zero,Nat.sub_zero,List.map_take]
theorem jQV {α:Type}{f:α→D}{xs:List α}{h:Nat}(hh:h≤xs.length):jGP (xs.map f) (some (h:Int)) none=(xs.drop h).map f:=by
 unfold jGP
 rw[HT.sIx_nat,List.length_map,Nat.min_eq_left hh]
 show((xs.map f).drop h).take (xs.length-h)=_
 rw[←List.map_drop,List.take_of_length_le (by rw[List.length_map,List.length_drop];exact Nat.le_refl _)]
end CH
namespace L3
open PySem PySem.Spec PyProof.Rows L2
section
variable {X:Cx}
end
end L3
namespace CH
open PySem L2 L3
end CH
namespace CH
open PySem L2 L3
structure LS (a b c:Nat)(cs:Cs)(m:Rat):Prop where
 tm:∀i,i<cs.length→Sz a (tt cs i)
 sl:∀t,0≤t→Sz b (sat cs m t)
 ic:∀t,0≤t→Sz c (val cs m t-sat cs m t*t)
theorem LS.va {a b c n:Nat}{cs:Cs}{m t:Rat}(z:LS a b c cs m) (t0:0≤t) (ht:Sz n t):Sz (b+n+c+1) (val cs m t):=by
 have h:=(z.ic t t0).add ((z.sl t t0).mul ht)
 rw[show val cs m t-sat cs m t*t+sat cs m t*t=val cs m t by grind] at h
 exact h.mono (by omega)
theorem LS.m {a b c:Nat}{cs:Cs}{m:Rat}(z:LS a b c cs m) (o:Ord cs):Sz b m:=by
 have n:=o.ne
 have t0:=jBz o.up (i:=0) (j:=cs.length-1) (by omega) (by omega)
 rw[o.t0] at t0
 have:=z.sl _ t0
 rw[jII n Rat.le_refl] at this
 exact this
theorem LS.szk {a b c n:Nat}{cs:Cs}{m:Rat}(z:LS a b c cs m) (o:Ord cs) (hl:cs.length≤100000) (h:a+b+c+1≤n):SzK n cs m:=by
 refine⟨hl,fun i hi=>?_,(z.m o).mono (by omega)⟩
 have t0:=jBz o.up (i:=0) (j:=i) (by omega) hi
 rw[o.t0] at t0
 have:=z.va t0 (z.tm i hi)
 rw[jEl o hi] at this
 exact⟨(z.tm i hi).mono (by omega),this.mono (by omega)⟩
theorem LS.kept {a b c:Nat}{cs:Cs}{m:Rat}(z:LS a b c cs m) (o:Ord cs):LS a b c (kp cs m (cs.length-1)) m:=by
 have n:=o.ne
 refine⟨fun i hi=>?_,fun t t0=>by rw[(jFr o t).2];exact z.sl t t0,fun t t0=>by rw[(jFr o t).1,(jFr o t).2];exact z.ic t t0⟩
 obtain⟨j,hj,e⟩:=jP9 (cs:=cs) (m:=m) _ (by omega) i hi
 rw[e];exact z.tm j hj
theorem jNz {f0 g0 m k a:Rat}(h:∀x,a≤x→f0+m*(x-a)≤g0+k*(x-a)):m≤k:=by
 refine Rat.not_lt.mp fun c=>?_
 have h0:=h a Rat.le_refl
 have d0:0<m-k:=by grind
 have q0:0≤(g0-f0)/(m-k):=by
  rw[Rat.div_def]
  exact Rat.mul_nonneg (by grind) (Rat.le_of_lt (Rat.inv_pos.mpr d0))
 have:=h (a+(g0-f0)/(m-k)+1) (by grind)
 have e:(m-k)*((g0-f0)/(m-k))=g0-f0:=by
  have:m-k≠0:=by grind
  grind
 generalize (g0-f0)/(m-k)=y at *
 grind
section
variable {op:Rat→Rat→Rat}{cs ds:Cs}{m k:Rat}{us:List Rat}
end
end CH
namespace CH
open PySem L2 L3
def Ln (p g:Nat)(C:Cs)(M:Rat):Prop:=∀i,i<C.length→Sz p (slp C M i)∧Sz g (vv C i-slp C M i*tt C i)
theorem Ln.ls {a p g:Nat}{C:Cs}{M:Rat}(n:Ln p g C M) (o:Ord C) (ht:∀i,i<C.length→Sz a (tt C i)):LS a p g C M:=by
 refine⟨ht,fun t t0=>?_,fun t t0=>?_⟩
 ·exact(n _ (jGS o t0).lt).1
 ·have on:=jGS o t0
  have ev:val C M t=vv C (plc C t C.length)+slp C M (plc C t C.length)*(t-tt C (plc C t C.length)):=rfl
  have es:sat C M t=slp C M (plc C t C.length):=rfl
  generalize plc C t C.length=j at on ev es
  have z:=(n j on.lt).2
  rw[ev,es]
  rw[show vv C j+slp C M j*(t-tt C j)-slp C M j*t=vv C j-slp C M j*tt C j by grind]
  exact z
section
variable {a b c a2 b2 c2:Nat}{cs ds:Cs}{m k:Rat}
end
theorem jMj {B p:Nat}{l:List (Int×Int)}{lo hi a b:Int}(r:jJK B l) (h1:0<lo) (h2:0<hi) (l1:lo.natAbs<2^p) (l2:hi.natAbs<2^p) (hb:0<b){n:Nat}(hn:B+p+1≤n) (a1:a.natAbs<2^n) (b1:b.natAbs<2^n){k:Nat}(hk:k<l.length):Sz n (slp (rcs l lo hi) (Rat.divInt a b) k):=by
 by_cases c:k+1<l.length
 ·have u:=r.up k c
  have z1:=r.sz k hk
  have z2:=r.sz (k+1) c
  rw[jCs (by rw[jCb];exact c),(jBP hk).1,(jBP hk).2,(jBP c).1,(jBP c).2]
  have e:(Rat.divInt (iv l (k+1)) hi-Rat.divInt (iv l k) hi)/(Rat.divInt (ia l (k+1)) lo-Rat.divInt (ia l k) lo)=Rat.divInt ((iv l (k+1)-iv l k)*lo) ((ia l (k+1)-ia l k)*hi):=by
   rw[Rat.divInt_eq_div,Rat.divInt_eq_div,Rat.divInt_eq_div,Rat.divInt_eq_div,Rat.divInt_eq_div,Rat.intCast_mul,Rat.intCast_mul,Rat.intCast_sub,Rat.intCast_sub]
   have n1:(lo:Rat)≠0:=fun z=>absurd (Rat.intCast_eq_zero_iff.mp z) (Int.ne_of_gt h1)
   have n2:(hi:Rat)≠0:=fun z=>absurd (Rat.intCast_eq_zero_iff.mp z) (Int.ne_of_gt h2)
   have n3:((ia l (k+1):Rat)-(ia l k:Rat))≠0:=fun z=>by
    rw[←Rat.intCast_sub] at z
    have:=Rat.intCast_eq_zero_iff.mp z
    omega
   generalize (ia l (k+1):Rat)=x1 at *
   generalize (ia l k:Rat)=x0 at *
   generalize (iv l (k+1):Rat)=y1 at *
   generalize (iv l k:Rat)=y0 at *
   generalize (lo:Rat)=pp at *
   generalize (hi:Rat)=q at *
   clear z1 z2 u a1 b1 l1 l2 h1 h2 hb
   have e:x1/pp-x0/pp=(x1-x0)/pp:=by grind
   have e2:y1/q-y0/q=(y1-y0)/q:=by grind
   rw[e,e2]
   generalize x1-x0=x at *
   generalize y1-y0=y at *
   grind
  rw[e]
  refine jGL (Int.mul_pos (by omega) h2) (jAw (jAh (jCF z2.2 z1.2) l1) (by omega)) (jAw (jAh (jCF z2.1 z1.1) l2) (by omega))
 ·rw[jBo (by rw[jCb];exact c)]
  exact jGL hb a1 b1
end CH
namespace L3
open PySem PySem.Spec PyProof.Rows L2
section
variable {X:L2.Cx}{e1 e2:Expr}{ti te:TE3}{pos:Pos}
end
end L3
namespace CH
open PySem L2 L3
section
variable {a b c a2 b2 c2:Nat}{cs ds:Cs}{m k:Rat}{ts:List Rat}
end
end CH
namespace CH
open PySem L2 L3
theorem LS.ln {a b c:Nat}{cs:Cs}{m:Rat}(z:LS a b c cs m) (o:Ord cs):Ln b c cs m:=fun i hi=>by
 have t0:0≤tt cs i:=by
  have:=jBz o.up (i:=0) (j:=i) (by omega) hi
  rw[o.t0] at this
  exact this
 have e:sat cs m (tt cs i)=slp cs m i:=by
  unfold sat
  rw[jGT o.up (k:=i) Rat.le_refl (fun h=>o.up i h) _ hi (Nat.le_refl _)]
 have z1:=z.sl _ t0
 have z2:=z.ic _ t0
 rw[e] at z1 z2
 rw[jEl o hi] at z2
 exact⟨z1,z2⟩
end CH
namespace CH
open PySem L2 L3
section
variable {h:Rat→Rat}{ts:List Rat}{S:Nat→Rat}{a b c g X:Nat}
end
end CH
namespace L3
open PySem PySem.Spec PyProof.Rows L2
def jLS (idx:List Nat)(ws:TX3)(tt:TT3)(te:TE3):TE3:=fun τ R=>ws τ fun xs=>∃J:Nat→List D→Prop,J 0 []∧(∀n ds,J n ds→ds.length≤n) ∧
 (∀(n:Nat)(x:D)(ds:List D),xs[n]? = some x→J n ds→tt (jKK τ idx x) fun b=>if b=true then te (jKK τ idx x) (fun s=>dd s.arg fun y=>J (n+1) (ds++[y])) else J (n+1) ds)∧xs.length≤100000∧∀ds,J xs.length ds→R (.l ds)
section
variable {X:L2.Cx}{x:Str}{px pos:Pos}{scope:Scope}{N:List Str}{idx:List Nat}{elt iter:Expr}{ifs:List Expr}{wi:TI}{ws:TX3}{tt:TT3}{te:TE3}
theorem jHX (hsrc:Src X wi ws){σ:St}{H:Hp}{Q:VK}(h:FE X (jLS idx ws tt te) σ H Q):jLx X.K idx wi (fun H₀=>FT (cxC X N scope H₀) tt) (fun H₀=>FE (cxC X N scope H₀) te) σ H Q:=by
 obtain⟨B,z,τ,R,r,ht,q⟩:=h
 refine hsrc B τ σ H z _ _ r ht fun J0 p1 xs e1 hP hJ=>fun D' hD hK=>?_
 obtain⟨J,j0,jl,hel,hsz,hR⟩:=hP
 have sz:(100000:Nat)<sizeLine:=by decide
 refine⟨fun i m ys H'=>m=xs.length-i∧i≤xs.length∧∃z',Ext p1 ⟨H',z'⟩∧z' D'=none∧∃ds,Iss X.K z' ys ds∧J i ds,⟨xs.length,rfl,Nat.zero_le _,p1.z,Ext.own e1.sub hD _,e1.sub.free hD,[],Iss.nil,j0⟩,?_⟩
 rintro i m ys H' hD' ⟨rfl,hi,z',hs,hzD,ds,hiss,hj⟩
 by_cases hlt:i<xs.length
 ·obtain⟨go,yl⟩:=(hJ H' hs.hh).1 i hlt
  refine .inr ⟨go,fun v H'' hy=>?_⟩
  obtain⟨rfl,d,hx,iv⟩:=yl v H'' hy
  have rr:Rep (cxC X N scope p1.h) p1 (jKK τ idx d) (some v::jCA σ idx) ⟨H'',z'⟩:=jHu r e1 hs (iv.mono hs.zz)
  have hys:ys.length≤i:=by
   rw[hiss.1]
   exact jl i ds hj
  have keep:∀q:HZ,Ext ⟨H'',z'⟩ q→q.z D'=none:=fun q e=>by
   cases y:q.z D' with
   |none=>rfl
   |some o =>
    rcases e.new D' o y with y|y
    ·exact nomatch (hzD.symm.trans y)
    ·exact nomatch (hD'.symm.trans y)
  refine⟨_,_,_,_,rr,hel i d ds hx hj,fun b q3 e3 hb=>?_⟩
  cases b with
  |true =>
   rw[if_pos rfl] at hb ⊢
   refine⟨_,_,_,_,rr.mono e3,hb,fun s v2 q4 e4 i4 f4 h4=>?_⟩
   obtain⟨y,hy',h4⟩:=jEe h4
   obtain⟨z5,e5,i5⟩:=jDE e4 i4 f4
   rw[hy'] at i5
   have e35:=e3.trans e5
   have hD4:q4.h D'=some (.lst ys):=e35.hh _ _ hD'
   have hz5:z5 D'=none:=keep _ e35
   refine⟨hD4,by omega,xs.length-(i+1),by omega,rfl,hlt,z5,?_,hz5,ds++[y],?_,h4⟩
   ·have e15:=hs.trans e35
    refine⟨fun b o hb'=>?_,e15.zz,fun b o hb'=>?_,e15.new⟩
    ·have hne:b≠D':=by rintro rfl;rw[hD] at hb';cases hb'
     show upd q4.h D' _ b=some o
     rw[jAn hne]
     exact e15.hh b o hb'
    ·have hne:b≠D':=by
      rintro rfl
      have hb2:z5 b=some o:=hb'
      rw[hz5] at hb2;cases hb2
     show upd q4.h D' _ b=some o
     rw[jAn hne]
     exact e15.sub b o hb'
   ·exact(hiss.mono e35.zz).snoc i5
  |false =>
   rw[if_neg Bool.false_ne_true] at hb ⊢
   exact⟨e3.hh _ _ hD',xs.length-(i+1),by omega,rfl,hlt,q3.z,hs.trans e3,keep _ e3,ds,hiss.mono e3.zz,hb⟩
 ·have ei:i=xs.length:=by omega
  subst ei
  refine .inl ⟨(hJ H' hs.hh).2 _ (Nat.le_refl _),q (.l ds) _ ⟨H',z'⟩ (e1.trans hs) ⟨D',ys,rfl,hD',hiss⟩ (fun xs a _ h2=>?_) (hR ds hj)⟩
  ·cases h2
   exact⟨e1.hh.free hD,hK,hzD⟩
theorem jK7 (O:jAP X x scope N idx)(hc:X.calm=true)(hi:PI X (.Name x px) iter wi)(hsrc:Src X wi ws)(hifs:∀cl C s₀ H₀ fp,jI4 (jAs X N scope cl C s₀ H₀ fp) ifs tt)(helt:∀cl C s₀ H₀ fp,PE3 (jAs X N scope cl C s₀ H₀ fp) elt te)
 (hs:∀x,foldedSetIterable iter X.env x=pure x:=by intro _;rfl):PE3 X (.ListComp elt [⟨.Name x px,iter,ifs,0⟩] scope pos) (jLS idx ws tt te) :=
 ⟨jBe (jLe O hc hi (jHE hifs) (jFi helt) hs) fun σ H Q h=>jHX hsrc h⟩
theorem jO0 {i:Nat}{y:Str}{py spos:Pos}(O:jAP X x scope N idx) (hc:X.calm=true) (hi:PI X (.Name x px) iter wi) (hsrc:Src X wi ws) (hifs:∀cl C s₀ H₀ fp,jI4 (jAs X N scope cl C s₀ H₀ fp) ifs tt) (helt:∀cl C s₀ H₀ fp,PE3 (jAs X N scope cl C s₀ H₀ fp) elt te)
 (hN:X.N.Nodup) (hy:X.N[i]? = some y) (hly:Loc X.env.scope y)
 (hsw:swapsWith (.ListComp elt [⟨.Name x px,iter,ifs,0⟩] scope pos) (some (.Name y py)) spos.line X.env=pure true:=by rfl) (hs:∀x,foldedSetIterable iter X.env x=pure x:=by intro _;rfl)
 (hfn:X.fn y=true∨X.env.scope.names.lookup y=some .local:=by first|exact .inl rfl|exact .inr rfl|assumption) (hp:jCT X i:=by first|exact jCn rfl|exact jCv rfl (by decide)|assumption) :
 PS3 X (.Assign [.Name y py] (.ListComp elt [⟨.Name x px,iter,ifs,0⟩] scope pos) spos) (jQD i (jLS idx ws tt te)) :=
 ⟨jBG (jGY O hc hi (jHE hifs) (jFi helt) hN hy hly hsw hs hfn) fun D2 σ H hh=>by obtain⟨B,z,τ,D3,r,ht,c⟩:=hh;exact jHX hsrc ⟨B,z,τ,_,r,ht,fun s v H' e i f h=>by
  cases s with
  |r _=>exact h.elim
  |d y=>exact c.nx _ _ _ (r.set e i f rfl hp) h
  |l ys=>exact c.nx _ _ _ (r.set e i f rfl hp) h⟩⟩
end
section
variable {X:L2.Cx}{pos:Pos}
end
end L3
namespace L3
open PySem PySem.Spec PyProof.Rows L2
abbrev SpM:=List D→List D→(List D→Prop)→Prop
noncomputable def jKs (a:Addr)(H:Hp):Hp:=fun b=>if b=a then none else H b
theorem jOP {a:Addr}{H:Hp}:jBb (jKs a H) H:=fun b o h=>by
 unfold jKs at h
 split at h
 ·cases h
 ·exact h
theorem jGr {a b:Addr}{H:Hp}(h:b≠a):jKs a H b=H b:=if_neg h
theorem jOD {a:Addr}{H:Hp}:jKs a H a=none:=if_pos rfl
def jKh (K:PySem.W.Frag)(sp:SpM):Sp:=fun vs H Q _=>∃(z:Hp)(a:Addr)(ws vs0:List V)(xs0 ds:List D)(R:List D→Prop),
 vs=.ref a::ws∧jBb z H∧z a=none∧K.lookup a=none∧H a=some (.lst vs0)∧Iss K z vs0 xs0∧Iss K z ws ds∧sp xs0 ds R ∧
 ∀(q:HZ)(vs1:List V)(xs1:List D),Ext ⟨jKs a H,z⟩ q→q.h a=some (.lst vs1)→q.z a=none→Iss K q.z vs1 xs1→R xs1→Q .non q.h
def jJ0 (X:Cx)(a:Addr):Cx:={ X with lent:=some (0,a) }
section
variable {X:Cx}{pins:List (Addr×Obj)}{σ:St}{H H':Hp}{s s':Shared}{a:Addr}
theorem jMV (I:Inv X pins σ H s):Inv (jJ0 X a) pins σ H s :=
 ⟨⟨I.ok.mod,I.ok.kind,I.ok.glob,I.ok.blt,I.ok.above,I.ok.inj,I.ok.has,I.ok.cab,I.ok.hd,I.ok.frames,I.ok.stk,I.ok.exf,I.ok.bs,I.ok.bsz,I.ok.noex,I.ok.exfs,I.ok.funs,I.ok.frf,I.ok.tb⟩,I.os,I.bare,I.base,I.loc,I.cell,I.free,I.freeC,I.pin,I.hok,I.len⟩
theorem jD2 (I:Inv (jJ0 X a) pins σ H s):Inv X pins σ H s :=
 ⟨⟨I.ok.mod,I.ok.kind,I.ok.glob,I.ok.blt,I.ok.above,I.ok.inj,I.ok.has,I.ok.cab,I.ok.hd,I.ok.frames,I.ok.stk,I.ok.exf,I.ok.bs,I.ok.bsz,I.ok.noex,I.ok.exfs,I.ok.funs,I.ok.frf,I.ok.tb⟩,I.os,I.bare,I.base,I.loc,I.cell,I.free,I.freeC,I.pin,I.hok,I.len⟩
theorem jKJ {D2:jJe}{f:Flow}(h:SP (jJ0 X a) pins D2 f s):SP X pins D2 f s:=by
 cases f with
 |next=>obtain⟨σ',H',I',q⟩:=h;exact⟨σ',H',jD2 I',q⟩
 |cont=>obtain⟨σ',H',I',q⟩:=h;exact⟨σ',H',jD2 I',q⟩
 |brk=>obtain⟨σ',H',I',q⟩:=h;exact⟨σ',H',jD2 I',q⟩
 |ret v=>obtain⟨x,σ',H',I',r,q⟩:=h;exact⟨x,σ',H',jD2 I',r,q⟩
theorem jMn {st:List Stmt}{t:TS}(h:PSs (jJ0 X a) st t):PSs X st t:=fun pins s σ H D I q =>
 thn (h pins s σ H D (jMV I) q) fun f s1 h1=>jKJ h1
theorem jMT {N:List Str}{ws vs0:List V}{xs0 ds:List D}{z:Hp}(hz:jBb z H) (hza:z a=none) (hk:X.K.lookup a=none) (hv:H a=some (.lst vs0)) (iv:Iss X.K z vs0 xs0) (iw:Iss X.K z ws ds) :
 Rep (jJ0 X a) ⟨jKs a H,z⟩ (jBO N (.l xs0::ds.map S.d)) (L2.start N (.ref a::ws)) ⟨H,z⟩:=by
 have len:(V.ref a::ws).length=(S.l xs0::ds.map S.d).length:=by simp[iw.1]
 have st:∀(i:Nat)(s:S),(jBO N (.l xs0::ds.map S.d))[i]? = some (some s)→(S.l xs0::ds.map S.d)[i]? = some s:=fun i s h=>jGd h
 have sg:∀(i:Nat)(v:V),(V.ref a::ws)[i]? = some v→(L2.start N (.ref a::ws))[i]? = some (some v):=fun i v h=>by
  have hi:=(List.getElem?_eq_some_iff.mp h).1
  unfold L2.start
  rw[List.getElem?_append_left (by simpa using hi),List.getElem?_map,h]
  rfl
 have onlyl:∀(i:Nat)(s:S),(S.l xs0::ds.map S.d)[i]? = some s→s.isL=true→i=0:=fun i s h hl=>by
  cases i with
  |zero=>rfl
  |succ i =>
   rw[List.getElem?_cons_succ,List.getElem?_map] at h
   cases e:ds[i]? with
   |none=>rw[e] at h;cases h
   |some d=>rw[e] at h;cases h;cases hl
 refine⟨by unfold L2.start jBO;simp[iw.1],⟨jOP,jBb.refl _,hz,fun _ _ e=>.inl e⟩,fun i s h=>?_,fun i xs c h1 h2=>?_,fun i j xs s c hij h1 h2 hs h3=>?_,(fun h=>by cases h),fun i c h=>?_⟩
 ·have h':=st i s h
  cases i with
  |zero =>
   cases h'
   exact⟨.ref a,sg 0 _ rfl,a,vs0,rfl,hv,iv⟩
  |succ i =>
   rw[List.getElem?_cons_succ,List.getElem?_map] at h'
   cases e:ds[i]? with
   |none=>rw[e] at h';cases h'
   |some d =>
    rw[e] at h'
    cases h'
    have hi:=(List.getElem?_eq_some_iff.mp e).1
    have hw:ws[i]? = some (ws[i]'(by rw[iw.1];exact hi)):=List.getElem?_eq_getElem (by rw[iw.1];exact hi)
    exact⟨_,sg (i+1) _ (by rw[List.getElem?_cons_succ];exact hw),iw.2 i _ d hw e⟩
 ·have e0:=onlyl i _ (st i _ h1) rfl
  subst e0
  have:=sg 0 (.ref a) rfl
  rw[h2] at this
  cases this
  exact⟨jOD,hk,hza⟩
 ·have e1:=onlyl i _ (st i _ h1) rfl
  have e2:=onlyl j _ (st j _ h2) hs
  exact absurd (e1.trans e2.symm) hij
 ·cases h
  exact sg 0 _ rfl
end
section
variable {P:Program}{w:World}{K:PySem.W.Frag}{mg:Str→Option Value}{base:Heap}
theorem fnM {x qual:Str}{st:Stmt}{f:Addr}{fd:FuncData}{N ps:List Str}{k:Nat}{sp:SpM}(F:Fun K x qual st f fd) (Sc:jAe N ps (jAc st)) (len:∀xs ds R,sp xs ds R→ds.length+1=ps.length)
 (hbody:∀(cdv:Value)(A:Around)(outer:List Env)(s:Shared)(H:Hp)(E:XK)(a:Addr)(xs ds:List D)(R:List D→Prop),jDO k (A.deeper (envOfC qual (jAc st) s.heap.objs.size f cdv))→sp xs ds R →
  ∃t,jDx (jJ0 (jH8 CX0 P w K mg base N qual (jAc st) f cdv A outer s H E).nox a) (jBD st) t∧t { nx:=fun τ=>∃ys,τ[0]? = some (some (.l ys))∧R ys,rt:=fun _=>False } (jBO N (.l xs::ds.map S.d))):jAz P w K mg base CX0 (k+1) f fd ps (jKh K sp):=by
 refine F.ok Sc (fun vs H Q E hh=>by obtain⟨z,a,ws,vs0,xs0,ds,R,rfl,_,_,_,_,_,iw,h3,_⟩:=hh;rw[List.length_cons,iw.1];exact len _ _ _ h3) fun cdv A outer s H vs Q E hr hh=>?_
 obtain⟨z,a,ws,vs0,xs0,ds,R,rfl,hz,hza,hk,hv,iv,iw,h3,q⟩:=hh
 obtain⟨t,ht,hq⟩:=hbody cdv A outer s H E a xs0 ds R hr h3
 refine⟨_,jMn ht.out,⟨jKs a H,z⟩,z,jBO N (.l xs0::ds.map S.d),_,jMT hz hza hk hv iv iw,hq,⟨fun τ σ p r h=>?_,fun _ _ _ _ z=>z.elim,fun _ _ _ _ z=>z.elim,fun s v p e i f h=>h.elim⟩⟩
 obtain⟨ys,hy,hR⟩:=h
 have pn:=r.pin 0 a rfl
 obtain⟨vs1,e1,e2⟩:=r.own_list hy pn
 exact q p vs1 ys r.ext e1 (r.own 0 ys a hy pn).2.2 e2 hR
end
structure jRg (P:Program)(w:World)(K:PySem.W.Frag)(mg:Str→Option Value)(base:Heap)(k:Nat)(x:Str)(ps:List Str)(sp:SpM):Prop where
 ex:∃f fd,jAz P w K mg base CX0 k f fd ps (jKh K sp)∧mg x=some (.ref f)∧PySem.W.keepIn K (.ref f)=true∧L2.Binds K fd ps []
theorem mkM {P:Program}{w:World}{K:PySem.W.Frag}{mg:Str→Option Value}{base h:Heap}(X:K.In h) (G:h.Ns mainGlobals mg){n:Str}{st:Stmt}(r:Rw K n st){k:Nat}{ps:List Str}{sp:SpM}(ok:∀{f:Addr}{fd:FuncData},L2.Fun K n n st f fd→rA K n f→jAz P w K mg base CX0 k f fd ps (jKh K sp))
 (hb:Bnd st n ps:=by(intro _ _ _ _ _ _ us hl;first|(obtain⟨x0,rfl⟩:=jPn hl;rfl)|(obtain⟨x0,x1,rfl⟩:=jOl hl;rfl)|(obtain⟨x0,x1,x2,rfl⟩:=jOe hl;rfl)|(obtain⟨x0,x1,x2,x3,rfl⟩:=jPg hl;rfl))):jRg P w K mg base k n ps sp:=by
 obtain⟨a,l,c,k⟩:=r
 have F:=jI7 (st:=st) l c k
 exact⟨⟨_,_,ok F a,PySem.W.mg_of X G a,k,F.binds hb⟩⟩
section
variable {X:Cx}{e:Expr}{es:List Expr}{tr:TA3}
theorem jOd {K:PySem.W.Frag}{H:Hp}{a c:Addr}{vs:List V}(h:SqL K H c vs) (n:c≠a):SqL K (jKs a H) c vs:=by
 rcases h with (h|⟨o,h⟩)|h
 ·exact .inl (.inl (by rw[jGr n];exact h))
 ·exact .inl (.inr ⟨o,by rw[jGr n];exact h⟩)
 ·exact .inr h
theorem Rep.grown {B p q:HZ}{τ:Tau}{σ:St}{j:Nat}{a:Addr}{xs xs1:List D}{vs1:List V}(r:Rep X B τ σ p) (hj:τ[j]? = some (some (.l xs))) (hσ:σ[j]? = some (some (.ref a))) (e:Ext ⟨jKs a p.h,p.z⟩ q) (hq:q.h a=some (.lst vs1)) (hz:q.z a=none) (hi:Iss X.K q.z vs1 xs1) :
 Rep X B (τ.set j (some (.l xs1))) σ q:=by
 obtain⟨o1,o2,o3⟩:=r.own j xs a hj hσ
 have up:∀b o,B.h b=some o→jKs a p.h b=some o:=fun b o h=>by
  have:b≠a:=fun z=>by rw[z,o1] at h;cases h
  rw[jGr this]
  exact r.ext.hh b o h
 have apart:∀(i:Nat)(s:S)(c:Addr),i≠j→τ[i]? = some (some s)→s.isL=true→σ[i]? = some (some (.ref c))→c≠a:=fun i s c hn h1 h2 h3 z=>by
  rw[z] at h3
  exact r.sep j i xs s a (fun z=>hn z.symm) hj h1 h2 hσ h3
 refine⟨by simp[r.len],⟨fun b o h=>e.hh b o (up b o h),r.ext.zz.trans e.zz,e.sub,fun b o h=>?_⟩,fun i s h=>?_,fun i ys c h1 h2=>?_,fun i k ys s c hik h1 h2 hs h3=>?_,r.top,r.pin⟩
 ·rcases e.new b o h with x|x
  ·exact r.ext.new b o x
  ·right
   cases y:B.h b with
   |none=>rfl
   |some o' =>
    have x':jKs a p.h b=none:=x
    rw[up b o' y] at x'
    cases x'
 ·rcases jAD h with⟨rfl,rfl⟩|⟨hn,h'⟩
  ·exact⟨.ref a,hσ,a,vs1,rfl,hq,hi⟩
  ·obtain⟨v,h1,h2⟩:=r.val i s h'
   refine⟨v,h1,?_⟩
   cases s with
   |d x=>exact Is.mono e.zz h2
   |l zs =>
    obtain⟨c,us,rfl,q1,q2⟩:=h2
    exact⟨c,us,rfl,e.hh c _ (by show jKs a p.h c=_;rw[jGr (apart i _ c hn h' rfl h1)];exact q1),q2.mono e.zz⟩
   |r zs =>
    obtain⟨c,us,rfl,q1,q2⟩:=h2
    exact⟨c,us,rfl,e.hh.seq (jOd q1 (apart i _ c hn h' rfl h1)),q2.mono e.zz⟩
 ·rcases jAD h1 with⟨rfl,e1⟩|⟨hn,h1'⟩
  ·rw[hσ] at h2
   cases h2
   exact⟨o1,o2,hz⟩
  ·obtain⟨w1,w2,w3⟩:=r.own i ys c h1' h2
   refine⟨w1,w2,?_⟩
   obtain⟨us,y1,_⟩:=r.own_list h1' h2
   cases y:q.z c with
   |none=>rfl
   |some o =>
    rcases e.new c o y with x|x
    ·have x':p.z c=some o:=x
     rw[w3] at x';cases x'
    ·have x':jKs a p.h c=none:=x
     rw[jGr (apart i _ c hn h1' rfl h2),y1] at x'
     cases x'
 ·rcases jAD h1 with⟨rfl,e1⟩|⟨hn,h1'⟩
  ·rcases jAD h2 with⟨e3,_⟩|⟨_,h2'⟩
   ·exact absurd e3.symm hik
   ·exact r.sep i k xs s c hik hj h2' hs h3
  ·rcases jAD h2 with⟨rfl,e4⟩|⟨_,h2'⟩
   ·exact r.sep i k ys (.l xs) c hik h1' hj rfl h3
   ·exact r.sep i k ys s c hik h1' h2' hs h3
def jNK (j:Nat)(sp:SpM)(tr:TA3):TS3:=fun D3 τ=>match τ[j]? with
 |some (some (.l xs))=>tr τ fun ss=>match jN4 ss with
  |some ds=>sp xs ds (fun ys=>D3.nx (τ.set j (some (.l ys))))
  |none=>False
 |_=>False
theorem jGw {k j:Nat}{x y:Str}{ps:List Str}{sp:SpM}{p py pos pa:Pos}(c:jRg X.prog X.w X.K X.mg X.base k x ps sp) (hr:jDO k X.A) (hg:Gl X x) (hv:PE X (.Name y py) (jJS j)) (ha:PA3 X (e::es) tr)
 (hdb:(x==("__debug__":Str))=false:=by decide) (he:starEach (.Name y py::e::es) X.env=(false,eval (.Name y py) X.env)::starEach (e::es) X.env:=by exact jBR rfl) (hpl:(backTo pos (starEach (e::es) X.env)).any (·.1)=false:=by exact jCD rfl)
 (hs:swapsWith (.Call (.Name x p) (.Name y py::e::es) [] pos) none pa.line X.env=pure false:=by rfl) :
 PS3 X (.Expr (.Call (.Name x p) (.Name y py::e::es) [] pos) pa) (jNK j sp tr):=by
 refine⟨?_⟩
 obtain⟨f,fd,F,hm,hk,hb⟩:=c.ex
 refine jBG (jCc (jKZ F hr hg hm hk hb .nil jRS (jA2 hv ha.out he) hdb he hpl) hs) fun D2 σ H hh=>?_
 obtain⟨B,z,τ,D3,r,ht,ct⟩:=hh
 unfold jNK at ht
 split at ht
 ·rename_i xs hx
  obtain⟨v,h1,a,vs,rfl,h3,h4⟩:=r.val j _ hx
  refine⟨.ref a,h1,B,_,τ,_,r,ht,fun ss ws q1 e1 i1 h2=>?_⟩
  split at h2
  ·rename_i ds hd
   rw[jFO hd] at i1
   have iw:=jHe i1
   have r1:=r.mono e1
   obtain⟨o1,o2,o3⟩:=r1.own j xs a hx h1
   obtain⟨vs',hv',iv'⟩:=r1.own_list hx h1
   show jKh X.K sp ((.ref a::ws)++[]) q1.h _ E0
   rw[List.append_nil]
   exact⟨q1.z,a,ws,vs',xs,ds,_,rfl,e1.sub,o3,o2,hv',iv',iw,h2,fun q vs1 xs1 e2 g1 g2 g3 hR=>ct.nx _ _ _ (r1.grown hx h1 e2 g1 g2 g3) hR⟩
  ·exact h2.elim
 ·exact ht.elim
end
end L3
namespace L3
open PySem PySem.Spec PyProof.Rows L2
section
variable {X:Cx}{e:Expr}
def jSI (j:Nat):TT3:=fun τ R=>match τ[j]? with
 |some (some (.l xs))=>R (!xs.isEmpty)
 |some (some (.r xs))=>R (!xs.isEmpty)
 |_=>False
theorem jId {K:PySem.W.Frag}{H:Hp}{vs:List V}{xs:List D}(h:Iss K H vs xs):(!vs.isEmpty)=!xs.isEmpty:=by
 have:=h.1
 cases vs<;>cases xs<;>first|rfl|(simp at this)
theorem jRv {j:Nat}(h:PE X e (jJS j)) (he:∀whole,isTrue e X.env whole=(do let v ←whole;standAt e.pos;holding [v] (truthy v)):=by intro _;rfl):PT3 X e (jSI j):=⟨jJI (jMy h he) fun σ H Q hh=>by
 obtain⟨B,z,τ,R,r,ht,q⟩:=hh
 unfold jSI at ht
 split at ht
 ·rename_i xs hs
  obtain⟨v,h1,a,vs,rfl,h3,h4⟩:=r.val j _ hs
  exact⟨.ref a,h1,!vs.isEmpty,.inl ⟨vs,SqL.of h3,rfl⟩,q _ ⟨H,z⟩ (Ext.refl r.ext.sub) (by rw[jId h4];exact ht)⟩
 ·rename_i xs hs
  obtain⟨v,h1,a,vs,rfl,h3,h4⟩:=r.val j _ hs
  exact⟨.ref a,h1,!vs.isEmpty,.inl ⟨vs,h3,rfl⟩,q _ ⟨H,z⟩ (Ext.refl r.ext.sub) (by rw[jId h4];exact ht)⟩
 ·exact ht.elim⟩
end
end L3
namespace L3
open PySem PySem.Spec PyProof.Rows
structure jLu (P:Program)(w:World)(A:Around)(i l:Addr)(us:Array Value)(st:Nat→Heap→Prop):Prop where
 item:∀(t:Shared)(k:Nat)(u:Value)(Q:Value→Shared→Prop)(E:Value→Shared→Prop),st k t.heap→us[k]? = some u→(∀h1,st (k+1) h1→Heap.SameBut i t.heap h1→Q u { t with heap:=h1 })→wpAny (model P w) A (Builtin.SmallTypes.nextOf (.ref i)) Q E t
 done:∀(t:Shared)(k:Nat)(Q:Value→Shared→Prop)(E:Value→Shared→Prop),st k t.heap→us[k]? = none→(∀h1 x,Heap.ExtBut i t.heap h1→(∃o,h1.get? x=some o∧o.cls=.type "StopIteration")→E (.ref x) { t with heap:=h1 })→wpAny (model P w) A (Builtin.SmallTypes.nextOf (.ref i)) Q E t
 keep:∀(k:Nat)(h h1:Heap),st k h→(∀b o,b=i∨b=l→h.get? b=some o→h1.get? b=some o)→st k h1
def stL (i l:Addr)(us:Array Value)(k:Nat)(h:Heap):Prop:=h.IsListIter i l k∧h.IsList l us
def stT (i l:Addr)(us:Array Value)(k:Nat)(h:Heap):Prop:=h.IsTupleIter i l k∧h.IsTuple l us
section
variable {P:Program}{w:World}{A:Around}
theorem jMI (hd:A.handled=none){i l:Addr}(ne:l≠i) (us:Array Value):jLu P w A i l us (stL i l us) where
 item:=fun t k u Q E s1 hu q=>wpAny_nextOf_list_item s1.1 s1.2 hu fun h1 a b=>q h1 ⟨a,s1.2.extBut b.extBut ne⟩ b
 done:=fun t k Q E s1 hu q=>wpAny_nextOf_list_end hd s1.1 s1.2 hu q
 keep:=fun k h h1 s1 e=>⟨s1.1.at fun o z=>e i o (.inl rfl) z,s1.2.at fun o z=>e l o (.inr rfl) z⟩
theorem jL3 (hd:A.handled=none){i l:Addr}(ne:l≠i) (us:Array Value):jLu P w A i l us (stT i l us) where
 item:=fun t k u Q E s1 hu q=>by
  obtain⟨⟨ob,g1,g2,g3⟩,oT,f1,f2,nT,f3⟩:=id s1
  have ty:=s1.1.typeIs (s:=t)
  refine wpAny_bind (wpAny_callSpecial?_slot (name:=Str.ofString "__next__") ty F.slot_tuple_iterator_next (wpAny_call_entry F.slot_tuple_iterator_next ty F.entry_tuple_iterator_next ?_ (F.args_tuple_iterator_next_1 _)))
  refine(wpAny_bind (wpAny_field g1 g3 (x:=Value.ref l) rfl ?_):wpAny _ _ (field (Value.ref i) 0 >>= _) _ _ t)
  refine(?_:wpAny _ _ (if (Value.ref l==Value.none)=true then _ else _) _ _ t)
  rw[if_neg (by intro z;cases z)]
  refine(wpAny_bind (wpAny_field g1 g3 (x:=Value.int k 0) rfl ?_):wpAny _ _ (field (Value.ref i) 1 >>= _) _ _ t)
  refine(wpAny_bind (wpAny_seqItems f1 f3 ?_):wpAny _ _ (seqItems? (Value.ref l) >>= _) _ _ t)
  simp only[Int.toNat_natCast,hu]
  refine wpAny_bind (wpAny_setField g1 g3 (by simp) (wpAny_pure ⟨u,rfl,wpAny_pure (q _ ⟨?_,s1.2.extBut (Heap.SameBut.update ..).extBut ne⟩ (Heap.SameBut.update ..))⟩))
  refine⟨_,Heap.get?_update_self _ g1 (Obj.isFreed_of_fields (Obj.data_mapFields g3 _)),(Obj.cls_mapFields ..).trans g2,?_⟩
  rw[Obj.data_mapFields g3]
  simp[rawInt]
 done:=fun t k Q E s1 hu q=>by
  obtain⟨⟨ob,g1,g2,g3⟩,oT,f1,f2,nT,f3⟩:=id s1
  have ty:=s1.1.typeIs (s:=t)
  refine wpAny_bind (wpAny_callSpecial?_slot (name:=Str.ofString "__next__") ty F.slot_tuple_iterator_next (wpAny_call_entry F.slot_tuple_iterator_next ty F.entry_tuple_iterator_next ?_ (F.args_tuple_iterator_next_1 _)))
  refine(wpAny_bind (wpAny_field g1 g3 (x:=Value.ref l) rfl ?_):wpAny _ _ (field (Value.ref i) 0 >>= _) _ _ t)
  refine(?_:wpAny _ _ (if (Value.ref l==Value.none)=true then _ else _) _ _ t)
  rw[if_neg (by intro z;cases z)]
  refine(wpAny_bind (wpAny_field g1 g3 (x:=Value.int k 0) rfl ?_):wpAny _ _ (field (Value.ref i) 1 >>= _) _ _ t)
  refine(wpAny_bind (wpAny_seqItems f1 f3 ?_):wpAny _ _ (seqItems? (Value.ref l) >>= _) _ _ t)
  simp only[Int.toNat_natCast,hu]
  refine wpAny_bind (wpAny_rule (wpAny_bind (wpAny_setField g1 g3 (by simp) ?_)))
  refine(wpAny_bind ?_:wpAny _ _ (newExc (.type "StopIteration") [] >>= _) _ _ _)
  simp only[newExc,newTuple]
  refine wpAny_bind (wpAny_newObj_type ?_ (by size_fits))
  refine wpAny_bind (m:=firstArgMember _ _) (wpAny_of_eq (a:=Value.none) (by first|rfl|(unfold firstArgMember;rfl)) ?_)
  refine wpAny_newObj_type ?_ (by size_fits)
  unfold raiseNew
  refine wpAny_bind (wpAny_handled ?_)
  have hd1:A.in1.handled=none:=hd
  rw[hd1]
  exact wpAny_bind (wpAny_pure (wpAny_throw (q _ _ (((Heap.SameBut.update ..).extBut.push _).push _) ⟨_,Heap.get?_push_size _ rfl,rfl⟩)))
 keep:=fun k h h1 s1 e=>by
  obtain⟨⟨ob,g1,g2⟩,oT,f1,f2⟩:=s1
  exact⟨⟨ob,e i ob (.inl rfl) g1,g2⟩,oT,e l oT (.inr rfl) f1,f2⟩
structure ZAp (z TI TO i1 i2 l1 l2:Addr):Prop where
 a1:TI≠z∧TO≠z∧i1≠z∧i2≠z∧l1≠z∧l2≠z
 a2:TI≠TO∧i1≠TO∧i2≠TO∧l1≠TO∧l2≠TO
 a3:TI≠i1∧i2≠i1∧l2≠i1∧TI≠i2∧l1≠i2
 a4:l1≠i1∧l2≠i2
variable {z TI TO i1 i2 l1 l2:Addr}{us1 us2:Array Value}{st1 st2:Nat→Heap→Prop}{s:Shared}{E:Value→Shared→Prop}
theorem jNl (D:ZAp z TI TO i1 i2 l1 l2)(S1:jLu P w A i1 l1 us1 st1)(S2:jLu P w A i2 l2 us2 st2){k:Nat}{x y a b:Value}{Q:Value→Shared→Prop}(Hz:IsZip s.heap z TI TO .none) (Ht:IsPair s.heap TI (.ref i1) (.ref i2)) (Ho:IsPair s.heap TO a b)
 (c1:st1 k s.heap) (c2:st2 k s.heap) (hx:us1[k]? = some x) (hy:us2[k]? = some y)
 (fin:∀h',IsZip h' z TI TO (rawInt s.heap.objs.size)→IsPair h' TO x y→st1 (k+1) h'→st2 (k+1) h'→IsPair h' s.heap.objs.size x y→(∀c o,c≠z→c≠TO→c≠i1→c≠i2→s.heap.get? c=some o→h'.get? c=some o)→Q (.ref s.heap.objs.size) { s with heap:=h' }) :
 wpAny (model P w) A (Builtin.«zip.__next__» ⟨[.ref z],[]⟩) (fun f s'=>∃v,f=.done (.ret v)∧Q v s') E s:=by
 obtain⟨⟨d1,d2,d3,d4,d5,d6⟩,⟨e1,e2,e3,e4,e5⟩,⟨f1,f2,f3,f4,f5⟩,_⟩:=D
 refine(wpAny_bind (wpAny_field Hz rfl (x:=Value.bool false) rfl ?_):wpAny _ _ (field (Value.ref z) 2 >>= _) _ _ _)
 refine(wpAny_bind (wpAny_field Hz rfl (x:=Value.ref TI) rfl ?_):wpAny _ _ (field (Value.ref z) 3 >>= _) _ _ _)
 refine wpAny_bind (wpAny_seqItems Ht rfl ?_)
 refine(wpAny_bind ?_:wpAny _ _ (Builtin.SmallTypes.ownedTupleIsFree (Value.ref z) >>= _) _ _ _)
 refine wpAny_bind (wpAny_field Hz rfl (x:=Value.none) rfl (wpAny_pure ?_))
 simp only[if_true]
 refine wpAny_bind (wpAny_rule (wpAny_bind (wpAny_field Hz rfl (x:=Value.ref TO) rfl (wpAny_bind (wpAny_setField_rec Hz (by simp) fun g1 Hz1 m1=>?_)))))
 have Hz1:IsZip g1 z TI TO .ellipsis:=Hz1
 refine wpAny_bind ?_
 simp only[List.zipIdx_cons,List.zipIdx_nil,List.forIn_cons,List.forIn_nil]
 have c1a:st1 k g1:=S1.keep k _ _ c1 fun b o hb e=>by
  rcases hb with rfl|rfl
  ·exact m1.extBut _ _ d3 e
  ·exact m1.extBut _ _ d5 e
 refine wpAny_bind (wpAny_bind (wpAny_onRaise (?_:wpAny _ _ (Builtin.SmallTypes.nextOf (Value.ref i1) >>= _) _ _ _)))
 refine wpAny_bind (S1.item _ k x _ _ c1a hx fun g2 c1b m2=>wpAny_pure ?_)
 have Ho2:IsPair g2 TO a b:=m2.extBut _ _ (Ne.symm e2) (m1.extBut _ _ d2 Ho)
 refine wpAny_bind (wpAny_seqItems Ho2 rfl (wpAny_bind (wpAny_updateSeq_pair Ho2 fun g3 Ho3 m3=>wpAny_bind (wpAny_letGo (wpAny_pure ?_)))))
 have Ho3:IsPair g3 TO x b:=Ho3
 have c2a:st2 k g3:=S2.keep k _ _ c2 fun b o hb e=>by
  rcases hb with rfl|rfl
  ·exact m3.extBut _ _ e3 (m2.extBut _ _ f2 (m1.extBut _ _ d4 e))
  ·exact m3.extBut _ _ e5 (m2.extBut _ _ f3 (m1.extBut _ _ d6 e))
 refine wpAny_bind (wpAny_bind (wpAny_onRaise (?_:wpAny _ _ (Builtin.SmallTypes.nextOf (Value.ref i2) >>= _) _ _ _)))
 refine wpAny_bind (S2.item _ k y _ _ c2a hy fun g4 c2b m4=>wpAny_pure ?_)
 have Ho4:IsPair g4 TO x b:=m4.extBut _ _ (Ne.symm e3) Ho3
 refine wpAny_bind (wpAny_seqItems Ho4 rfl (wpAny_bind (wpAny_updateSeq_pair Ho4 fun g5 Ho5 m5=>wpAny_bind (wpAny_letGo (wpAny_pure (wpAny_pure ?_))))))
 have Ho5:IsPair g5 TO x y:=Ho5
 have sz:g5.objs.size=s.heap.objs.size:=by rw[m5.1,m4.1,m3.1,m2.1,m1.1]
 have Hz5:IsZip g5 z TI TO .ellipsis:=m5.extBut _ _ (Ne.symm d2) (m4.extBut _ _ (Ne.symm d4) (m3.extBut _ _ (Ne.symm d2) (m2.extBut _ _ (Ne.symm d3) Hz1)))
 have old:∀c o,c≠z→c≠TO→c≠i1→c≠i2→s.heap.get? c=some o→g5.get? c=some o:=fun c o n1 n2 n3 n4 e =>
  m5.extBut _ _ n2 (m4.extBut _ _ n4 (m3.extBut _ _ n2 (m2.extBut _ _ n3 (m1.extBut _ _ n1 e))))
 have at5:∀b o,b≠TO→b≠i2→g2.get? b=some o→g5.get? b=some o:=fun b o n1 n2 e=>m5.extBut _ _ n1 (m4.extBut _ _ n2 (m3.extBut _ _ n1 e))
 have lz:z<g5.objs.size:=Heap.lt_size Hz5
 refine wpAny_bind (wpAny_seqItems Ho5 rfl (wpAny_bind (wpAny_newTuple ?_)))
 refine(wpAny_bind ?_:wpAny _ _ (Builtin.SmallTypes.ownedTupleHandOut (Value.ref z) (Value.ref g5.objs.size) >>= _) _ _ _)
 have Hz6:IsZip (g5.push { cls:=.type "tuple",data:=.seq #[x,y] }) z TI TO .ellipsis:=Heap.get?_push_of_some _ Hz5
 refine wpAny_bind (wpAny_setField_rec Hz6 (by simp) fun g7 Hz7 m7=>?_)
 have Hz7:IsZip g7 z TI TO (rawInt g5.objs.size):=Hz7
 refine wpAny_setField_rec Hz7 (by simp) fun g8 Hz8 m8=>?_
 have Hz8:IsZip g8 z TI TO (rawInt g5.objs.size):=Hz8
 have up:∀c o,c≠z→g5.get? c=some o→g8.get? c=some o:=fun c o n e=>m8.extBut _ _ n (m7.extBut _ _ n (Heap.get?_push_of_some _ e))
 have new8:IsPair g8 g5.objs.size x y:=m8.extBut _ _ (Nat.ne_of_gt lz) (m7.extBut _ _ (Nat.ne_of_gt lz) (Heap.get?_push_size _ rfl))
 rw[sz] at Hz8 new8
 have k1:st1 (k+1) g8:=S1.keep _ _ _ c1b fun b o hb e=>by
  rcases hb with rfl|rfl
  ·exact up _ _ d3 (at5 _ _ e2 (Ne.symm f2) e)
  ·exact up _ _ d5 (at5 _ _ e4 f5 e)
 have k2:st2 (k+1) g8:=S2.keep _ _ _ c2b fun b o hb e=>by
  rcases hb with rfl|rfl
  ·exact up _ _ d4 (m5.extBut _ _ e3 e)
  ·exact up _ _ d6 (m5.extBut _ _ e5 e)
 refine wpAny_pure ⟨_,rfl,(?_:Q (.ref g5.objs.size) _)⟩
 rw[sz]
 exact fin g8 Hz8 (up _ _ d2 Ho5) k1 k2 new8 fun c o n1 n2 n3 n4 e=>up c o n1 (old c o n1 n2 n3 n4 e)
theorem jM8 (hd:A.handled=none)(D:ZAp z TI TO i1 i2 l1 l2)(S1:jLu P w A i1 l1 us1 st1)(S2:jLu P w A i2 l2 us2 st2){k:Nat}{a b:Value}{Q:Fin→Shared→Prop}(Hz:IsZip s.heap z TI TO .none) (Ht:IsPair s.heap TI (.ref i1) (.ref i2)) (Ho:IsPair s.heap TO a b)
 (c1:st1 k s.heap) (c2:st2 k s.heap) (he:us1[k]? = none∨us2[k]? = none)
 (fin:∀h' e,(∀c o,c≠z→c≠TO→c≠i1→c≠i2→s.heap.get? c=some o→h'.get? c=some o)→(∃o,h'.get? e=some o∧o.cls=.type "StopIteration")→E (.ref e) { s with heap:=h' }) :
 wpAny (model P w) A (Builtin.«zip.__next__» ⟨[.ref z],[]⟩) Q E s:=by
 obtain⟨⟨d1,d2,d3,d4,d5,d6⟩,⟨e1,e2,e3,e4,e5⟩,⟨f1,f2,f3,f4,f5⟩,_⟩:=D
 refine(wpAny_bind (wpAny_field Hz rfl (x:=Value.bool false) rfl ?_):wpAny _ _ (field (Value.ref z) 2 >>= _) _ _ _)
 refine(wpAny_bind (wpAny_field Hz rfl (x:=Value.ref TI) rfl ?_):wpAny _ _ (field (Value.ref z) 3 >>= _) _ _ _)
 refine wpAny_bind (wpAny_seqItems Ht rfl ?_)
 refine(wpAny_bind ?_:wpAny _ _ (Builtin.SmallTypes.ownedTupleIsFree (Value.ref z) >>= _) _ _ _)
 refine wpAny_bind (wpAny_field Hz rfl (x:=Value.none) rfl (wpAny_pure ?_))
 simp only[if_true]
 refine wpAny_bind (wpAny_rule (wpAny_bind (wpAny_field Hz rfl (x:=Value.ref TO) rfl (wpAny_bind (wpAny_setField_rec Hz (by simp) fun g1 Hz1 m1=>?_)))))
 have Hz1:IsZip g1 z TI TO .ellipsis:=Hz1
 refine wpAny_bind ?_
 simp only[List.zipIdx_cons,List.zipIdx_nil,List.forIn_cons,List.forIn_nil]
 have c1a:st1 k g1:=S1.keep k _ _ c1 fun b o hb e=>by
  rcases hb with rfl|rfl
  ·exact m1.extBut _ _ d3 e
  ·exact m1.extBut _ _ d5 e
 refine wpAny_bind (wpAny_bind (wpAny_onRaise (?_:wpAny _ _ (Builtin.SmallTypes.nextOf (Value.ref i1) >>= _) _ _ _)))
 have out:∀{g:Heap}{x:Addr}(n:IsZip g z TI TO .ellipsis) (g':Heap) (m:Heap.SameBut z g g'),(∃o,g.get? x=some o∧o.cls=.type "StopIteration")→∃o,g'.get? x=some o∧o.cls=.type "StopIteration":=fun {g x} n g' m ⟨o,h1,h2⟩ =>
  ⟨o,m.extBut _ _ (fun y=>by subst y;rw[n] at h1;cases h1;simp at h2) h1,h2⟩
 cases hx:us1[k]? with
 |none =>
  refine wpAny_bind (S1.done _ k _ _ c1a hx fun g2 x m2 hs=>?_)
  have Hz2:IsZip g2 z TI TO .ellipsis:=m2 _ _ (Ne.symm d3) Hz1
  exact wpAny_setField_rec Hz2 (by simp) fun g3 _ m3=>fin g3 x (fun c o n1 _ n3 _ e=>m3.extBut _ _ n1 (m2 _ _ n3 (m1.extBut _ _ n1 e))) (out Hz2 g3 m3 hs)
 |some x =>
  have hy:us2[k]? = none:=he.resolve_left (by rw[hx];simp)
  refine wpAny_bind (S1.item _ k x _ _ c1a hx fun g2 c1b m2=>wpAny_pure ?_)
  have Ho2:IsPair g2 TO a b:=m2.extBut _ _ (Ne.symm e2) (m1.extBut _ _ d2 Ho)
  refine wpAny_bind (wpAny_seqItems Ho2 rfl (wpAny_bind (wpAny_updateSeq_pair Ho2 fun g3 Ho3 m3=>wpAny_bind (wpAny_letGo (wpAny_pure ?_)))))
  have c2a:st2 k g3:=S2.keep k _ _ c2 fun b o hb e=>by
   rcases hb with rfl|rfl
   ·exact m3.extBut _ _ e3 (m2.extBut _ _ f2 (m1.extBut _ _ d4 e))
   ·exact m3.extBut _ _ e5 (m2.extBut _ _ f3 (m1.extBut _ _ d6 e))
  refine wpAny_bind (wpAny_bind (wpAny_onRaise (?_:wpAny _ _ (Builtin.SmallTypes.nextOf (Value.ref i2) >>= _) _ _ _)))
  refine wpAny_bind (S2.done _ k _ _ c2a hy fun g4 x m4 hs=>?_)
  have Hz4:IsZip g4 z TI TO .ellipsis:=m4 _ _ (Ne.symm d4) (m3.extBut _ _ (Ne.symm d2) (m2.extBut _ _ (Ne.symm d3) Hz1))
  exact wpAny_setField_rec Hz4 (by simp) fun g5 _ m5=>fin g5 x (fun c o n1 n2 n3 n4 e=>m5.extBut _ _ n1 (m4 _ _ n4 (m3.extBut _ _ n2 (m2.extBut _ _ n3 (m1.extBut _ _ n1 e))))) (out Hz4 g5 m5 hs)
end
end L3
namespace L3
open PySem PySem.Spec PyProof.Rows
abbrev zpA (h:Heap)(l1:Addr):Heap:=h.push { cls:=.type "tuple_iterator",data:=.fields #[.ref l1,.int 0 0] }
abbrev zpB (h:Heap)(l1 l2:Addr):Heap:=(zpA h l1).push { cls:=.type "list_iterator",data:=.fields #[.ref l2,.int 0 0] }
abbrev zpC (h:Heap)(l1 l2:Addr):Heap:=(zpB h l1 l2).push { cls:=.type "tuple",data:=.seq #[.ref h.objs.size,.ref (zpA h l1).objs.size] }
abbrev zpD (h:Heap)(l1 l2:Addr):Heap:=(zpC h l1 l2).push { cls:=.type "tuple",data:=.seq #[.none,.none] }
abbrev zpE (h:Heap)(l1 l2:Addr):Heap:=(zpD h l1 l2).push { cls:=.type "zip",data:=.fields #[.none,.bool false,.bool false,.ref (zpB h l1 l2).objs.size,.ref (zpC h l1 l2).objs.size] }
theorem jK5 (l1 l2:Addr)(xs ys:Array Value) :
 Meets (Builtin.«zip.__new__» ⟨[.type "zip",.ref l1,.ref l2],[]⟩) (fun _ R s=>s.heap.IsTuple l1 xs∧s.heap.IsList l2 ys∧R (.ok (.ret (.ref (zpD s.heap l1 l2).objs.size))) { s with heap:=zpE s.heap l1 l2 }) :=
 .of_wp fun prog w A R s h=>by
  obtain⟨hp,g,d,tk,os⟩:=s;obtain⟨t1,t2,h⟩:=h
  have hsub:=sub_zip
  have q1:Heap.IsTuple (Shared.heap ⟨hp,g,d,tk,os⟩) l1 xs:=t1
  have q2:Heap.IsList (Shared.heap ⟨hp.push { cls:=.type "tuple_iterator",data:=.fields #[.ref l1,.int 0 0] },g,d,tk,os⟩) l2 ys:=Heap.IsList.push t2 _
  wp_walk using wpAny_pyIter_tuple q1,wpAny_pyIter_list q2
  exact⟨_,rfl,h⟩
section
variable {P:Program}{w:World}{A:Around}{E:Value→Shared→Prop}{s:Shared}
theorem jJ2 {l1 l2:Addr}{xs ys:Array Value}{Q:Value→Shared→Prop}(t1:s.heap.IsTuple l1 xs) (t2:s.heap.IsList l2 ys)
 (fin:∀h',IsZip h' (s.heap.objs.size+4) (s.heap.objs.size+2) (s.heap.objs.size+3) .none→IsPair h' (s.heap.objs.size+2) (.ref s.heap.objs.size) (.ref (s.heap.objs.size+1))→IsPair h' (s.heap.objs.size+3) .none .none →
  h'.IsTupleIter s.heap.objs.size l1 0→h'.IsListIter (s.heap.objs.size+1) l2 0→(∀c o,s.heap.get? c=some o→h'.get? c=some o)→Q (.ref (s.heap.objs.size+4)) { s with heap:=h' }) :
 wpAny (model P w) A (call (.type "zip") [.ref l1,.ref l2]) Q E s:=by
 refine callType_new F.called_zip (by decide) (F.typeCall_zip_2 _ _) (F.newCall_zip_2 _ _) (fun ob=>F.args_object_init_3 ob _ _) F.entry_zip_new (jK5 l1 l2 xs ys) ⟨t1,t2,?_⟩
 have n1:(zpA s.heap l1).objs.size=s.heap.objs.size+1:=Heap.size_push ..
 have n2:(zpB s.heap l1 l2).objs.size=s.heap.objs.size+2:=by rw[Heap.size_push,n1]
 have n3:(zpC s.heap l1 l2).objs.size=s.heap.objs.size+3:=by rw[Heap.size_push,n2]
 have n4:(zpD s.heap l1 l2).objs.size=s.heap.objs.size+4:=by rw[Heap.size_push,n3]
 have o5:(zpE s.heap l1 l2).get? (zpD s.heap l1 l2).objs.size=some _:=Heap.get?_push_size _ rfl
 have o4:(zpE s.heap l1 l2).get? (zpC s.heap l1 l2).objs.size=some _:=Heap.get?_push_of_some _ (Heap.get?_push_size _ rfl)
 have o3:(zpE s.heap l1 l2).get? (zpB s.heap l1 l2).objs.size=some _:=Heap.get?_push_of_some _ (Heap.get?_push_of_some _ (Heap.get?_push_size _ rfl))
 have o2:(zpE s.heap l1 l2).get? (zpA s.heap l1).objs.size=some _:=Heap.get?_push_of_some _ (Heap.get?_push_of_some _ (Heap.get?_push_of_some _ (Heap.get?_push_size _ rfl)))
 have o1:(zpE s.heap l1 l2).get? s.heap.objs.size=some _:=Heap.get?_push_of_some _ (Heap.get?_push_of_some _ (Heap.get?_push_of_some _ (Heap.get?_push_of_some _ (Heap.get?_push_size _ rfl))))
 refine(?_:_∧_)
 rw[n2,n3,n4] at o5
 rw[n1,n2] at o3
 rw[n3] at o4
 rw[n1] at o2
 rw[n4]
 exact⟨⟨_,o5,rfl⟩,fin _ o5 o3 o4 ⟨_,o1,rfl,rfl⟩ ⟨_,o2,rfl,rfl⟩ fun c o x=>Heap.get?_push_of_some _ (Heap.get?_push_of_some _ (Heap.get?_push_of_some _ (Heap.get?_push_of_some _ (Heap.get?_push_of_some _ x))))⟩
variable {z TI TO i1 i2 l1 l2:Addr}{us1 us2:Array Value}{st1 st2:Nat→Heap→Prop}
theorem jMX (D:ZAp z TI TO i1 i2 l1 l2)(S1:∀A':Around,A'.handled=A.handled→jLu P w A' i1 l1 us1 st1)(S2:∀A':Around,A'.handled=A.handled→jLu P w A' i2 l2 us2 st2){k:Nat}{x y a b:Value}{Q:Option Value→Shared→Prop}(Hz:IsZip s.heap z TI TO .none) (Ht:IsPair s.heap TI (.ref i1) (.ref i2)) (Ho:IsPair s.heap TO a b)
 (c1:st1 k s.heap) (c2:st2 k s.heap) (hx:us1[k]? = some x) (hy:us2[k]? = some y)
 (fin:∀h',IsZip h' z TI TO (rawInt s.heap.objs.size)→IsPair h' TO x y→st1 (k+1) h'→st2 (k+1) h'→IsPair h' s.heap.objs.size x y→(∀c o,c≠z→c≠TO→c≠i1→c≠i2→s.heap.get? c=some o→h'.get? c=some o)→Q (some (.ref s.heap.objs.size)) { s with heap:=h' }) :
 wpAny (model P w) A (pyNext (.ref z)) Q E s:=by
 have ty:s.TypeIs (.ref z) "zip":=⟨_,Hz,rfl⟩
 refine wpAny_bind (wpAny_attempt (wpAny_callSpecial?_slot (name:=Str.ofString "__next__") ty F.slot_zip_next (wpAny_call_entry F.slot_zip_next ty F.entry_zip_next ?_ (F.args_zip_next_1 _))))
 refine jNl (A:=A.in1) D (S1 A.in1 rfl) (S2 A.in1 rfl) Hz Ht Ho c1 c2 hx hy fun h' b1 b2 b3 b4 b5 b6=>?_
 exact wpAny_pure (fin h' b1 b2 b3 b4 b5 b6)
theorem jMH (hd:A.handled=none)(D:ZAp z TI TO i1 i2 l1 l2)(S1:∀A':Around,A'.handled=A.handled→jLu P w A' i1 l1 us1 st1)(S2:∀A':Around,A'.handled=A.handled→jLu P w A' i2 l2 us2 st2){k:Nat}{a b:Value}{Q:Option Value→Shared→Prop}(Hz:IsZip s.heap z TI TO .none) (Ht:IsPair s.heap TI (.ref i1) (.ref i2)) (Ho:IsPair s.heap TO a b)
 (c1:st1 k s.heap) (c2:st2 k s.heap) (he:us1[k]? = none∨us2[k]? = none)
 (fin:∀h',(∀c o,c≠z→c≠TO→c≠i1→c≠i2→s.heap.get? c=some o→h'.get? c=some o)→Q none { s with heap:=h' }):wpAny (model P w) A (pyNext (.ref z)) Q E s:=by
 have ty:s.TypeIs (.ref z) "zip":=⟨_,Hz,rfl⟩
 refine wpAny_bind (wpAny_attempt (wpAny_callSpecial?_slot (name:=Str.ofString "__next__") ty F.slot_zip_next (wpAny_call_entry F.slot_zip_next ty F.entry_zip_next ?_ (F.args_zip_next_1 _))))
 refine jM8 (A:=A.in1) hd D (S1 A.in1 rfl) (S2 A.in1 rfl) Hz Ht Ho c1 c2 he fun h' e kp hs=>?_
 obtain⟨o,g1,g2⟩:=hs
 exact wpAny_bind (wpAny_isInstance (T:="StopIteration") (b:=true) ⟨o,g1,g2⟩ isSubtype_stop (wpAny_pure (fin _ kp)))
end
end L3
namespace L3
open PySem PySem.Spec PyProof.Rows L2
def SqB (K:PySem.W.Frag)(b:Bool)(H:Hp)(a:Addr)(xs:List V):Prop:=if b=true then SqT K H a xs else SqL K H a xs
def ItB (b:Bool)(h:Heap)(i l:Addr)(k:Nat):Prop:=if b=true then h.IsTupleIter i l k else h.IsListIter i l k
def Itz (K:PySem.W.Frag)(b1 b2:Bool)(l1 l2:Addr):It :=
 ⟨fun i H=>∃xs ys x y,SqB K b1 H l1 xs∧SqB K b2 H l2 ys∧xs[i]? = some x∧ys[i]? = some y,
  fun i H v H'=>∃p x y,H p=none∧v=.ref p∧(∀xs,SqB K b1 H l1 xs→xs[i]? = some x)∧(∀ys,SqB K b2 H l2 ys→ys[i]? = some y)∧H'=upd H p (.tup [x,y]),
  fun i H=>∃xs ys,SqB K b1 H l1 xs∧SqB K b2 H l2 ys∧(xs.length≤i∨ys.length≤i)⟩
theorem jFR {b:Bool}{h h':Heap}{i l:Addr}{k:Nat}(a:ItB b h i l k) (e:∀o,h.get? i=some o→h'.get? i=some o):ItB b h' i l k:=by
 unfold ItB at *
 split at a
 ·rename_i c;rw[if_pos c];obtain⟨o,g1,g2⟩:=a;exact⟨o,e o g1,g2⟩
 ·rename_i c;rw[if_neg c];exact a.at fun o z=>e o z
theorem jHh {b:Bool}{h:Heap}{i l:Addr}{k:Nat}(a:ItB b h i l k):∃o,h.get? i=some o∧∀v,o.data≠.cell v:=by
 unfold ItB at a
 split at a
 ·obtain⟨o,g1,g2,g3⟩:=a;exact⟨o,g1,fun v z=>by rw[g3] at z;cases z⟩
 ·obtain⟨o,g1,g2,g3⟩:=a;exact⟨o,g1,fun v z=>by rw[g3] at z;cases z⟩
def stB (b:Bool)(i l:Addr)(us:Array Value)(k:Nat)(h:Heap):Prop:=if b=true then stT i l us k h else stL i l us k h
theorem jM6 {P:Program}{w:World}{A:Around}(hd:A.handled=none) (b:Bool){i l:Addr}(ne:l≠i) (us:Array Value):jLu P w A i l us (stB b i l us):=by
 cases b with
 |true=>exact jL3 hd ne us
 |false=>exact jMI hd ne us
section
variable {X:Cx}{pins:List (Addr×Obj)}{σ:St}{H:Hp}{s:Shared}
theorem jHx {b:Bool}{l:Addr}{xs:List V}(I:Inv X pins σ H s) (q:SqB X.K b H l xs):∃its:List Value,jBJ xs its∧∀i k,ItB b s.heap i l k→stB b i l its.toArray k s.heap:=by
 unfold SqB at q
 cases b with
 |true =>
  obtain⟨its,rv,p,hz⟩:=I.tuple q
  exact⟨its,rv,fun i k a=>⟨a,p⟩⟩
 |false =>
  obtain⟨its,rv,p,hz⟩:=I.list q
  exact⟨its,rv,fun i k a=>⟨a,p.isList⟩⟩
theorem jLd {b:Bool}{l:Addr}{xs ys:List V}(I:Inv X pins σ H s) (q:SqB X.K b H l xs) (r:SqB X.K b H l ys):ys=xs:=by
 unfold SqB at q r
 cases b with
 |true=>exact I.tuple_inj r q
 |false=>exact I.list_inj r q
end
def tnZ (b1 b2:Bool)(z TI TO i1 i2 l1 l2:Addr)(i:Nat)(h:Heap):Prop:=IsZip h z TI TO .none∧IsPair h TI (.ref i1) (.ref i2)∧(∃a b,IsPair h TO a b)∧ItB b1 h i1 l1 i∧ItB b2 h i2 l2 i
theorem jNr {b:Bool}{i l:Addr}{us:Array Value}{k:Nat}{h:Heap}(a:stB b i l us k h):ItB b h i l k:=by
 unfold stB at a
 unfold ItB
 split at a
 ·rename_i c;rw[if_pos c];exact a.1
 ·rename_i c;rw[if_neg c];exact a.1
theorem jMB {P:Program}{w:World}{K:PySem.W.Frag}{elts:List Expr}{x1:Nat}{tpos:Pos}(b1 b2:Bool){z TI TO i1 i2 l1 l2:Addr}(D:ZAp z TI TO i1 i2 l1 l2):jMw P w K (.Tuple elts x1 tpos) (Itz K b1 b2 l1 l2) [z,TI,TO,i1,i2] z (tnZ b1 b2 z TI TO i1 i2 l1 l2) where
 mem:=by simp
 obj:=fun i h st b hb=>by
  obtain⟨g1,g2,⟨a,c,g3⟩,g4,g5⟩:=st
  simp only[List.mem_cons,List.not_mem_nil,or_false] at hb
  rcases hb with rfl|rfl|rfl|rfl|rfl
  ·exact⟨_,g1,fun v y=>by cases y⟩
  ·exact⟨_,g2,fun v y=>by cases y⟩
  ·exact⟨_,g3,fun v y=>by cases y⟩
  ·exact jHh g4
  ·exact jHh g5
 keep:=fun i h h' st k=>by
  obtain⟨g1,g2,⟨a,c,g3⟩,g4,g5⟩:=st
  exact⟨k z (by simp) _ g1,k TI (by simp) _ g2,⟨a,c,k TO (by simp) _ g3⟩,jFR g4 fun o e=>k i1 (by simp) o e,jFR g5 fun o e=>k i2 (by simp) o e⟩
 item:=by
  intro X hP hw hK hc i pins s σ H E I hf st hg
  subst hP hw hK
  obtain⟨xs,ys,x,y,q1,q2,hx,hy⟩:=hg
  obtain⟨its1,rv1,src1⟩:=jHx I q1
  obtain⟨its2,rv2,src2⟩:=jHx I q2
  obtain⟨u,hu,ru⟩:=rv1.get hx
  obtain⟨v,hv,rv⟩:=rv2.get hy
  obtain⟨g1,g2,⟨a,c,g3⟩,g4,g5⟩:=st
  have hd:=I.ok.hd hc
  have fz:=hf z (by simp)
  have fI:=hf TI (by simp)
  have fO:=hf TO (by simp)
  have f1:=hf i1 (by simp)
  have f2:=hf i2 (by simp)
  refine jMX D (fun A' e=>jM6 (e.trans hd) b1 D.a4.1 its1.toArray) (fun A' e=>jM6 (e.trans hd) b2 D.a4.2 its2.toArray) g1 g2 g3 (src1 i1 i g4) (src2 i2 i g5) (x:=u) (y:=v) (by simpa using hu) (by simpa using hv) fun h1 k1 k2 k3 k4 k5 k6=>⟨_,rfl,wpAny_letOwnedTupleGo_zip (s:={ s with heap:=h1 }) k1 fun h2 m1 m2=>?_⟩
  have m2':Heap.SameBut z h1 h2:=m2
  have lt:∀{b:Addr}{o:Obj},s.heap.get? b=some o→s.heap.objs.size≠b:=fun e=>Nat.ne_of_gt (Heap.lt_size e)
  have hn:H s.heap.objs.size=none:=I.hok.fresh (Nat.le_refl _)
  have old2:∀b o,b≠z→b≠TO→b≠i1→b≠i2→s.heap.get? b=some o→h2.get? b=some o:=fun b o n1 n2 n3 n4 y=>(m2'.2 b n1).trans (k6 b o n1 n2 n3 n4 y)
  have tup2:h2.get? s.heap.objs.size=some { cls:=.type "tuple",data:=.seq #[u,v] }:=(m2'.2 _ (lt g1)).trans k5
  have trk:∀{b:Addr}{o:HO},H b=some o→b≠z∧b≠TO∧b≠i1∧b≠i2:=fun {b o} q=>⟨(fun y=>by rw[y,fz.1] at q;cases q),(fun y=>by rw[y,fO.1] at q;cases q),(fun y=>by rw[y,f1.1] at q;cases q),(fun y=>by rw[y,f2.1] at q;cases q)⟩
  have hok2:HOk X.prog X.w (upd H s.heap.objs.size (.tup [x,y])) h2:=fun b o q=>by
   by_cases hb:b=s.heap.objs.size
   ·subst hb
    rw[jAp] at q
    cases q
    exact⟨by show 2≤sizeLine;decide,[u,v],.cons ru (.cons rv .nil),⟨_,tup2,rfl,_,rfl⟩⟩
   ·rw[jAn hb] at q
    refine(I.hok b o q).stay (hf:=fun c w1 w2 y=>by rw[jAn (jAx y hn)];exact y) (fun c o hc' y=>?_) (fun c y=>by rw[jAn (jAx y hn)];exact y) fun c ys y=>by rw[jAn (jAx y hn)];exact y
    have t:c≠z∧c≠TO∧c≠i1∧c≠i2:=by
     rcases hc' with rfl|hc'
     ·exact trk q
     ·exact trk hc'
    exact old2 c o t.1 t.2.1 t.2.2.1 t.2.2.2 y
  have nin:∀{b:Addr},b∉[z,TO,i1,i2]→b≠z∧b≠TO∧b≠i1∧b≠i2:=fun {b} h=>⟨(fun y=>h (by simp[y])),(fun y=>h (by simp[y])),(fun y=>h (by simp[y])),(fun y=>h (by simp[y]))⟩
  have I2:Inv X pins σ (upd H s.heap.objs.size (.tup [x,y])) { s with heap:=h2,toks:=s.toks }:=by
   refine I.step (g':=s.gens) (d':=s.drawn) (ch:=[z,TO,i1,i2]) (fun b hb=>?_) (fun b o _ _ hb q _=>old2 b o (nin hb).1 (nin hb).2.1 (nin hb).2.2.1 (nin hb).2.2.2 q) (fun b o _ _ hb q _=>⟨o.slots,old2 b o (nin hb).1 (nin hb).2.1 (nin hb).2.2.1 (nin hb).2.2.2 q⟩)
    (fun b o _ q n=>by rw[jAn (Nat.ne_of_lt (Heap.lt_size q))];exact n) (fun b o hb q=>⟨o,old2 b o (nin hb).1 (nin hb).2.1 (nin hb).2.2.1 (nin hb).2.2.2 q⟩)
    (fun b ys y=>by rw[jAn (jAx y hn)];exact y) (fun b o ys y=>by rw[jAn (jAx y hn)];exact y) (fun b ps y=>⟨#[],by rw[jAn (jAx y hn),y];simp⟩) (fun m hm=>?_) hok2 I.bare
   ·simp only[List.mem_cons,List.not_mem_nil,or_false] at hb
    rcases hb with rfl|rfl|rfl|rfl
    ·exact⟨fz.2.2.2.1,fz.2.1,fz.2.2.2.2.1,fz.2.2.2.2.2⟩
    ·exact⟨fO.2.2.2.1,fO.2.1,fO.2.2.2.2.1,fO.2.2.2.2.2⟩
    ·exact⟨f1.2.2.2.1,f1.2.1,f1.2.2.2.2.1,f1.2.2.2.2.2⟩
    ·exact⟨f2.2.2.2.1,f2.2.1,f2.2.2.2.2.1,f2.2.2.2.2.2⟩
   ·obtain⟨o,es,ep,ho,r⟩:=hm
    exact⟨o,es,ep,old2 _ o (Ne.symm fz.2.1) (Ne.symm fO.2.1) (Ne.symm f1.2.1) (Ne.symm f2.2.1) ho,r⟩
  have ob1:=jHh g4
  have ob2:=jHh g5
  refine⟨.ref s.heap.objs.size,_,I2,rfl,⟨_,x,y,hn,rfl,fun zs hz=>by rw[jLd I q1 hz];exact hx,fun zs hz=>by rw[jLd I q2 hz];exact hy,rfl⟩,⟨m1,?_,⟨u,v,?_⟩,?_,?_⟩,fun b hb=>?_⟩
  ·exact(m2'.2 _ D.a1.1).trans (k6 _ _ D.a1.1 D.a2.1 D.a3.1 D.a3.2.2.2.1 g2)
  ·exact(m2'.2 _ D.a1.2.1).trans k2
  ·exact jFR (jNr k3) fun o e=>(m2'.2 _ D.a1.2.2.1).trans e
  ·exact jFR (jNr k4) fun o e=>(m2'.2 _ D.a1.2.2.2.1).trans e
  ·have ne:∀{b:Addr}{o:Obj},s.heap.get? b=some o→b≠s.heap.objs.size:=fun e=>Nat.ne_of_lt (Heap.lt_size e)
   simp only[List.mem_cons,List.not_mem_nil,or_false] at hb
   rcases hb with rfl|rfl|rfl|rfl|rfl
   ·rw[jAn (ne g1)];exact fz.1
   ·rw[jAn (ne g2)];exact fI.1
   ·rw[jAn (ne g3)];exact fO.1
   ·obtain⟨o,e,_⟩:=ob1;rw[jAn (ne e)];exact f1.1
   ·obtain⟨o,e,_⟩:=ob2;rw[jAn (ne e)];exact f2.1
 done:=by
  intro X hP hw hK hc i pins s σ H E I hf st hg
  subst hP hw hK
  obtain⟨xs,ys,q1,q2,he⟩:=hg
  obtain⟨its1,rv1,src1⟩:=jHx I q1
  obtain⟨its2,rv2,src2⟩:=jHx I q2
  obtain⟨g1,g2,⟨a,c,g3⟩,g4,g5⟩:=st
  have hd:=I.ok.hd hc
  have fz:=hf z (by simp)
  have fO:=hf TO (by simp)
  have f1:=hf i1 (by simp)
  have f2:=hf i2 (by simp)
  refine jMH hd D (fun A' e=>jM6 (e.trans hd) b1 D.a4.1 its1.toArray) (fun A' e=>jM6 (e.trans hd) b2 D.a4.2 its2.toArray) g1 g2 g3 (src1 i1 i g4) (src2 i2 i g5) ?_ fun h' kp=>⟨rfl,?_⟩
  ·have e1:=rv1.length
   have e2:=rv2.length
   rcases he with he|he
   ·left;rw[List.getElem?_toArray,List.getElem?_eq_none_iff];omega
   ·right;rw[List.getElem?_toArray,List.getElem?_eq_none_iff];omega
  ·have nin:∀{b:Addr},b∉[z,TO,i1,i2]→b≠z∧b≠TO∧b≠i1∧b≠i2:=fun {b} h=>⟨(fun y=>h (by simp[y])),(fun y=>h (by simp[y])),(fun y=>h (by simp[y])),(fun y=>h (by simp[y]))⟩
   have old2:∀b o,b∉[z,TO,i1,i2]→s.heap.get? b=some o→h'.get? b=some o:=fun b o hb q=>kp b o (nin hb).1 (nin hb).2.1 (nin hb).2.2.1 (nin hb).2.2.2 q
   have trk:∀{b:Addr}{o:HO},H b=some o→b∉[z,TO,i1,i2]:=fun {b o} q hb=>by
    simp only[List.mem_cons,List.not_mem_nil,or_false] at hb
    rcases hb with rfl|rfl|rfl|rfl
    ·rw[fz.1] at q;cases q
    ·rw[fO.1] at q;cases q
    ·rw[f1.1] at q;cases q
    ·rw[f2.1] at q;cases q
   have hok2:HOk X.prog X.w H h':=fun b o q=>by
    refine(I.hok b o q).stay (fun c o hc' y=>old2 c o ?_ y) (fun _ y=>y) fun _ _ y=>y
    rcases hc' with rfl|hc'
    ·exact trk q
    ·exact trk hc'
   refine I.step (t':=s.toks) (g':=s.gens) (d':=s.drawn) (ch:=[z,TO,i1,i2]) (fun b hb=>?_) (fun b o _ _ hb q _=>old2 b o hb q) (fun b o _ _ hb q _=>⟨o.slots,old2 b o hb q⟩) (fun b o _ q n=>n) (fun b o hb q=>⟨o,old2 b o hb q⟩)
    (fun b ys y=>y) (fun b o ys y=>y) (fun b ps y=>⟨#[],by rw[y];simp⟩) (fun m hm=>?_) hok2 I.bare
   ·simp only[List.mem_cons,List.not_mem_nil,or_false] at hb
    rcases hb with rfl|rfl|rfl|rfl
    ·exact⟨fz.2.2.2.1,fz.2.1,fz.2.2.2.2.1,fz.2.2.2.2.2⟩
    ·exact⟨fO.2.2.2.1,fO.2.1,fO.2.2.2.2.1,fO.2.2.2.2.2⟩
    ·exact⟨f1.2.2.2.1,f1.2.1,f1.2.2.2.2.1,f1.2.2.2.2.2⟩
    ·exact⟨f2.2.2.2.1,f2.2.1,f2.2.2.2.2.1,f2.2.2.2.2.2⟩
   ·obtain⟨o,es,ep,ho,r⟩:=hm
    refine⟨o,es,ep,kp _ o (Ne.symm fz.2.1) (Ne.symm fO.2.1) (Ne.symm f1.2.1) (Ne.symm f2.2.1) ho,r⟩
 self:=fun A i s Q E st h=>wpAny_pyIter_zip st.1 h
section
variable {X:Cx}{pos:Pos}
def jRa (K:PySem.W.Frag)(ta:TA):TI:=fun σ H R=>ta σ H fun vs H1=>∃a1 a2,vs=[.ref a1,.ref a2]∧∃b:Bool,(∃xs,SqB K b H1 a1 xs)∧(∃ys,SqL K H1 a2 ys)∧R (Itz K b false a1 a2) H1
theorem jOU {n l1 l2:Addr}(h1:l1<n) (h2:l2<n):ZAp (n+4) (n+2) (n+3) n (n+1) l1 l2:=by
 have up:∀{a:Addr}(j:Nat),a<n→a≠n+j:=fun {a} j h=>Nat.ne_of_lt (Nat.lt_of_lt_of_le h (Nat.le_add_right n j))
 have lt:∀{i j:Nat},i<j→n+i≠n+j:=fun h=>Nat.ne_of_lt (Nat.add_lt_add_left h n)
 have gt:∀{i j:Nat},j<i→n+i≠n+j:=fun h=>Nat.ne_of_gt (Nat.add_lt_add_left h n)
 exact⟨⟨lt (by decide),lt (by decide),lt (i:=0) (by decide),lt (by decide),up 4 h1,up 4 h2⟩,⟨lt (by decide),lt (i:=0) (by decide),lt (by decide),up 3 h1,up 3 h2⟩,⟨gt (j:=0) (by decide),gt (j:=0) (by decide),up 0 h2,gt (by decide),up 1 h1⟩,⟨up 0 h1,up 1 h2⟩⟩
theorem jNM {e1 e2:Expr}{elts:List Expr}{x1:Nat}{tpos p:Pos}{ta:TA}(hg:Gl X "zip") (hm:X.mg "zip"=none) (ha:PA X [e1,e2] ta) (hs:starEach [e1,e2] X.env=[(false,eval e1 X.env),(false,eval e2 X.env)]:=by rfl) (hs2:starEach [e2] X.env=[(false,eval e2 X.env)]:=by rfl) :
 PI X (.Tuple elts x1 tpos) (.Call (.Name "zip" p) [e1,e2] [] pos) (jRa X.K ta):=by
 intro pins s σ H R I h
 refine Call_ (jFw I hg hm PyProof.Rows.boot_zip (PyProof.Rows.callWith_type1 (thn (ha pos pins s σ H _ I h) fun us s1 ⟨vs,H1,I1,r1,q1⟩=>?_) (by rw[hs,hs2]) (by rw[hs2];rfl)))
 obtain⟨a1,a2,e,b,⟨xs,h1⟩,⟨ys,h2⟩,q⟩:=q1
 subst e
 cases r1 with
 |cons r rr =>
  cases rr with
  |cons r' rr =>
   cases rr
   cases r
   cases r'
   obtain⟨its2,rv2,p2,hz2⟩:=I1.list h2
   have fin:∀h',IsZip h' (s1.heap.objs.size+4) (s1.heap.objs.size+2) (s1.heap.objs.size+3) .none→IsPair h' (s1.heap.objs.size+2) (.ref s1.heap.objs.size) (.ref (s1.heap.objs.size+1))→IsPair h' (s1.heap.objs.size+3) .none .none →
    ItB b h' s1.heap.objs.size a1 0→ItB false h' (s1.heap.objs.size+1) a2 0→(∀c o,s1.heap.get? c=some o→h'.get? c=some o)→a1<s1.heap.objs.size→a2<s1.heap.objs.size →
    wpAny (model X.prog X.w) X.A (pyIter (.ref (s1.heap.objs.size+4))) (PIE X pins σ (.Tuple elts x1 tpos) R) X.xe { s1 with heap:=h' }:=fun h' g1 g2 g3 g4 g5 old n1 n2=>by
    have I2:Inv X pins σ H1 { s1 with heap:=h' }:=I1.kept (t':=s1.toks) old
    refine wpAny_pyIter_zip (s:={ s1 with heap:=h' }) g1 ?_
    refine⟨s1.heap.objs.size+4,_,_,_,H1,rfl,I2,jMB b false (jOU n1 n2),⟨g1,g2,⟨_,_,g3⟩,g4,g5⟩,fun c hc=>?_,q⟩
    have ge:s1.heap.objs.size≤c:=by
     simp only[List.mem_cons,List.not_mem_nil,or_false] at hc
     rcases hc with rfl|rfl|rfl|rfl|rfl
     ·exact Nat.le_add_right _ 4
     ·exact Nat.le_add_right _ 2
     ·exact Nat.le_add_right _ 3
     ·exact Nat.le_refl _
     ·exact Nat.le_add_right _ 1
    exact I1.fpOk ge (I1.hok.fresh ge)
   have n2:a2<s1.heap.objs.size:=by obtain⟨o,e,_⟩:=p2.isList;exact Heap.lt_size e
   cases b with
   |true =>
    obtain⟨its1,rv1,p1,hz1⟩:=I1.tuple h1
    have t1:s1.heap.IsTuple a1 its1.toArray:=p1
    have n1:a1<s1.heap.objs.size:=by obtain⟨o,e,_⟩:=t1;exact Heap.lt_size e
    exact jJ2 t1 p2.isList fun h' g1 g2 g3 g4 g5 old=>fin h' g1 g2 g3 g4 g5 old n1 n2
   |false =>
    obtain⟨its1,rv1,p1,hz1⟩:=I1.list h1
    have n1:a1<s1.heap.objs.size:=by obtain⟨o,e,_⟩:=p1.isList;exact Heap.lt_size e
    exact call_zip_2 p1.isList p2.isList fun h' g1 g2 g3 g4 g5 _ old=>fin h' g1 g2 g3 g4 g5 old n1 n2
end
end L3
namespace L3
open PySem PySem.Spec PyProof.Rows L2
structure jCO (X:Cx)(x y':Str)(scope:Scope)(N:List Str)(idx:List Nat):Prop where
 kind:scope.kind=.function
 cell:∀y∈scope.names,y.2≠.cell
 names:∀y∈scope.names,y.2=.local→scope.names.lookup y.1=some .local
 own:scope.names.lookup x=some .local
 own2:scope.names.lookup y'=some .local
 free:∀y∈scope.names,y.2=.free→X.env.kindOf y.1=some .cell
 nd:N.Nodup
 fst:N[0]? = some x
 snd:N[1]? = some y'
 len:N.length=idx.length+2
 cap:∀(k j:Nat),idx[k]? = some j→∃y,N[k+2]? = some y∧X.N[j]? = some y∧scope.names.lookup y=some .free
section
variable {X:Cx}{pins:List (Addr×Obj)}{σ:St}{H2:Hp}{s2:Shared}{x y':Str}{px py' pt:Pos}{kt:Nat}{tg:Expr}{scope:Scope}{N:List Str}{idx:List Nat}{J:It}{fp:List Addr}{it:Addr}{tn:Nat→Heap→Prop}{cl:List (Str×Addr)}
theorem jIz (O:jCO X x y' scope N idx)(I2:Inv X pins σ H2 s2)(T:jMw X.prog X.w X.K tg J fp it tn)(st2:tn 0 s2.heap)(f2:∀b∈fp,jJ9 X pins H2 b)
 (hcl:∀y c,cl.lookup y=some c→X.env.cells.lookup y=some c)(hcl2:∀y,(y,NameKind.free)∈scope.names→∃c,cl.lookup y=some c)
 {h1:Heap}{C:Addr}{m:Str→Option Value}{tk:Nat}(hC:s2.heap.objs.size<C) (hns:h1.Ns C m) (old:∀b o,s2.heap.get? b=some o→h1.get? b=some o)
 (hD:h1.get? s2.heap.objs.size=some { cls:=.type "list",data:=.seq ([]:List Value).toArray }) :
 Inv (jAs X N scope cl C s2 H2 fp) [] (none::none::jCA σ idx) (upd H2 s2.heap.objs.size (.lst [])) { s2 with heap:=h1,toks:=tk }:=by
 have inHeap:∀b∈fp,b<s2.heap.objs.size:=fun b hb=>by
  obtain⟨o,e,_⟩:=T.obj 0 _ st2 b hb
  exact Heap.lt_size e
 have hDn:H2 s2.heap.objs.size=none:=I2.hok.fresh (Nat.le_refl _)
 refine⟨⟨I2.ok.mod,O.kind,I2.ok.glob,I2.ok.blt,?_,?_,?_,(fun _ _ z=>by cases z),I2.ok.hd,I2.ok.frames,.inl rfl,?_,fun b o e=>I2.bs b o e,Nat.le_trans I2.ok.bsz I2.sz,?_,?_,I2.stack,I2.stkFree,I2.tb⟩,rfl,I2.bare,?_,⟨m,hns,?_⟩,?_,?_,?_,?_,?_,?_⟩
 ·exact Nat.le_of_lt hC
 ·intro y z c h1 h2
  exact I2.ok.inj y z c (hcl y c h1) (hcl z c h2)
 ·intro y hy
  have key:∀k,(relabel scope X.env).names.lookup y=some k→(k=.cell∨k=.free)→∃c,cl.lookup y=some c:=fun k e hk=>by
   obtain⟨k0,h1,h2⟩:=jBY e
   have hf:k0=.free:=by
    rcases h2 with rfl|h2
    ·rcases hk with rfl|rfl
     ·exact absurd rfl (O.cell _ h1)
     ·rfl
    ·exact h2
   subst hf
   exact hcl2 y h1
  rcases hy with e|e
  ·exact key _ e (.inl rfl)
  ·exact key _ e (.inr rfl)
 ·intro b hb
  have:=inHeap b hb
  exact⟨Nat.ne_of_lt (Nat.lt_trans this hC),fun y c e=>(f2 b hb).2.2.2.2.1 y c (hcl y c e)⟩
 ·intro b o e hb
  rcases(f2 b hb).2.2.2.1 with z|z
  ·exact I2.ok.noex b o e z
  ·exact absurd (Nat.lt_of_lt_of_le (Heap.lt_size e) (Nat.le_trans I2.ok.bsz z)) (Nat.lt_irrefl _)
 ·intro b hb hf
  rcases List.mem_cons.mp (I2.stkSub b hf) with e|e
  ·exact(f2 b hb).2.1 e
  ·exact(f2 b hb).2.2.1 e
 ·exact Un.laid old (Nat.le_refl _) hDn
 ·intro i y v e1 e2 e3
  cases i with
  |zero=>cases e2
  |succ k =>
   cases k with
   |zero=>cases e2
   |succ k =>
    obtain⟨j,ej,es⟩:=jFS (k:=k) e2
    obtain⟨y',n1,n2,n3⟩:=O.cap k j ej
    have ey:y'=y:=Option.some.inj (n1.symm.trans e1)
    subst ey
    have kc:=O.free _ (jBa n3) rfl
    obtain⟨m0,hn0,hl0⟩:=I2.loc
    obtain⟨u,ru,lk⟩:=hl0 j y' v n2 es (.inr (.inl kc))
    refine⟨u,ru,?_⟩
    rcases lk with⟨k1,_⟩|⟨_,c,hc,ic⟩
    ·rw[kc] at k1;cases k1
    ·obtain⟨c',hc'⟩:=hcl2 y' (jBa n3)
     have:c'=c:=Option.some.inj ((hcl y' c' hc').symm.trans hc)
     subst this
     exact .inr ⟨.inl (jBw I2.ok.kind kc n3),c',hc',ic.keeps old⟩
 ·intro y c e
  obtain⟨v,ic⟩:=I2.cell y c (hcl y c e)
  exact⟨v,ic.keeps old⟩
 ·show upd H2 _ _ C=none
  rw[jAn (Nat.ne_of_gt hC)]
  exact I2.hok.fresh (Nat.le_of_lt hC)
 ·intro y c e
  obtain⟨v,ic⟩:=I2.cell y c (hcl y c e)
  rw[jAn (Nat.ne_of_lt ic.lt)]
  exact I2.freeC y c (hcl y c e)
 ·intro p hp;cases hp
 ·exact I2.hok.laid old (Nat.le_refl _) ⟨Nat.zero_le _,[],_,.nil,hD⟩
 ·show(none::none::jCA σ idx).length=N.length
  rw[O.len,List.length_cons,List.length_cons]
  unfold jCA
  rw[List.length_map]
def jI8 (K:PySem.W.Frag)(idx:List Nat)(wi:TI)(te:Hp→TE):TE:=fun σ H Q=>wi σ H fun J H1=>∀D,H1 D=none→K.lookup D=none→∃W:Nat→Nat→List V→Hp→Prop,(∃m,W 0 m [] (upd H1 D (.lst []))) ∧
 ∀i m ys H,H D=some (.lst ys)→W i m ys H→(J.stop i H∧Q (.ref D) H)∨(J.go i H∧∀x H',J.yld i H x H'→∃p v1 v2,x=.ref p∧SqT K H' p [v1,v2] ∧
  te H1 (some v1::some v2::jCA σ idx) H' (fun v H3=>H3 D=some (.lst ys)∧ys.length<sizeLine∧∃m',m'<m∧W (i+1) m' (ys++[v]) (upd H3 D (.lst (ys++[v])))))
theorem jHS {elt iter:Expr}{wi:TI}{te:Hp→TE}{pos:Pos}{s:Shared}{H:Hp}{Q:VK}{use:Option (Value→Sem Unit)}{QQ:Value→Shared→Prop}(O:jCO X x y' scope N idx) (hc:X.calm=true) (hi:PI X (.Tuple [.Name x px,.Name y' py'] kt pt) iter wi)
 (helt:∀cl C s₀ H₀ fp,PE (jAs X N scope cl C s₀ H₀ fp) elt (te H₀))
 (hs:∀x,foldedSetIterable iter X.env x=pure x) (I:Inv X pins σ H s) (h:jI8 X.K idx wi te σ H Q)
 (fin:∀(s2:Shared)(H2:Hp)(fp:List Addr)(cl:List (Str×Addr))(C D:Addr)(σ':St)(H':Hp)(s':Shared),Inv X pins σ H2 s2→(∀b∈fp,jJ9 X pins H2 b)→s2.heap.objs.size<C→Inv (jAs X N scope cl C s2 H2 fp) [] σ' H' s'→Q (.ref D) H' →
  compPost (model X.prog X.w) X.A X.xe use QQ (.ref D) C (.ok .next) s') :
 wpAny (model X.prog X.w) X.A (comprehension (.ListComp elt [⟨.Tuple [.Name x px,.Name y' py'] kt pt,iter,[],0⟩] scope pos) scope X.env (firstIterPos [⟨.Tuple [.Name x px,.Name y' py'] kt pt,iter,[],0⟩] pos) (newList []) false (eval iter X.env) use) QQ X.xe s:=by
 obtain⟨cl,ecl,hcl,hcl2⟩:=jE9 (scope:=scope) (env:=X.env) fun y hy hf=>I.ok.has y.1 (.inl (O.free y hy hf))
 refine wpAny_comprehension_free (use:=use) (cl:=cl) rfl hs ecl O.kind O.names ?_
 refine thn (hi pins s σ H _ I h) fun v s1 h1=>thn h1 fun itv s2 h2=>?_
 obtain⟨it,fp,tn,J,H2,rfl,I2,T,st2,f2,hD⟩:=h2
 refine wpAny_newObj_type (wpAny_newFunctionEnv O.cell (by intro y hy;simp at hy) (fun h1 hns hsb=>?_) O.kind)
 dsimp only at hns hsb ⊢
 generalize hG:s2.heap.push { cls:=.type "list",dict:=none,data:=.seq ([]:List Value).toArray }=G at hns hsb ⊢
 have hCs:s2.heap.objs.size<G.objs.size:=by rw[←hG,Heap.size_push];exact Nat.lt_succ_self _
 have old:∀b o,s2.heap.get? b=some o→h1.get? b=some o:=fun b o e=>hsb.extBut b o (Nat.ne_of_lt (Nat.lt_trans (Heap.lt_size e) hCs)) (Heap.get?_push_of_some _ (hG ▸ Heap.get?_push_of_some _ e))
 have hDl:h1.get? s2.heap.objs.size=some { cls:=.type "list",data:=.seq ([]:List Value).toArray }:=hsb.extBut _ _ (Nat.ne_of_lt hCs) (Heap.get?_push_of_some _ (hG ▸ Heap.get?_push_size _ rfl))
 have hDn:H2 s2.heap.objs.size=none:=I2.hok.fresh (Nat.le_refl _)
 have hDk:X.K.lookup s2.heap.objs.size=none:=by
  cases e:X.K.lookup s2.heap.objs.size with
  |none=>rfl
  |some o=>exact absurd (Heap.lt_size (I2.kIn _ _ e)) (Nat.lt_irrefl _)
 obtain⟨W,⟨m0,w0⟩,step⟩:=hD _ hDn hDk
 have I4:Inv (jAs X N scope cl G.objs.size s2 H2 fp) [] (none::none::jCA σ idx) (upd H2 s2.heap.objs.size (.lst [])) { s2 with heap:=h1,toks:=s2.toks+([]:List (Str×Value)).length } :=
  jIz O I2 T st2 f2 hcl hcl2 hCs hns old hDl
 generalize hCC:G.objs.size=C at I4 hCs ⊢
 clear hsb hns hG hCC
 generalize hDD:s2.heap.objs.size=D at hDn hDk step w0 I4 hDl ⊢
 have st4:tn 0 h1:=T.keep 0 _ _ st2 fun b _ o e=>old b o e
 have frD:∀b∈fp,(upd H2 D (.lst [])) b=none:=fun b hb=>by
  obtain⟨o,e,_⟩:=T.obj 0 _ st2 b hb
  rw[jAn (by rw[←hDD];exact Nat.ne_of_lt (Heap.lt_size e))]
  exact(f2 b hb).1
 have stat:∀{H':Hp},(∀b∈fp,H' b=none)→∀b∈fp,jJ9 (jAs X N scope cl C s2 H2 fp) [] H' b:=fun hn b hb =>
  ⟨hn b hb,(I4.ok.exf b hb).1,I4.ok.exfs b hb,.inl hb,(I4.ok.exf b hb).2,fun p hp=>by cases hp⟩
 have hloc:(jAs X N scope cl C s2 H2 fp).env.scope.names.lookup x=some .local:=lookup_relabel_local O.own
 have hloc2:(jAs X N scope cl C s2 H2 fp).env.scope.names.lookup y'=some .local:=lookup_relabel_local O.own2
 have pg:PG (jAs X N scope cl C s2 H2 fp) (.Tuple [.Name x px,.Name y' py'] kt pt) (jSl X.K 2 (jLV (jDg 0) (jLV (jDg 1) jRn))) :=
  jNC (X:=jAs X N scope cl C s2 H2 fp) hc (jFT (jBn O.nd O.fst (.inl hloc) (.inr hloc)) (jFT (jBn O.nd O.snd (.inl hloc2) (.inr hloc2)) jLt))
 have loop:∀s3:Shared,s3={ s2 with heap:=h1,toks:=s2.toks+([]:List (Str×Value)).length } →
  codeAny (model X.prog X.w) X.A (.compLoop (.ListComp elt [⟨.Tuple [.Name x px,.Name y' py'] kt pt,iter,[],0⟩] scope pos) 0 (.ref it) (.ref D) (compEnvC scope cl C X.env)) (compPost (model X.prog X.w) X.A X.xe use QQ (.ref D) C) s3:=by
  rintro s3 rfl
  refine LCp.codeAny_compLoop_pair (fun n s'=>∃i z1 z2 H' ys,Inv (jAs X N scope cl C s2 H2 fp) [] (z1::z2::jCA σ idx) H' s'∧tn i s'.heap∧(∀b∈fp,H' b=none)∧H' D=some (.lst ys)∧W i n ys H') ?_ m0 ⟨0,none,none,_,[],I4,st4,frD,jAp,w0⟩
  rintro n s5 ⟨i,z1,z2,H5,ys,I5,st5,fr5,hD5,w5⟩
  rcases step i n ys H5 hD5 w5 with⟨stop,q⟩|⟨go,next⟩
  ·refine wpAny_mono (T.done (jAs X N scope cl C s2 H2 fp) rfl rfl rfl hc i [] s5 _ H5 (fun _ _=>False) I5 (stat fr5) st5 stop) (fun r s6 hh=>?_) fun _ _ z=>z.elim
   obtain⟨hr,I6⟩:=hh
   subst hr
   exact fin s2 H2 fp cl C D _ H5 s6 I2 f2 hCs I6 q
  ·refine wpAny_mono (T.item (jAs X N scope cl C s2 H2 fp) rfl rfl rfl hc i [] s5 _ H5 (fun _ _=>False) I5 (stat fr5) st5 go) (fun r s6 hh=>?_) fun _ _ z=>z.elim
   obtain⟨u,hr,h6⟩:=hh
   subst hr
   dsimp only
   refine wpAny_mono h6 (fun _ s7 h7=>?_) fun _ _ z=>z.elim
   obtain⟨xv,H7,I7,r7,y7,st7,fr7⟩:=h7
   have I7':=I7.pinned (stat fr7) (T.obj _ _ st7)
   obtain⟨p,v1,v2,e7,sq7,nx7⟩:=next xv H7 y7
   subst e7
   refine wpAny_mono (pg _ s7 _ H7 (.ref p) u (fun σ' H'=>σ'=some v1::some v2::jCA σ idx∧H'=H7) I7' r7 ⟨p,[v1,v2],rfl,sq7,rfl,v1,[v2],rfl,v2,[],rfl,rfl,rfl,rfl⟩) (fun _ s8 h8=>?_) fun _ _ z=>z.elim
   obtain⟨σ8,H8,I8,e8,e8'⟩:=h8
   subst e8 e8'
   have again:∀{H9:Hp}{s9:Shared}{ys':List V}{m':Nat},Inv (jAs X N scope cl C s2 H2 fp) ([]++jGM fp s7.heap) (some v1::some v2::jCA σ idx) H9 s9→H9 D=some (.lst ys')→m'<n→W (i+1) m' ys' H9 →
    ∃m,m<n∧∃i z1 z2 H' ys,Inv (jAs X N scope cl C s2 H2 fp) [] (z1::z2::jCA σ idx) H' s9∧tn i s9.heap∧(∀b∈fp,H' b=none)∧H' D=some (.lst ys)∧W i m ys H':=fun {H9 s9 ys' m'} I9 hD9 hm w9=>by
    refine⟨m',hm,i+1,some v1,some v2,H9,ys',I9.unpinned,T.keep _ _ _ st7 fun b hb o e=>(I9.pin (b,o) (List.mem_append_right _ (List.mem_append_right _ (jCl hb e)))).1,fun b hb=>?_,hD9,w9⟩
    obtain⟨o,e,d⟩:=T.obj _ _ st7 b hb
    exact(I9.pin (b,o) (List.mem_append_right _ (List.mem_append_right _ (jCl hb e)))).2.1
   refine wpAny_mono (helt cl C s2 H2 fp _ s8 _ H8 _ I8 nx7) (fun y s10 hh=>?_) fun _ _ z=>z.elim
   obtain⟨v,H10,I10,r10,hD10,hl,m',hm,w'⟩:=hh
   refine wpAny_mono (jA7 (X:=jAs X N scope cl C s2 H2 fp) _ s10 _ H10 (.ref D) [v] (.ref D) [y] (fun _ H'=>H'=upd H10 D (.lst (ys++[v]))) I10 rfl (.cons r10 .nil) ⟨D,ys,v,rfl,rfl,hD10,hl,rfl⟩) (fun _ s11 hh=>?_) fun _ _ z=>z.elim
   obtain⟨_,H11,I11,_,e11⟩:=hh
   subst e11
   exact again I11 jAp hm w'
 exact codeAny_compStart_list (loop _ rfl) (T.self X.A 0 _ _ _ st4 (loop _ rfl))
theorem jMx {elt iter:Expr}{wi:TI}{te:Hp→TE}{pos:Pos}(O:jCO X x y' scope N idx) (hc:X.calm=true) (hi:PI X (.Tuple [.Name x px,.Name y' py'] kt pt) iter wi)
 (helt:∀cl C s₀ H₀ fp,PE (jAs X N scope cl C s₀ H₀ fp) elt (te H₀))
 (hs:∀x,foldedSetIterable iter X.env x=pure x:=by intro _;rfl):PE X (.ListComp elt [⟨.Tuple [.Name x px,.Name y' py'] kt pt,iter,[],0⟩] scope pos) (jI8 X.K idx wi te):=by
 intro pins s σ H Q I h
 rw[eval_ListComp]
 refine jHS (use:=none) O hc hi helt hs I h fun s2 H2 fp cl C D σ' H' s' I2 f2 hC I' q=>?_
 obtain⟨m,hn,_⟩:=I'.loc
 exact⟨m,hn,fun h' hs'=>⟨.ref D,H',jEP I2 f2 hC I' hs',rfl,q⟩⟩
theorem jIG {i:Nat}{y:Str}{py spos:Pos}{elt iter:Expr}{wi:TI}{te:Hp→TE}{pos:Pos}(O:jCO X x y' scope N idx) (hc:X.calm=true) (hi:PI X (.Tuple [.Name x px,.Name y' py'] kt pt) iter wi)
 (helt:∀cl C s₀ H₀ fp,PE (jAs X N scope cl C s₀ H₀ fp) elt (te H₀)) (hN:X.N.Nodup) (hy:X.N[i]? = some y) (hly:Loc X.env.scope y)
 (hsw:swapsWith (.ListComp elt [⟨.Tuple [.Name x px,.Name y' py'] kt pt,iter,[],0⟩] scope pos) (some (.Name y py)) spos.line X.env=pure true:=by rfl) (hs:∀x,foldedSetIterable iter X.env x=pure x:=by intro _;rfl)
 (hfn:X.fn y=true∨X.env.scope.names.lookup y=some .local:=by first|exact .inl rfl|exact .inr rfl|assumption) :
 PS X (.Assign [.Name y py] (.ListComp elt [⟨.Tuple [.Name x px,.Name y' py'] kt pt,iter,[],0⟩] scope pos) spos) (jQ2 i (jI8 X.K idx wi te)):=by
 intro pins s σ H D I h
 rw[exec_Assign_Name_used _ _ _ _ hsw]
 refine wpAny_bind (wpAny_standAt (wpAny_bind ?_))
 show wpAny _ X.A (do let _ ←comprehension (.ListComp elt [⟨.Tuple [.Name x px,.Name y' py'] kt pt,iter,[],0⟩] scope pos) scope X.env _ (newList []) false (eval iter X.env) (some (assign (.Name y py) X.env))) _ _ s
 refine wpAny_bind (wpAny_mono (jHS (use:=some (assign (.Name y py) X.env)) (QQ:=fun _ s'=>SP X pins D .next s') O hc hi helt hs I h fun s2 H2 fp cl C E σ' H' s' I2 f2 hC I' q=>?_) (fun _ s' hq=>wpAny_pure (wpAny_pure hq)) fun _ _ e=>e)
 have I3:Inv X pins σ H' s':=jEP (h':=s'.heap) I2 f2 hC I' ⟨rfl,fun _ _=>rfl⟩
 obtain⟨mC,hnC,_⟩:=I'.loc
 have h0:X.s₀.heap.objs.size≤C:=Nat.le_trans I2.sz (Nat.le_of_lt hC)
 have hCL:C≠X.env.locals:=Nat.ne_of_gt (Nat.lt_trans I2.lt hC)
 have hCc:∀y c,X.env.cells.lookup y=some c→c≠C:=fun y c e=>by
  obtain⟨v,ic⟩:=I2.cell y c e
  exact Nat.ne_of_lt (Nat.lt_trans ic.lt hC)
 have hCp:∀p∈X.pn++pins,p.1≠C:=fun p hp=>Nat.ne_of_lt (Nat.lt_trans (Heap.lt_size (I2.pin p hp).1) hC)
 show wpAny _ X.A (assign (.Name y py) X.env (.ref E)) _ _ _
 refine wpAny_assign_Name (jGz (v:=.ref E) I3 hN hy hly rfl (fun s4 I4 hb=>?_) hfn)
 obtain⟨a,hsa,ha⟩:=hb
 have hCa:C≠a:=by
  rcases ha with rfl|ha
  ·exact hCL
  ·exact fun z=>hCc y a ha z.symm
 exact⟨mC,hnC.sameBut hsa hCa,fun h' hs'=>⟨_,H',jK6 I4 hs' h0 I'.free hCL hCc hCp,q⟩⟩
end
def jMm (τ:Tau)(idx:List Nat)(x y:D):Tau:=some (.d x)::some (.d y)::(jCA τ idx).map (Option.map S.share)
section
variable {X:Cx}{x y':Str}{px py' pt pos:Pos}{kt:Nat}{scope:Scope}{N:List Str}{idx:List Nat}{σ:St}{τ:Tau}{elt:Expr}{ta:TA3}{te:TE3}
theorem jLD {B p p0 q:HZ}{d e:D}{v u:V}(r:Rep X B τ σ p) (e0:Ext p p0) (e':Ext p0 q) (iv:Is X.K q.z v d) (iu:Is X.K q.z u e):Rep (cxC X N scope p0.h) p0 (jMm τ idx d e) (some v::some u::jCA σ idx) q:=by
 have base:=jHu (N:=N) (scope:=scope) (idx:=idx) r e0 e' iu
 have no:∀(i:Nat)(xs:List D),¬(jMm τ idx d e)[i]? = some (some (.l xs)):=fun i xs z=>by
  cases i with
  |zero=>cases z
  |succ k =>
   have z':(jKK τ idx e)[k]? = some (some (.l xs)):=z
   cases k with
   |zero=>cases z'
   |succ k =>
    have z2:((jCA τ idx).map (Option.map S.share))[k]? = some (some (.l xs)):=z'
    rw[List.getElem?_map] at z2
    cases q:(jCA τ idx)[k]? with
    |none=>rw[q] at z2;cases z2
    |some o =>
     rw[q] at z2
     cases o with
     |none=>cases z2
     |some s0 =>
      have z3:s0.share=.l xs:=Option.some.inj (Option.some.inj z2)
      cases s0<;>cases z3
 refine⟨?_,e',fun i s hs=>?_,fun i xs a z _=>absurd z (no i xs),fun i j xs s a _ z _ _ _=>absurd z (no i xs),fun _=>jBb.refl _,fun k a h=>by cases h⟩
 ·have:=base.len
  show(some u::jCA σ idx).length+1=(jKK τ idx e).length+1
  rw[this]
 ·cases i with
  |zero=>cases hs;exact⟨v,rfl,iv⟩
  |succ k=>exact base.val k s hs
def jLb (idx:List Nat)(ta:TA3)(te:TE3):TE3:=fun τ R=>ta τ fun ss=>∃(s1 s2:S)(xs ys:List D),ss=[s1,s2]∧items s1=some xs∧(s2=.r ys∨s2=.d (.lst ys))∧∃os:List D,os.length=min xs.length ys.length ∧
 (∀(n:Nat)(x y:D),xs[n]? = some x→ys[n]? = some y→te (jMm τ idx x y) (fun s=>dd s.arg fun d=>os[n]? = some d))∧os.length≤100000∧R (.l os)
theorem jSo {K:PySem.W.Frag}{p:HZ}{v:V}{s:S}{xs:List D}(h:IsS K p v s) (hz:jBb p.z p.h) (hs:items s=some xs):∃a vs b,v=.ref a∧SqB K b p.h a vs∧Iss K p.z vs xs:=by
 cases s with
 |d z =>
  cases z with
  |tup zs=>cases hs;obtain⟨a,vs,rfl,h3,h4⟩:=Is.tup_inv h;exact⟨a,vs,true,rfl,SqT.same hz h3,h4⟩
  |lst zs=>cases hs;obtain⟨a,vs,rfl,h3,h4⟩:=Is.lst_inv h;exact⟨a,vs,false,rfl,hz.seq h3,h4⟩
  |_=>cases hs
 |l zs=>cases hs;obtain⟨a,vs,rfl,h3,h4⟩:=h;exact⟨a,vs,false,rfl,SqL.of h3,h4⟩
 |r zs=>cases hs;obtain⟨a,vs,rfl,h3,h4⟩:=h;exact⟨a,vs,false,rfl,h3,h4⟩
theorem SqB.same {K:PySem.W.Frag}{b:Bool}{H H':Hp}{a:Addr}{vs:List V}(e:jBb H H') (h:SqB K b H a vs):SqB K b H' a vs:=by
 unfold SqB at *
 cases b with
 |true=>exact SqT.same e h
 |false=>exact e.seq h
theorem jIm {Q:VK}{H:Hp}(h:FE X (jLb idx ta te) σ H Q):jI8 X.K idx (jRa X.K (FA X ta)) (fun H₀=>FE (cxC X N scope H₀) te) σ H Q:=by
 obtain⟨B,z,τ,R,r,ht,q⟩:=h
 refine⟨B,z,τ,_,r,ht,fun ss vs p1 e1 i1 h1=>?_⟩
 obtain⟨s1,s2,xs,ys,rfl,hx,hy,os,hlen,hel,hsz,hR⟩:=h1
 obtain⟨w1,w2,rfl,is1,is2⟩:∃w1 w2,vs=[w1,w2]∧IsS X.K p1 w1 s1∧IsS X.K p1 w2 s2:=by
  have hl:=i1.1
  match vs,hl with
  |[w1,w2],_=>exact⟨w1,w2,rfl,(i1.2 0 w1 s1 rfl rfl).1,(i1.2 1 w2 s2 rfl rfl).1⟩
 obtain⟨a1,vs1,b,rfl,q1,j1⟩:=jSo is1 e1.sub hx
 have hy':items s2=some ys:=by rcases hy with rfl|rfl<;>rfl
 obtain⟨a2,vs2,q2,j2,rfl⟩:∃a2 vs2,SqL X.K p1.h a2 vs2∧Iss X.K p1.z vs2 ys∧w2=.ref a2:=by
  rcases hy with rfl|rfl
  ·obtain⟨p,us,e,h3,h4⟩:=is2;exact⟨p,us,h3,h4,e⟩
  ·obtain⟨p,us,e,h3,h4⟩:=Is.lst_inv is2;exact⟨p,us,e1.sub.seq h3,h4,e⟩
 refine⟨a1,a2,rfl,b,⟨vs1,q1⟩,⟨vs2,q2⟩,fun D' hD hK=>?_⟩
 have sz:(100000:Nat)<sizeLine:=by decide
 have q2':SqB X.K false p1.h a2 vs2:=q2
 refine⟨fun i m us H'=>m=os.length-i∧i≤os.length∧∃z',Ext p1 ⟨H',z'⟩∧z' D'=none∧Iss X.K z' us (os.take i),⟨os.length,rfl,Nat.zero_le _,p1.z,Ext.own e1.sub hD _,e1.sub.free hD,Iss.nil⟩,?_⟩
 rintro i m us H' hD' ⟨rfl,hi,z',hs,hzD,hiss⟩
 have q1h:SqB X.K b H' a1 vs1:=q1.same hs.hh
 have q2h:SqB X.K false H' a2 vs2:=q2'.same hs.hh
 have l1:=j1.1
 have l2:=j2.1
 by_cases hlt:i<os.length
 ·have n1:i<vs1.length:=by omega
  have n2:i<vs2.length:=by omega
  refine .inr ⟨⟨vs1,vs2,_,_,q1h,q2h,List.getElem?_eq_getElem n1,List.getElem?_eq_getElem n2⟩,fun v H'' hy2=>?_⟩
  obtain⟨p,v1,v2,hp,rfl,g1,g2,rfl⟩:=hy2
  obtain⟨d1,hd1,id1⟩:=jDk j1 (g1 vs1 q1h)
  obtain⟨d2,hd2,id2⟩:=jDk j2 (g2 vs2 q2h)
  have eo:Ext ⟨H',z'⟩ ⟨upd H' p (.tup [v1,v2]),z'⟩:=Ext.own hs.sub hp _
  have hs2:=hs.trans eo
  refine⟨p,v1,v2,rfl,.inl (.inl jAp),?_⟩
  have rr:Rep (cxC X N scope p1.h) p1 (jMm τ idx d1 d2) (some v1::some v2::jCA σ idx) ⟨upd H' p (.tup [v1,v2]),z'⟩:=jLD r e1 hs2 (id1.mono hs.zz) (id2.mono hs.zz)
  have hDp:D'≠p:=by rintro rfl;rw[hD'] at hp;cases hp
  have hD2:upd H' p (.tup [v1,v2]) D'=some (.lst us):=by rw[jAn hDp];exact hD'
  have hys:us.length≤i:=by rw[hiss.1,List.length_take];omega
  have keep:∀q:HZ,Ext ⟨upd H' p (.tup [v1,v2]),z'⟩ q→q.z D'=none:=fun q e=>by
   cases y:q.z D' with
   |none=>rfl
   |some o =>
    rcases e.new D' o y with y|y
    ·exact nomatch (hzD.symm.trans y)
    ·exact nomatch (hD2.symm.trans y)
  refine⟨_,_,_,_,rr,hel i d1 d2 hd1 hd2,fun s v3 q4 e4 i4 f4 h4=>?_⟩
  obtain⟨y,hy',h4⟩:=jEe h4
  obtain⟨z5,e5,i5⟩:=jDE e4 i4 f4
  rw[hy'] at i5
  have hD4:q4.h D'=some (.lst us):=e5.hh _ _ hD2
  have hz5:z5 D'=none:=keep _ e5
  refine⟨hD4,by omega,os.length-(i+1),by omega,rfl,hlt,z5,?_,hz5,?_⟩
  ·have e15:=hs2.trans e5
   refine⟨fun b o hb'=>?_,e15.zz,fun b o hb'=>?_,e15.new⟩
   ·have hne:b≠D':=by rintro rfl;rw[hD] at hb';cases hb'
    show upd q4.h D' _ b=some o
    rw[jAn hne]
    exact e15.hh b o hb'
   ·have hne:b≠D':=by
     rintro rfl
     have hb2:z5 b=some o:=hb'
     rw[hz5] at hb2;cases hb2
    show upd q4.h D' _ b=some o
    rw[jAn hne]
    exact e15.sub b o hb'
  ·rw[List.take_add_one,h4]
   exact(hiss.mono e5.zz).snoc i5
 ·have ei:i=os.length:=by omega
  subst ei
  rw[List.take_length] at hiss
  refine .inl ⟨⟨vs1,vs2,q1h,q2h,by omega⟩,q (.l os) _ ⟨H',z'⟩ (e1.trans hs) ⟨D',us,rfl,hD',hiss⟩ (fun xs a _ h2=>?_) hR⟩
  cases h2
  exact⟨e1.hh.free hD,hK,hzD⟩
variable {e1 e2:Expr}{np pn:Pos}
theorem jOb (O:jCO X x y' scope N idx)(hc:X.calm=true)(hi:PI X (.Tuple [.Name x px,.Name y' py'] kt pt) (.Call (.Name "zip" np) [e1,e2] [] pn) (jRa X.K (FA X ta)))(helt:∀cl C s₀ H₀ fp,PE3 (jAs X N scope cl C s₀ H₀ fp) elt te)
 (hs:∀x,foldedSetIterable (.Call (.Name "zip" np) [e1,e2] [] pn) X.env x=pure x:=by intro _;rfl):PE3 X (.ListComp elt [⟨.Tuple [.Name x px,.Name y' py'] kt pt,.Call (.Name "zip" np) [e1,e2] [] pn,[],0⟩] scope pos) (jLb idx ta te) :=
 ⟨jBe (jMx O hc hi (jFi helt) hs) fun σ H Q h=>jIm h⟩
theorem jQ9 {i:Nat}{y:Str}{py spos:Pos}(O:jCO X x y' scope N idx) (hc:X.calm=true) (hi:PI X (.Tuple [.Name x px,.Name y' py'] kt pt) (.Call (.Name "zip" np) [e1,e2] [] pn) (jRa X.K (FA X ta))) (helt:∀cl C s₀ H₀ fp,PE3 (jAs X N scope cl C s₀ H₀ fp) elt te)
 (hN:X.N.Nodup) (hy:X.N[i]? = some y) (hly:Loc X.env.scope y)
 (hsw:swapsWith (.ListComp elt [⟨.Tuple [.Name x px,.Name y' py'] kt pt,.Call (.Name "zip" np) [e1,e2] [] pn,[],0⟩] scope pos) (some (.Name y py)) spos.line X.env=pure true:=by rfl) (hs:∀x,foldedSetIterable (.Call (.Name "zip" np) [e1,e2] [] pn) X.env x=pure x:=by intro _;rfl)
 (hfn:X.fn y=true∨X.env.scope.names.lookup y=some .local:=by first|exact .inl rfl|exact .inr rfl|assumption) (hp:jCT X i:=by first|exact jCn rfl|exact jCv rfl (by decide)|assumption) :
 PS3 X (.Assign [.Name y py] (.ListComp elt [⟨.Tuple [.Name x px,.Name y' py'] kt pt,.Call (.Name "zip" np) [e1,e2] [] pn,[],0⟩] scope pos) spos) (jQD i (jLb idx ta te)) :=
 ⟨jBG (jIG O hc hi (jFi helt) hN hy hly hsw hs hfn) fun D2 σ H hh=>by obtain⟨B,z,τ,D3,r,ht,c⟩:=hh;exact jIm ⟨B,z,τ,_,r,ht,fun s v H' e i f h=>by
  cases s with
  |r _=>exact h.elim
  |d y=>exact c.nx _ _ _ (r.set e i f rfl hp) h
  |l ys=>exact c.nx _ _ _ (r.set e i f rfl hp) h⟩⟩
end
end L3
namespace L3
open PySem PySem.Spec PyProof.Rows L2
def jHk (fN:List Str)(scope:Scope)(N:List Str):Nat→List Nat→Bool
 |_,[]=>true
 |k,j::r=>(match N[k+2]?,fN[j]? with
  |some y,some y'=>y==y'&&(scope.names.lookup y==some NameKind.free)
  |_,_=>false)&&jHk fN scope N (k+1) r
def jJX (fsc:Scope)(fN:List Str)(x z:Str)(scope:Scope)(N:List Str)(idx:List Nat):Bool :=
 (scope.kind == .function)&&scope.names.all (fun y=>!(y.2 == .cell))&&scope.names.all (fun y=>!(y.2 == .local)||scope.names.lookup y.1==some .local)&&(scope.names.lookup x==some NameKind.local)&&(scope.names.lookup z==some NameKind.local) &&
 scope.names.all (fun y=>!(y.2 == .free)||fsc.names.lookup y.1==some .cell)&&decide N.Nodup&&(N[0]? == some x)&&(N[1]? == some z)&&(N.length==idx.length+2)&&jHk fN scope N 0 idx
theorem jKG {fN:List Str}{scope:Scope}{N:List Str}:∀{idx:List Nat}{k0:Nat},jHk fN scope N k0 idx=true→∀(k j:Nat),idx[k]? = some j→∃y,N[k0+k+2]? = some y∧fN[j]? = some y∧scope.names.lookup y=some .free
 |[],_,_,_,_,h=>by simp at h
 |i::r,k0,h,k,j,hk=>by
  unfold jHk at h
  rw[Bool.and_eq_true] at h
  cases k with
  |zero =>
   have e:i=j:=by simpa using hk
   subst e
   obtain⟨h1,_⟩:=h
   split at h1
   ·rename_i y y' e1 e2
    rw[Bool.and_eq_true] at h1
    have ey:y=y':=by simpa using h1.1
    subst ey
    exact⟨y,e1,e2,by simpa using h1.2⟩
   ·cases h1
  |succ k =>
   obtain⟨y,a,b,c⟩:=jKG h.2 k j (by simpa using hk)
   exact⟨y,by rw[←a];congr 1;omega,b,c⟩
theorem jCO.mk' {X:Cx}{x z:Str}{scope:Scope}{N:List Str}{idx:List Nat}(fsc:Scope) (fN:List Str) (h1:X.env.scope=fsc) (h2:X.N=fN) (h:jJX fsc fN x z scope N idx=true):jCO X x z scope N idx:=by
 subst h1 h2
 unfold jJX at h
 simp only[Bool.and_eq_true] at h
 obtain⟨⟨⟨⟨⟨⟨⟨⟨⟨⟨a1,a2⟩,a3⟩,a4⟩,b4⟩,a5⟩,a6⟩,a7⟩,b7⟩,a8⟩,a9⟩:=h
 refine⟨by simpa using a1,fun y hy=>?_,fun y hy hl=>?_,by simpa using a4,by simpa using b4,fun y hy hf=>?_,by simpa using a6,by simpa using a7,by simpa using b7,by simpa using a8,fun k j hk=>?_⟩
 ·have:=List.all_eq_true.mp a2 y hy
  simpa using this
 ·have:=List.all_eq_true.mp a3 y hy
  rw[hl] at this
  simpa using this
 ·have:=List.all_eq_true.mp a5 y hy
  rw[hf] at this
  show X.env.scope.names.lookup y.1=some .cell
  simpa using this
 ·have:=jKG a9 k j hk
  simpa using this
theorem jG5 {α β:Type}{f g:α→Option β}:∀{l:List α},(∀a∈l,f a=g a)→l.filterMap f=l.filterMap g
 |[],_=>rfl
 |a::l,h=>by
  rw[List.filterMap_cons,List.filterMap_cons,h a (List.mem_cons.mpr (.inl rfl)),jG5 fun b hb=>h b (List.mem_cons.mpr (.inr hb))]
theorem jML (items:List Value):slicePick items.toArray none none (some (-1))=items.reverse.toArray:=by
 unfold slicePick
 congr 1
 have e:sliceBounds none none (some (-1)) items.toArray.size=((items.length:Int)-1,-1,-1):=by
  unfold sliceBounds
  simp
 rw[e]
 unfold sliceRange
 have c:(if (-1:Int)>0 then (if ((items.length:Int)-1) < -1 then ((-1:Int)-((items.length:Int)-1) + -1-1) / -1 else 0) else (if ((items.length:Int)-1) > -1 then (((items.length:Int)-1) - -1 - -1-1)/(- -1) else 0))=(items.length:Int):=by
  rw[if_neg (by decide)]
  split
  ·rw[show(- -1:Int)=1 by decide,Int.ediv_one];omega
  ·omega
 show((List.range (if (-1:Int)>0 then (if ((items.length:Int)-1) < -1 then ((-1:Int)-((items.length:Int)-1) + -1-1) / -1 else 0) else (if ((items.length:Int)-1) > -1 then (((items.length:Int)-1) - -1 - -1-1)/(- -1) else 0)).toNat).map fun(k:Nat)=>(((items.length:Int)-1) + -1*(k:Int)).toNat).filterMap (items.toArray[·]?)=_
 rw[c,Int.toNat_natCast]
 have q:((List.range items.length).map fun(k:Nat)=>(((items.length:Int)-1) + -1*(k:Int)).toNat).filterMap (items.toArray[·]?)=(List.range items.length).filterMap fun k=>items[items.length-1-k]? := by
  rw[List.filterMap_map]
  refine jG5 fun k hk=>?_
  have hk:=List.mem_range.mp hk
  show items.toArray[(((items.length:Int)-1) + -1*(k:Int)).toNat]? = _
  rw[show(((items.length:Int)-1) + -1*(k:Int)).toNat=items.length-1-k by omega,List.getElem?_toArray]
 rw[q]
 have g:(List.range items.length).filterMap (fun k=>items[items.length-1-k]?)=(List.range items.length).filterMap (fun k=>items.reverse[k]?):=by
  refine jG5 fun k hk=>?_
  have hk:=List.mem_range.mp hk
  rw[List.getElem?_reverse hk]
 rw[g]
 have all:∀(l:List Value),(List.range l.length).filterMap (fun k=>l[k]?)=l:=fun l=>by
  induction l with
  |nil=>rfl
  |cons a l ih =>
   rw[List.length_cons,List.range_succ_eq_map,List.filterMap_cons,List.filterMap_map]
   show a::_=_
   congr 1
 have:=all items.reverse
 rw[List.length_reverse] at this
 exact this
section
variable {X:Cx}{e st:Expr}{te ts:TE3}{pos p2:Pos}
def jTv (K:PySem.W.Frag)(t:TE)(ts:TE):TE:=fun σ H Q=>t σ H fun x H1=>ts σ H1 fun u H2=>u=.int (-1)∧∃a xs,x=.ref a∧SqL K H2 a xs∧∀p,H2 p=none→K.lookup p=none→Q (.ref p) (upd H2 p (.lst xs.reverse))
theorem jQA {t t2:TE}(he:PE X e t) (hs:PE X st t2):PE X (.Subscript e (.Slice none none (some st) p2) pos) (jTv X.K t t2):=by
 intro pins s σ H Q I h
 refine Subscript_ (thn (he pins s σ H _ I h) fun v s1 hh=>?_)
 obtain⟨x,H1,I1,r1,q1⟩:=hh
 refine wpAny_Slice ?_
 rw[evalPart_none]
 refine wpAny_pure (wpAny_pure ?_)
 rw[evalPart_some]
 refine thn (hs pins s1 σ H1 _ I1 q1) fun vs s3 hh=>?_
 obtain⟨u,H3,I3,r3,e3,a,xs,e4,hx,q⟩:=hh
 subst e3 e4
 obtain⟨tk,rfl⟩:=r3
 cases r1
 have I4:Inv X pins σ H3 { s3 with heap:=s3.heap.push { cls:=.type "slice",data:=.fields #[.none,.none,.int (-1) tk] } }:=I3.kept (t':=s3.toks) fun b ob q=>Heap.get?_push_of_some _ q
 obtain⟨its,r,ht,hz⟩:=I4.list hx
 have hlen:=r.length
 have go:wpAny (model X.prog X.w) X.A (getItem (.ref a) (.ref s3.heap.objs.size)) (EP X pins σ Q) X.xe { s3 with heap:=s3.heap.push { cls:=.type "slice",data:=.fields #[.none,.none,.int (-1) tk] } }:=by
  refine wpAny_getItem_list_slice ht.isList (Heap.IsSliceOf.new ..) .none .none (.int (-1) tk) (by decide) ?_ (by rw[List.size_toArray]<;>omega)
  rw[jML]
  refine⟨.ref _,_,I4.laid (t':=s3.toks) (o:=.lst xs.reverse) (fun b ob q=>Heap.get?_push_of_some _ q) (Nat.le_refl _) ?_,rfl,q _ (I4.hok.fresh (Nat.le_refl _)) ?_⟩
  ·exact⟨by rw[List.length_reverse];exact hz,_,0,r.reverse,Heap.get?_push_size _ rfl⟩
  ·cases e:X.K.lookup _ with
   |none=>rfl
   |some o=>exact absurd (Heap.lt_size (I4.kIn _ _ e)) (Nat.lt_irrefl _)
 show wpAny (model X.prog X.w) X.A (subscriptTail e (.Slice none none (some st) p2) (.ref a) (.ref s3.heap.objs.size)) (EP X pins σ Q) X.xe _
 exact tail_any (ops:=[.ref a,.ref s3.heap.objs.size]) ht.isList.typeIs slot_list_getitem.lookup go (by with_unfolding_all rfl)
def jSZ (te ts:TE3):TE3:=fun τ R=>te τ fun s=>∃xs,(s=.r xs∨s=.l xs∨s=.d (.lst xs))∧ts τ fun u=>u=.d (.int (-1))∧R (.l xs.reverse)
theorem jOF {K:PySem.W.Frag}{H:Hp}{vs:List V}{xs:List D}(h:Iss K H vs xs):Iss K H vs.reverse xs.reverse:=by
 refine⟨by rw[List.length_reverse,List.length_reverse];exact h.1,fun i v x h1 h2=>?_⟩
 have hi:i<vs.length:=by have:=(List.getElem?_eq_some_iff.mp h1).1;rw[List.length_reverse] at this;exact this
 rw[List.getElem?_reverse hi] at h1
 rw[List.getElem?_reverse (by rw[←h.1];exact hi),←h.1] at h2
 exact h.2 _ v x h1 h2
theorem jRm (he:PE3 X e te)(hs:PE3 X st ts):PE3 X (.Subscript e (.Slice none none (some st) p2) pos) (jSZ te ts) :=
 ⟨jBe (jQA he.out hs.out) fun σ H Q hh=>by
  obtain⟨B,z,τ,R,r,ht,q⟩:=hh
  refine⟨B,z,τ,_,r,ht,fun s v q1 e1 i1 f1 h1=>?_⟩
  obtain⟨xs,hx,h1⟩:=h1
  refine⟨B,_,τ,_,r.mono e1,h1,fun u v2 q2 e2 i2 f2 h2=>?_⟩
  obtain⟨rfl,hR⟩:=h2
  have i1':=IsS.mono e2 i1
  refine⟨Is.int_inv i2,?_⟩
  have fin:∀(a:Addr)(vs:List V),v=.ref a→SqL X.K q2.h a vs→Iss X.K q2.z vs xs→∃a xs,v=.ref a∧SqL X.K q2.h a xs∧∀p,q2.h p=none→X.K.lookup p=none→Q (.ref p) (upd q2.h p (.lst xs.reverse)):=fun a vs hv hq hi =>
   ⟨a,vs,hv,hq,fun p hp hk=>q (.l xs.reverse) _ ⟨_,q2.z⟩ ((e1.trans e2).trans (Ext.own e2.sub hp _)) ⟨p,_,rfl,jAp,jOF hi⟩ (fun ys a _ h2=>by
    cases h2
    exact⟨(e1.trans e2).hh.free hp,hk,e2.sub.free hp⟩) hR⟩
  rcases hx with rfl|rfl|rfl
  ·obtain⟨a,vs,rfl,h3,h4⟩:=i1';exact fin a vs rfl h3 h4
  ·obtain⟨a,vs,rfl,h3,h4⟩:=i1';exact fin a vs rfl (SqL.of h3) h4
  ·obtain⟨a,vs,rfl,h3,h4⟩:=Is.lst_inv i1';exact fin a vs rfl (e2.sub.seq h3) h4⟩
end
end L3
namespace L3
open PySem PySem.Spec PyProof.Rows L2
section
variable {X:Cx}{pos:Pos}{e:Expr}{te tb:TE3}
def jO5 (sp:SpL)(U:Str→Prop)(idx:List Nat)(te tb:TE3):TE3:=fun τ R=>te τ fun s=>∃(dom:D→Prop)(p:D→Bool),(∀x,dom x→tb (some (.d x)::jH6 τ idx) fun s=>s=.d (.bl (p x)))∧∀a,sp a dom p [s.arg,.d (.ref a)] R U
theorem jFN {k kb:Nat}{g x y:Str}{np lp:Pos}{ps:List Str}{sp:SpL}{c T:Addr}{params:Arguments}{body:Expr}{scope:Scope}{N:List Str}{idx:List Nat}(cal:jRG X.prog X.w X.K X.mg X.base k (kb+1) g ps sp) (hr:jDO k X.A) (hg:Gl X g)
 (ht:PySem.W.tabIn X.K y=some (c,T)) (hp:(recsOf X.prog).any (fun d=>d.name==y)=true) (hcode:X.env.code=.ref c) (O:jAP X x scope N idx) (he:PE3 X e te)
 (hb:∀cl nm a cdv A outer s H,jDO kb (A.deeper (PySem.W.envX nm scope s.heap.objs.size a cdv cl))→PE3 (jOL X N scope cl nm a cdv A outer s H) body tb)
 (hfn:∀y,X.fn y=true:=by intro _;rfl) (hdef:defaultsOf params X.env=([],[]):=by rfl) (hco:scope.isCoroutine=false:=by rfl) (hgen:scope.isGenerator=false:=by rfl)
 (hbind:∀(q:Str)(cl:List (Str×Addr))(pm cv ct u:Value),bindArgs (PySem.W.kla_fn "<lambda>" q params body scope cl pm cv ct) ⟨[u],[]⟩=pure [(x,u)]:=by intros;rfl)
 (hdb:(g==("__debug__":Str))=false:=by decide) (hs:starEach [e,.Lambda params body scope lp] X.env=(false,eval e X.env)::starEach [.Lambda params body scope lp] X.env:=by exact jBR rfl) :
 PE3 X (.Call (.Name g np) [e,.Lambda params body scope lp] [] pos) (jO5 sp NoU idx te tb):=by
 refine⟨fun pins s σ H Q I hh=>?_⟩
 obtain⟨B,z,τ,R,r,ht1,q⟩:=hh
 obtain⟨f,fd,F,hm,hk,hbi⟩:=cal.ex
 obtain⟨cl,ecl,hcl,hcl2⟩:=jE9 (scope:=scope) (env:=X.env) fun y hy hf=>I.ok.has y.1 (.inl (O.free y hy hf))
 refine wpAny_Call_Name_kw (jE6 I hg hm ?_ hdb)
 refine PySem.W.callWith_K (h₀:=X.base) I.ok.mod.kin hk ?_ hs rfl
 rw[hs]
 refine Calls.spliced_cons (thn (he.out pins s σ H (fun v1 H1=>∃z1 d,Ext ⟨H,z⟩ ⟨H1,z1⟩∧IsS X.K ⟨H1,z1⟩ v1 d∧d.own=false∧∃(dom:D→Prop)(p:D→Bool),(∀x,dom x→tb (some (.d x)::jH6 τ idx) fun s=>s=.d (.bl (p x)))∧∀a,sp a dom p [d,.d (.ref a)] R NoU) I ⟨B,z,τ,_,r,ht1,fun s2 v2 q2 e2 i2 f2 h2=>?_⟩) fun u1 s1 ⟨v1,H1,I1,rv1,z1,d,e1,i1,ow,dom,p,hdom,hsp⟩=>?_)
 ·obtain⟨dom,p,hdom,h3⟩:=h2
  obtain⟨z5,e5,i5⟩:=jDE e2 i2 f2
  exact⟨z5,s2.arg,e5,i5,jLf s2,dom,p,hdom,h3⟩
 have hs2:starEach [Expr.Lambda params body scope lp] X.env=(false,eval (.Lambda params body scope lp) X.env)::starEach [] X.env:=jBR rfl
 rw[hs2]
 refine Calls.spliced_cons (jNg I1 ht hp hcode hdef ecl fun a c' H2 s2 fo oc fs nm qual tq pm ctv I2 sm ha hfo hc hoc hfs=>?_)
 refine Calls.spliced_nil ⟨I2.kIn,?_⟩
 have e12:Ext ⟨H,z⟩ ⟨H2,z1⟩:=e1.trans (Ext.grow e1.sub sm)
 have r2:Rep X B τ σ ⟨H2,z1⟩:=r.mono e12
 have hL:=jQg O hfn I2 hcl hcl2 ha hfo hc hoc hfs hco hgen hbind hb r2 hdom
 have i1':IsS X.K ⟨H2,z1⟩ v1 d:=IsS.mono (Ext.grow e1.sub sm) i1
 have hl:[u1,Value.ref a].length=ps.length:=F.len a dom p _ _ _ (hsp a)
 have rvs:jBJ [v1,V.ref a] [u1,Value.ref a]:=.cons rv1 (.cons rfl .nil)
 refine wpAny_call (codeAny_mono (F.run X.A X.stack s2 H2 ⟨[u1,.ref a],[]⟩ [u1,.ref a] [v1,.ref a] Q (fun _ _ _=>False) a dom p hr I2.env0 ?_ rvs hL ⟨z1,[d,.d (.ref a)],R,NoU,e12.sub,⟨rfl,fun i v s h1 h2=>?_⟩,hsp a,fun s v q3 e3 i3 f3 h3=>q s v q3 (e12.trans e3) i3 (jKk e12 f3) h3,fun _ _ _ _ _ z=>z.elim⟩) fun rr s3 hq=>?_)
 ·have:=hbi s2 [u1,.ref a] I2.kIn (by simpa using hl)
  simpa using this
 ·match i,h1,h2 with
  |0,h1,h2=>cases h1;cases h2;exact⟨i1',ow⟩
  |1,h1,h2=>cases h1;cases h2;exact⟨Is.ref a,rfl⟩
 cases rr with
 |error e=>exact(show False from hq).elim
 |ok fl =>
  cases fl with
  |ret u=>exact I2.after hq
  |next=>exact False.elim hq
  |brk=>exact False.elim hq
  |cont=>exact False.elim hq
end
end L3
namespace L3
open PySem PySem.Spec PyProof.Rows L2
section
variable {X:Cx}{e a b:Expr}{te ta tb:TE3}{pos:Pos}
def jSj (X:Cx):R2:=fun x y H Q=>∃l b xs zs,x=.ref l∧y=.ref b∧SqL X.K H l xs∧SqL X.K H b zs∧xs.length+zs.length≤sizeLine∧∀p,H p=none→Q (.ref p) (upd H p (.lst (xs++zs)))
theorem jN7:OpR X (binaryOp .Add) (jSj X):=by
 intro pins s σ H x y v u Q I rx ry h
 obtain⟨l,b,xs,zs,rfl,rfl,hH,hB,hz,q⟩:=h
 cases rx
 cases ry
 obtain⟨its,r,p1,_⟩:=I.list hH
 obtain⟨its2,r2,p2,_⟩:=I.list hB
 have e1:=r.length
 have e2:=r2.length
 obtain⟨⟨cls,dd,data,sl⟩,ho,hc,n,hd⟩:=p1.isList
 obtain⟨⟨cls2,dd2,data2,sl2⟩,ho2,hc2,n2,hd2⟩:=p2.isList
 simp only at hc hd hc2 hd2
 subst hc hd hc2 hd2
 have e:its.toArray++its2.toArray=(its++its2).toArray:=by simp
 refine concat_meets ⟨_,ho,rfl⟩ ⟨_,ho2,rfl⟩ noFill_list_add seq_list_add PySem.F.slot_list_add PySem.F.entry_list_add (PySem.F.args_list_add_2 _ _) (list_addW l b its.toArray its2.toArray n n2 dd dd2 sl sl2 (by simp;omega)) ⟨ho,ho2,?_⟩
 rw[e]
 exact⟨.ref _,_,I.lnew (t':=s.toks) (r.append r2) (by rw[List.length_append];omega),rfl,q _ I.fresh⟩
def jRu (ta tb:TE3):TE3:=fun τ R=>ta τ fun x=>tb τ fun y=>match jRC x,jRC y with
 |some xs,some ys=>xs.length+ys.length≤100000∧R (.l (xs++ys))
 |_,_=>False
theorem jNT (ha:PE3 X a ta)(hb:PE3 X b tb):PE3 X (.BinOp a .Add b pos) (jRu ta tb) :=
 ⟨jBe (jSp (jPe jN7 ha.out hb.out)) fun σ H Q hh=>by
  obtain⟨B,z,τ,R,r,ht,q⟩:=hh
  refine⟨B,_,τ,_,r,ht,fun x v H1 e1 i1 f1 h1=>?_⟩
  refine⟨B,_,τ,_,r.mono e1,h1,fun y u H2 e2 i2 f2 h2=>?_⟩
  have sz:(100000:Nat)<sizeLine:=by decide
  split at h2
  ·rename_i xs ys hx hy
   obtain⟨a,vs,rfl,g1,g2⟩:=jNI (IsS.mono e2 i1) e2.sub hx
   obtain⟨b,ws,rfl,g1',g2'⟩:=jNI i2 e2.sub hy
   refine⟨a,b,vs,ws,rfl,rfl,g2,g2',by rw[g1.1,g1'.1];omega,fun p hp hk=>?_⟩
   exact q (.l (xs++ys)) _ ⟨_,H2.z⟩ ((e1.trans e2).trans (Ext.own e2.sub hp _)) ⟨p,vs++ws,rfl,jAp,g1.append g1'⟩ (fun zs c _ h3=>by
    cases h3
    exact⟨(e1.trans e2).hh.free hp,hk p _ jAp,e2.sub.free hp⟩) h2.2
  ·exact h2.elim⟩
end
end L3
namespace CH
abbrev Ln2:=Rat×Rat
def ev (l:Ln2)(t:Rat):Rat:=l.1*t+l.2
abbrev Ps:=List (Rat×Ln2)
def bg (P:Ps)(i:Nat):Rat:=(P.getD i (0,(0,0))).1
def ln (P:Ps)(i:Nat):Ln2:=(P.getD i (0,(0,0))).2
def LeO (t:Rat):Option Rat→Prop
 |none=>True
 |some u=>t≤u
def LtO (t:Rat):Option Rat→Prop
 |none=>True
 |some u=>t<u
theorem LtO.le {t:Rat}{T:Option Rat}(h:LtO t T):LeO t T:=by
 cases T with
 |none=>trivial
 |some u=>exact Rat.le_of_lt h
structure PU (P:Ps)(h:Rat→Rat)(T:Option Rat):Prop where
 up:∀i,i+1<P.length→bg P i<bg P (i+1)
 lt:∀i,i<P.length→LtO (bg P i) T
 v:∀i,i<P.length→∀t,bg P i≤t→(i+1<P.length→t≤bg P (i+1))→LeO t T→h t=ev (ln P i) t
theorem jIu {P:Ps}{c:Rat×Ln2}{i:Nat}(h:i<P.length):bg (P++[c]) i=bg P i∧ln (P++[c]) i=ln P i:=by
 have e:(P++[c]).getD i (0,(0,0))=P.getD i (0,(0,0)):=by
  rw[List.getD_eq_getElem?_getD,List.getD_eq_getElem?_getD,List.getElem?_append_left h]
 unfold bg ln
 rw[e]
 exact⟨rfl,rfl⟩
theorem jRb {P:Ps}{c:Rat×Ln2}:bg (P++[c]) P.length=c.1∧ln (P++[c]) P.length=c.2:=by
 have e:(P++[c]).getD P.length (0,(0,0))=c:=by
  rw[List.getD_eq_getElem?_getD,List.getElem?_append_right (Nat.le_refl _),Nat.sub_self]
  rfl
 unfold bg ln
 rw[e]
 exact⟨rfl,rfl⟩
theorem PU.push {P:Ps}{h:Rat→Rat}{T:Option Rat}{b:Rat}{l:Ln2}(p:PU P h (some b)) (hb:LtO b T) (hv:∀t,b≤t→LeO t T→h t=ev l t):PU (P++[(b,l)]) h T:=by
 have hl:(P++[(b,l)]).length=P.length+1:=by simp
 have r:=jRb (P:=P) (c:=(b,l))
 refine⟨fun i hi=>?_,fun i hi=>?_,fun i hi t h1 h2 h3=>?_⟩
 ·rw[hl] at hi
  have hi':i<P.length:=by omega
  rw[(jIu hi').1]
  by_cases c:i+1<P.length
  ·rw[(jIu c).1];exact p.up i c
  ·rw[show i+1=P.length by omega,r.1];exact p.lt i hi'
 ·rw[hl] at hi
  by_cases c:i<P.length
  ·rw[(jIu c).1]
   have:=p.lt i c
   cases T with
   |none=>trivial
   |some u =>
    have h1:bg P i<b:=this
    have h2:b<u:=hb
    show bg P i<u
    grind
  ·rw[show i=P.length by omega,r.1];exact hb
 ·rw[hl] at hi h2
  by_cases c:i<P.length
  ·rw[(jIu c).2]
   rw[(jIu c).1] at h1
   have h2':=h2 (by omega)
   by_cases c2:i+1<P.length
   ·rw[(jIu c2).1] at h2'
    exact p.v i c t h1 (fun _=>h2') (by
     have:=p.lt _ c2
     have h1:bg P (i+1)<b:=this
     show t≤b
     grind)
   ·rw[show i+1=P.length by omega,r.1] at h2'
    exact p.v i c t h1 (fun z=>absurd z c2) h2'
  ·have e:i=P.length:=by omega
   subst e
   rw[r.1] at h1
   rw[r.2]
   exact hv t h1 h3
theorem PU.skip {P:Ps}{h:Rat→Rat}{T:Option Rat}{b:Rat}{l:Ln2}(p:PU P h (some b)) (hb:LtO b T) (ne:0<P.length) (e:ln P (P.length-1)=l) (hv:∀t,b≤t→LeO t T→h t=ev l t):PU P h T:=by
 refine⟨p.up,fun i hi=>?_,fun i hi t h1 h2 h3=>?_⟩
 ·have:=p.lt i hi
  cases T with
  |none=>trivial
  |some u =>
   have h1:bg P i<b:=this
   have h2:b<u:=hb
   show bg P i<u
   grind
 ·by_cases c:t≤b
  ·exact p.v i hi t h1 h2 c
  ·have hn:¬i+1<P.length:=fun z=>by
    have h4:=h2 z
    have h5:bg P (i+1)<b:=p.lt _ z
    grind
   rw[show i=P.length-1 by omega,e]
   exact hv t (by grind) h3
def mp (a b:Rat):Rat:=if a<b then a else b
theorem jRe {a b:Rat}(h:a≤b):mp a b=a:=by unfold mp;split<;>grind
theorem jRx {a b:Rat}(h:b≤a):mp a b=b:=by unfold mp;split<;>grind
def jSG (l1 l2:Ln2)(a:Rat):Option Rat→Prop
 |some u=>a<u∧ev l1 u≤ev l2 u
 |none=>l1.1≤l2.1
def jSk (l1 l2:Ln2)(a:Rat):Option Rat→Prop
 |some u=>a<u∧ev l2 u<ev l1 u
 |none=>l2.1<l1.1
theorem jIf {l1 l2:Ln2}{a t:Rat}{T:Option Rat}(ha:a≤t) (ht:LeO t T) (n:ev l1 a≤ev l2 a) (th:jSG l1 l2 a T):ev l1 t≤ev l2 t:=by
 cases T with
 |none =>
  unfold ev at *
  have h1:l1.1≤l2.1:=th
  have h2:0≤(l2.1-l1.1)*(t-a):=Rat.mul_nonneg (by grind) (by grind)
  grind
 |some u =>
  obtain⟨h0,h1⟩:=th
  unfold ev at *
  have h2:t≤u:=ht
  have h3:0<u-a:=by grind
  have k1:0≤(l2.1*a+l2.2-(l1.1*a+l1.2))*(u-t):=Rat.mul_nonneg (by grind) (by grind)
  have k2:0≤(l2.1*u+l2.2-(l1.1*u+l1.2))*(t-a):=Rat.mul_nonneg (by grind) (by grind)
  have k3:(l2.1*t+l2.2-(l1.1*t+l1.2))*(u-a)=(l2.1*a+l2.2-(l1.1*a+l1.2))*(u-t)+(l2.1*u+l2.2-(l1.1*u+l1.2))*(t-a):=by grind
  refine Rat.not_lt.mp fun z=>?_
  have k4:(l2.1*t+l2.2-(l1.1*t+l1.2))*(u-a)<0:=by
   have:=Rat.mul_pos (a:=l1.1*t+l1.2-(l2.1*t+l2.2)) (b:=u-a) (by grind) h3
   grind
  grind
def xg (l1 l2:Ln2):Rat:=(l2.2-l1.2)/(l1.1-l2.1)
theorem jKc {l1 l2:Ln2}(h:l1.1≠l2.1):ev l1 (xg l1 l2)=ev l2 (xg l1 l2):=by
 unfold ev xg
 have:l1.1-l2.1≠0:=by grind
 have k:(l2.2-l1.2)/(l1.1-l2.1)*(l1.1-l2.1)=l2.2-l1.2:=Rat.div_mul_cancel this
 grind
theorem jN5 {l1 l2:Ln2}:xg l1 l2=xg l2 l1:=by
 unfold xg
 by_cases h:l1.1=l2.1
 ·rw[h,show l2.1-l2.1=0 by grind];rw[Rat.div_def,Rat.div_def];simp
 ·have x1:=jKc h
  have x2:=jKc (l1:=l2) (l2:=l1) (Ne.symm h)
  unfold xg at x1 x2
  unfold ev at x1 x2
  have k:(l1.1-l2.1)*((l2.2-l1.2)/(l1.1-l2.1)-(l1.2-l2.2)/(l2.1-l1.1))=0:=by grind
  rcases Rat.mul_eq_zero.mp k with z|z
  ·grind
  ·grind
theorem jF6 {l1 l2:Ln2}{a:Rat}{T:Option Rat}(n:ev l1 a<ev l2 a) (th:jSk l1 l2 a T):l1.1≠l2.1∧a<xg l1 l2∧LtO (xg l1 l2) T:=by
 have s:l2.1<l1.1:=by
  cases T with
  |none=>exact th
  |some u =>
   obtain⟨h0,h1⟩:=th
   unfold ev at n h1
   refine Rat.not_le.mp fun z=>?_
   have k:0≤(l2.1-l1.1)*(u-a):=Rat.mul_nonneg (by grind) (by grind)
   grind
 have ne:l1.1≠l2.1:=by grind
 have x:=jKc ne
 have key:∀t,(l1.1-l2.1)*(xg l1 l2-t)=ev l2 t-ev l1 t:=fun t=>by
  unfold ev at x ⊢
  grind
 have pos:∀t,ev l1 t<ev l2 t→t<xg l1 l2:=fun t h=>by
  refine Rat.not_le.mp fun z=>?_
  have k1:=key t
  have k2:0≤(l1.1-l2.1)*(t-xg l1 l2):=Rat.mul_nonneg (by grind) (by grind)
  grind
 have neg:∀t,ev l2 t<ev l1 t→xg l1 l2<t:=fun t h=>by
  refine Rat.not_le.mp fun z=>?_
  have k1:=key t
  have k2:0≤(l1.1-l2.1)*(xg l1 l2-t):=Rat.mul_nonneg (by grind) (by grind)
  grind
 refine⟨ne,pos a n,?_⟩
 cases T with
 |none=>trivial
 |some u=>exact neg u th.2
end CH
namespace CH
def sg (x:Rat):Int:=if x<0 then -1 else if 0<x then 1 else 0
theorem jLh {x:Rat}:sg x<0 ↔ x<0:=by unfold sg;split<;>(try split)<;>constructor<;>intro h<;>first|grind|omega
theorem jLk {x:Rat}:0<sg x ↔ 0<x:=by unfold sg;split<;>(try split)<;>constructor<;>intro h<;>first|grind|omega
theorem jOS {x:Rat}:sg x=0 ↔ x=0:=by unfold sg;split<;>(try split)<;>constructor<;>intro h<;>first|grind|omega
def jC7 (l1 l2:Ln2):Option Rat→Rat
 |some u=>ev l1 u-ev l2 u
 |none=>l1.1-l2.1
theorem jOf {l1 l2:Ln2}{a:Rat}{T:Option Rat}(ha:LtO a T) (h:jC7 l1 l2 T≤0):jSG l1 l2 a T:=by
 cases T with
 |none=>exact(by have h':l1.1-l2.1≤0:=h;show l1.1≤l2.1;grind)
 |some u=>exact⟨ha,by have h':ev l1 u-ev l2 u≤0:=h;grind⟩
theorem jKb {l1 l2:Ln2}{a:Rat}{T:Option Rat}(ha:LtO a T) (h:0<jC7 l1 l2 T):jSk l1 l2 a T:=by
 cases T with
 |none=>exact(by have h':0<l1.1-l2.1:=h;show l2.1<l1.1;grind)
 |some u=>exact⟨ha,by have h':0<ev l1 u-ev l2 u:=h;grind⟩
theorem jFe {l1 l2:Ln2}{T:Option Rat}:jC7 l2 l1 T=- jC7 l1 l2 T:=by
 cases T with
 |none=>show l2.1-l1.1=-(l1.1-l2.1);grind
 |some u=>show ev l2 u-ev l1 u=-(ev l1 u-ev l2 u);grind
theorem jHY {l1 l2:Ln2}{a:Rat}{T:Option Rat}(n:ev l1 a<ev l2 a) (th:jSk l1 l2 a T) :
 a<xg l1 l2∧LtO (xg l1 l2) T∧(∀t,a≤t→t≤xg l1 l2→ev l1 t≤ev l2 t)∧∀t,xg l1 l2≤t→LeO t T→ev l2 t≤ev l1 t:=by
 obtain⟨ne,x1,x2⟩:=jF6 n th
 have x:=jKc ne
 refine⟨x1,x2,fun t h1 h2=>?_,fun t h1 h2=>?_⟩
 ·exact jIf (T:=some (xg l1 l2)) h1 h2 (Rat.le_of_lt n) ⟨x1,by rw[x];exact Rat.le_refl⟩
 ·refine jIf (T:=T) h1 h2 (by rw[x];exact Rat.le_refl) ?_
  cases T with
  |none=>exact Rat.le_of_lt th
  |some u=>exact⟨x2,Rat.le_of_lt th.2⟩
end CH
namespace CH
open PySem L2 L3
abbrev RL:=Int×Int×Int
abbrev RP:=(Int×Int)×RL
def lnD (l:RL):D:=.tup [.int l.1,.int l.2.1,.int l.2.2]
def rpD (p:RP):D:=.tup [.tup [.int p.1.1,.int p.1.2],lnD p.2]
structure LW (k:Nat)(l:RL)(q:Ln2):Prop where
 s:Wq k l.1 l.2.2 q.1
 c:Wq k l.2.1 l.2.2 q.2
structure PW1 (k m:Nat)(p:RP)(q:Rat×Ln2):Prop where
 t:Wq m p.1.1 p.1.2 q.1
 l:LW k p.2 q.2
structure PL (k m:Nat)(ps:List RP)(P:Ps):Prop where
 len:ps.length=P.length
 at_:∀(i:Nat)(p:RP)(q:Rat×Ln2),ps[i]? = some p→(P:List (Rat×Ln2))[i]? = some q→PW1 k m p q
theorem PL.snoc {k m:Nat}{ps:List RP}{P:Ps}{p:RP}{q:Rat×Ln2}(h:PL k m ps P) (w:PW1 k m p q):PL k m (ps++[p]) (P++[q]):=by
 refine⟨by simp[h.len],fun i p' q' h1 h2=>?_⟩
 by_cases c:i<ps.length
 ·rw[List.getElem?_append_left c] at h1
  rw[List.getElem?_append_left (by rw[←h.len];exact c)] at h2
  exact h.at_ i p' q' h1 h2
 ·rw[List.getElem?_append_right (by omega)] at h1
  rw[List.getElem?_append_right (by rw[←h.len];omega),←h.len] at h2
  cases e:i-ps.length with
  |zero=>rw[e] at h1 h2;cases h1;cases h2;exact w
  |succ n=>rw[e] at h1;cases h1
theorem LW.at_ {k m:Nat}{l:RL}{q:Ln2}{tn td:Int}{t:Rat}(h:LW k l q) (w:Wq m tn td t):Wq (k+m+1) (l.1*tn+l.2.1*td) (l.2.2*td) (ev q t):=by
 have w1:=h.s.mul w
 refine⟨Int.mul_pos h.s.pos w.pos,?_,?_,jAw w1.lb (by omega)⟩
 ·have e1:=h.s.eq
  have e2:=h.c.eq
  have e3:=w.eq
  unfold ev
  rw[Rat.intCast_add,Rat.intCast_mul,Rat.intCast_mul,Rat.intCast_mul,e1,e2,e3]
  grind
 ·have b1:=jAh h.s.la w.la
  have b2:=jAh h.c.la w.lb
  exact jEX b1 b2
theorem LW.uniq {k k':Nat}{l:RL}{q q':Ln2}(h:LW k l q) (h':LW k' l q'):q=q':=by
 have hb:(l.2.2:Rat)≠0:=by
  have:=h.s.pos
  intro z
  have:l.2.2=0:=Rat.intCast_inj.mp z
  omega
 have cn:∀a b:Rat,a*(l.2.2:Rat)=b*(l.2.2:Rat)→a=b:=fun a b e=>by
  have:(a-b)*(l.2.2:Rat)=0:=by grind
  rcases Rat.mul_eq_zero.mp this with z|z
  ·grind
  ·exact absurd z hb
 have e1:=cn _ _ (h.s.eq.symm.trans h'.s.eq)
 have e2:=cn _ _ (h.c.eq.symm.trans h'.c.eq)
 exact Prod.ext e1 e2
end CH
namespace CH
open PySem L2 L3
theorem jQf {a b:Int}{q:Rat}(hb:0<b) (e:(a:Rat)=q*(b:Rat)):sg q=a.sign:=by
 have hb:(0:Rat)<(b:Rat):=Rat.intCast_pos.mpr hb
 unfold sg
 by_cases c1:q<0
 ·rw[if_pos c1]
  have:(a:Rat)<0:=by
   have:=Rat.mul_pos (a:=-q) (b:=(b:Rat)) (by grind) hb
   rw[e];grind
  have:a<0:=Rat.intCast_neg_iff.mp this
  rw[Int.sign_eq_neg_one_of_neg this]
 ·rw[if_neg c1]
  by_cases c2:0<q
  ·rw[if_pos c2]
   have:(0:Rat)<(a:Rat):=by rw[e];exact Rat.mul_pos c2 hb
   have:0<a:=Rat.intCast_pos.mp this
   rw[Int.sign_eq_one_of_pos this]
  ·rw[if_neg c2]
   have z:q=0:=by grind
   rw[z] at e
   have:(a:Rat)=0:=by rw[e];grind
   have:a=0:=Rat.intCast_inj.mp this
   rw[this];rfl
theorem jOx {k m:Nat}{l1 l2:RL}{q1 q2:Ln2}{tn td:Int}{t:Rat}(h1:LW k l1 q1) (h2:LW k l2 q2) (w:Wq m tn td t) :
 ((l1.1*tn+l1.2.1*td)*l2.2.2-(l2.1*tn+l2.2.1*td)*l1.2.2).sign=sg (ev q1 t-ev q2 t):=by
 refine(jQf (b:=l1.2.2*l2.2.2*td) (Int.mul_pos (Int.mul_pos h1.s.pos h2.s.pos) w.pos) ?_).symm
 have e1:=h1.s.eq
 have e2:=h1.c.eq
 have e3:=h2.s.eq
 have e4:=h2.c.eq
 have e5:=w.eq
 unfold ev
 simp only[Rat.intCast_sub,Rat.intCast_add,Rat.intCast_mul]
 rw[e1,e2,e3,e4,e5]
 grind
theorem jOu {k:Nat}{l1 l2:RL}{q1 q2:Ln2}(h1:LW k l1 q1) (h2:LW k l2 q2):(l1.1*l2.2.2-l2.1*l1.2.2).sign=sg (q1.1-q2.1):=by
 refine(jQf (b:=l1.2.2*l2.2.2) (Int.mul_pos h1.s.pos h2.s.pos) ?_).symm
 have e1:=h1.s.eq
 have e3:=h2.s.eq
 simp only[Rat.intCast_sub,Rat.intCast_mul]
 rw[e1,e3]
 grind
theorem jJs {k:Nat}{l1 l2:RL}{q1 q2:Ln2}(h1:LW k l1 q1) (h2:LW k l2 q2) (ne:q1.1≠q2.1) :
 l1.1*l2.2.2-l2.1*l1.2.2≠0∧Rat.divInt (l2.2.1*l1.2.2-l1.2.1*l2.2.2) (l1.1*l2.2.2-l2.1*l1.2.2)=xg q1 q2:=by
 have e1:=h1.s.eq
 have e2:=h1.c.eq
 have e3:=h2.s.eq
 have e4:=h2.c.eq
 have p1:(l1.2.2:Rat)≠0:=by have:=Rat.intCast_pos.mpr h1.s.pos;grind
 have p2:(l2.2.2:Rat)≠0:=by have:=Rat.intCast_pos.mpr h2.s.pos;grind
 have eb:((l1.1*l2.2.2-l2.1*l1.2.2:Int):Rat)=(q1.1-q2.1)*((l1.2.2:Rat)*(l2.2.2:Rat)):=by
  simp only[Rat.intCast_sub,Rat.intCast_mul];rw[e1,e3];grind
 have ea:((l2.2.1*l1.2.2-l1.2.1*l2.2.2:Int):Rat)=(q2.2-q1.2)*((l1.2.2:Rat)*(l2.2.2:Rat)):=by
  simp only[Rat.intCast_sub,Rat.intCast_mul];rw[e2,e4];grind
 have np:(l1.2.2:Rat)*(l2.2.2:Rat)≠0:=fun z=>by
  rcases Rat.mul_eq_zero.mp z with z|z
  ·exact p1 z
  ·exact p2 z
 have nb:((l1.1*l2.2.2-l2.1*l1.2.2:Int):Rat)≠0:=fun z=>by
  rw[eb] at z
  rcases Rat.mul_eq_zero.mp z with z|z
  ·grind
  ·exact np z
 refine⟨fun z=>nb (by rw[z];rfl),?_⟩
 rw[Rat.divInt_eq_div,ea,eb]
 unfold xg
 have n1:q1.1-q2.1≠0:=by grind
 generalize (l1.2.2:Rat)*(l2.2.2:Rat)=B at *
 have k1:(q2.2-q1.2)/(q1.1-q2.1)*(q1.1-q2.1)=q2.2-q1.2:=Rat.div_mul_cancel n1
 have n2:(q1.1-q2.1)*B≠0:=fun z=>by
  rcases Rat.mul_eq_zero.mp z with z|z
  ·exact n1 z
  ·exact np z
 have k2:(q2.2-q1.2)*B/((q1.1-q2.1)*B)*((q1.1-q2.1)*B)=(q2.2-q1.2)*B:=Rat.div_mul_cancel n2
 have k3:((q2.2-q1.2)*B/((q1.1-q2.1)*B)-(q2.2-q1.2)/(q1.1-q2.1))*((q1.1-q2.1)*B)=0:=by grind
 rcases Rat.mul_eq_zero.mp k3 with z|z
 ·grind
 ·exact absurd z n2
theorem jRq {k:Nat}{l1 l2:RL}{q1 q2:Ln2}(h1:LW k l1 q1) (h2:LW k l2 q2) (ne:q1.1≠q2.1):Sz (k+k+1) (xg q1 q2):=by
 obtain⟨n,e⟩:=jJs h1 h2 ne
 rw[←e]
 exact jC5 n (jCF (jAh h2.c.la h1.s.lb) (jAh h1.c.la h2.s.lb)) (jCF (jAh h1.s.la h2.s.lb) (jAh h2.s.la h1.s.lb))
theorem jQt (a b:RL):eqN 1 (lnD a) (lnD b)=decide (a=b):=by
 have e:eqN 1 (lnD a) (lnD b)=((a.1==b.1&&(a.2.1==b.2.1&&(a.2.2==b.2.2&&true)))&&true):=rfl
 rw[e]
 by_cases h:a=b
 ·subst h;simp
 ·rw[decide_eq_false h]
  cases c:((a.1==b.1&&(a.2.1==b.2.1&&(a.2.2==b.2.2&&true)))&&true) with
  |false=>rfl
  |true =>
   exfalso
   apply h
   simp only[Bool.and_true,Bool.and_eq_true,beq_iff_eq] at c
   exact Prod.ext c.1 (Prod.ext c.2.1 c.2.2)
theorem jHq {α:Type}{f:α→D}{xs:List α}{a:α}(h:xs[xs.length-1]? = some a):atI (xs.map f) (-1)=some (f a):=by
 have hl:0<xs.length:=by
  cases xs with
  |nil=>cases h
  |cons _ _=>simp
 unfold atI ixN
 rw[List.length_map,if_neg (by omega),if_pos (by omega)]
 have e:((-1:Int)+(xs.length:Int)).toNat=xs.length-1:=by omega
 show(xs.map f)[((-1:Int)+(xs.length:Int)).toNat]? = _
 rw[e,List.getElem?_map,h]
 rfl
theorem jTe {a b:RL}{A B:Prop}(h1:¬a=b→A) (h2:a=b→B):if (!eqN 1 (lnD a) (lnD b))=true then A else B:=by
 rw[jQt]
 exact jJi h1 h2
end CH
namespace CH
open PySem L2 L3
theorem LW.moved {k m:Nat}{l:RL}{q:Ln2}{wn wd vn vd:Int}{w v:Rat}(h:LW k l q) (hw:Wq m wn wd w) (hv:Wq m vn vd v) :
 LW (k+m+m+2) (l.1*(wd*vd),l.2.1*(wd*vd)-l.1*wn*vd+l.2.2*vn*wd,l.2.2*(wd*vd)) (q.1,q.2-q.1*w+v):=by
 have e1:=h.s.eq
 have e2:=h.c.eq
 have e3:=hw.eq
 have e4:=hv.eq
 have pb:0<l.2.2*(wd*vd):=Int.mul_pos h.s.pos (Int.mul_pos hw.pos hv.pos)
 have sb:=jAh h.s.lb (jAh hw.lb hv.lb)
 refine⟨⟨pb,?_,jAw (jAh h.s.la (jAh hw.lb hv.lb)) (by omega),jAw sb (by omega)⟩,⟨pb,?_,?_,jAw sb (by omega)⟩⟩
 ·show((l.1*(wd*vd):Int):Rat)=_
  simp only[Rat.intCast_mul]
  rw[e1]
  grind
 ·show((l.2.1*(wd*vd)-l.1*wn*vd+l.2.2*vn*wd:Int):Rat)=_
  simp only[Rat.intCast_mul,Rat.intCast_add,Rat.intCast_sub]
  rw[e1,e2,e3,e4]
  grind
 ·have b1:=jAw (jAh h.c.la (jAh hw.lb hv.lb)) (show k+(m+m)≤k+m+m by omega)
  have b2:=jAh (jAh h.s.la hw.la) hv.lb
  have b3:=jAh (jAh h.s.lb hv.la) hw.lb
  have b4:=jEX (jCF b1 b2) (jAw b3 (Nat.le_succ _))
  exact b4
theorem Wq.moved {m n:Nat}{a b wn wd:Int}{t w:Rat}(h:Wq m a b t) (hw:Wq n wn wd w):Wq (m+n+1) (a*wd+wn*b) (b*wd) (t+w):=by
 refine⟨Int.mul_pos h.pos hw.pos,?_,?_,jAw (jAh h.lb hw.lb) (by omega)⟩
 ·have e1:=h.eq
  have e2:=hw.eq
  simp only[Rat.intCast_mul,Rat.intCast_add]
  rw[e1,e2]
  grind
 ·exact jEX (jAh h.la hw.lb) (jAw (jAh hw.la h.lb) (by omega))
theorem jNa {q:Ln2}{w v t:Rat}:ev (q.1,q.2-q.1*w+v) t=ev q (t-w)+v:=by
 unfold ev
 grind
end CH
namespace CH
open PySem L2 L3
def mvP (w v:Rat)(p:Rat×Ln2):Rat×Ln2:=(p.1+w,(p.2.1,p.2.2-p.2.1*w+v))
def mvR (wn wd vn vd:Int)(p:RP):RP:=((p.1.1*wd+wn*p.1.2,p.1.2*wd),(p.2.1*(wd*vd),p.2.2.1*(wd*vd)-p.2.1*wn*vd+p.2.2.2*vn*wd,p.2.2.2*(wd*vd)))
theorem PL.get {k m:Nat}{ps:List RP}{P:Ps}(h:PL k m ps P){i:Nat}{p:RP}(hp:ps[i]? = some p):∃q:Rat×Ln2,(P:List (Rat×Ln2))[i]? = some q∧PW1 k m p q:=by
 have hi:=(List.getElem?_eq_some_iff.mp hp).1
 rw[h.len] at hi
 exact⟨_,List.getElem?_eq_getElem hi,h.at_ i p _ hp (List.getElem?_eq_getElem hi)⟩
theorem PL.moved {k m n:Nat}{ps:List RP}{P:Ps}{wn wd vn vd:Int}{w v:Rat}(h:PL k m ps P) (hw:Wq n wn wd w) (hv:Wq n vn vd v):PL (k+n+n+2) (m+n+1) (ps.map (mvR wn wd vn vd)) (P.map (mvP w v)):=by
 refine⟨by simp[h.len],fun i p q h1 h2=>?_⟩
 rw[List.getElem?_map] at h1 h2
 cases e1:ps[i]? with
 |none=>rw[e1] at h1;cases h1
 |some p0 =>
  obtain⟨q0,e2,w0⟩:=h.get e1
  rw[e1] at h1
  rw[e2] at h2
  cases h1
  cases h2
  exact⟨w0.t.moved hw,w0.l.moved hw hv⟩
theorem jDi {α:Type}{f:α→D}{xs:List α}:(xs.map fun x=>some (f x)).filterMap id=xs.map f:=by
 induction xs with
 |nil=>rfl
 |cons x xs ih=>simp[ih]
end CH
namespace CH
open PySem L2 L3
def flP (p:Rat×Ln2):Rat×Ln2:=(p.1,(-p.2.1,-p.2.2))
def flR (p:RP):RP:=(p.1,(-p.2.1,-p.2.2.1,p.2.2.2))
theorem Wq.neg {k:Nat}{a b:Int}{q:Rat}(h:Wq k a b q):Wq k (-a) b (-q):=by
 refine⟨h.pos,?_,?_,h.lb⟩
 ·have e:=h.eq
  rw[Rat.intCast_neg,e]
  grind
 ·have l:=h.la
  show(-a).natAbs<2^k
  rw[Int.natAbs_neg]
  exact l
theorem PL.flipped {k m:Nat}{ps:List RP}{P:Ps}(h:PL k m ps P):PL k m (ps.map flR) (P.map flP):=by
 refine⟨by simp[h.len],fun i p q h1 h2=>?_⟩
 rw[List.getElem?_map] at h1 h2
 cases e1:ps[i]? with
 |none=>rw[e1] at h1;cases h1
 |some p0 =>
  obtain⟨q0,e2,w0⟩:=h.get e1
  rw[e1] at h1
  rw[e2] at h2
  cases h1
  cases h2
  exact⟨w0.t,⟨w0.l.s.neg,w0.l.c.neg⟩⟩
theorem jOQ {p:Rat×Ln2}{t:Rat}:ev (flP p).2 t=- ev p.2 t:=by
 unfold flP ev
 grind
theorem jGl {k m:Nat}{p:RP}{q:Rat×Ln2}(w:PW1 k m p q):Rat.divInt p.1.1 p.1.2=q.1∧Rat.divInt (p.2.1*p.1.1+p.2.2.1*p.1.2) (p.2.2.2*p.1.2)=ev q.2 q.1:=by
 have wa:=w.l.at_ w.t
 have key:∀{j:Nat}{a b:Int}{x:Rat},Wq j a b x→Rat.divInt a b=x:=fun {j a b x} h=>by
  have hb:(b:Rat)≠0:=by have:=Rat.intCast_pos.mpr h.pos;grind
  rw[Rat.divInt_eq_div,h.eq]
  have k2:x*(b:Rat)/(b:Rat)*(b:Rat)=x*(b:Rat):=Rat.div_mul_cancel hb
  have k3:(x*(b:Rat)/(b:Rat)-x)*(b:Rat)=0:=by grind
  rcases Rat.mul_eq_zero.mp k3 with z|z
  ·grind
  ·exact absurd z hb
 exact⟨key w.t,key wa⟩
end CH
namespace CH
open PySem L2 L3
theorem jRR {k l:Nat}{a b c d:Int}{p q:Rat}(h1:Wq k a b p) (h2:Wq l c d q):decide (a*d<c*b)=decide (p<q):=by
 have pb:(0:Rat)<(b:Rat):=Rat.intCast_pos.mpr h1.pos
 have pd:(0:Rat)<(d:Rat):=Rat.intCast_pos.mpr h2.pos
 have pp:(0:Rat)<(b:Rat)*(d:Rat):=Rat.mul_pos pb pd
 have ea:((a*d:Int):Rat)=p*((b:Rat)*(d:Rat)):=by rw[Rat.intCast_mul,h1.eq];grind
 have eb:((c*b:Int):Rat)=q*((b:Rat)*(d:Rat)):=by rw[Rat.intCast_mul,h2.eq];grind
 refine decide_eq_decide.mpr ⟨fun h=>?_,fun h=>?_⟩
 ·have h':((a*d:Int):Rat)<((c*b:Int):Rat):=Rat.intCast_lt_intCast.mpr h
  rw[ea,eb] at h'
  refine Rat.not_le.mp fun z=>?_
  have:0≤(p-q)*((b:Rat)*(d:Rat)):=Rat.mul_nonneg (by grind) (Rat.le_of_lt pp)
  grind
 ·have h':=Rat.mul_pos (a:=q-p) (b:=(b:Rat)*(d:Rat)) (by grind) pp
  refine Rat.intCast_lt_intCast.mp ?_
  rw[ea,eb]
  grind
theorem jLn {n j:Nat}{m b:Rat}(hm:Sz n m) (hb:Sz j b):LW (n+j) (m.num*(b.den:Int),b.num*(m.den:Int),(m.den:Int)*(b.den:Int)) (m,b):=by
 have wm:=Wq.of hm
 have wb:=Wq.of hb
 refine⟨⟨Int.mul_pos wm.pos wb.pos,?_,jAh wm.la wb.lb,jAh wm.lb wb.lb⟩,⟨Int.mul_pos wm.pos wb.pos,?_,jAw (jAh wb.la wm.lb) (by omega),jAh wm.lb wb.lb⟩⟩
 ·have e:=wm.eq
  simp only[Rat.intCast_mul]
  rw[e]
  grind
 ·have e:=wb.eq
  simp only[Rat.intCast_mul]
  rw[e]
  grind
end CH
namespace CH
structure Cnt (B S:List Rat)(P:Ps):Prop where
 up:∀i,i+1<P.length→bg P i<bg P (i+1)
 sl:∀i,i<P.length→(ln P i).1∈S
 st:∀i,i+1<P.length→bg P (i+1)∈B∨(ln P (i+1)).1<(ln P i).1
def bel (S:List Rat)(x:Rat):Nat:=(S.filter fun s=>decide (s<x)).length
theorem jNB {S:List Rat}{x y:Rat}(h:x∈S) (l:x<y):bel S x+1≤bel S y:=by
 unfold bel
 induction S with
 |nil=>cases h
 |cons a S ih =>
  have mono:∀T:List Rat,(T.filter fun s=>decide (s<x)).length≤(T.filter fun s=>decide (s<y)).length:=fun T=>by
   induction T with
   |nil=>exact Nat.le_refl _
   |cons b T ih2 =>
    rw[List.filter_cons,List.filter_cons]
    by_cases c:b<x
    ·have c2:b<y:=by grind
     rw[if_pos (by simp[c]),if_pos (by simp[c2])]
     simp;exact ih2
    ·rw[if_neg (by simp[c])]
     split
     ·simp;omega
     ·exact ih2
  rw[List.filter_cons,List.filter_cons]
  rcases List.mem_cons.mp h with rfl|h'
  ·rw[if_neg (by simp[Rat.lt_irrefl]),if_pos (by simp[l])]
   have:=mono S
   simp;omega
  ·have:=ih h'
   by_cases c:a<x
   ·have c2:a<y:=by grind
    rw[if_pos (by simp[c]),if_pos (by simp[c2])]
    simp;omega
   ·rw[if_neg (by simp[c])]
    split
    ·simp;omega
    ·exact this
theorem jL4 {S:List Rat}{x:Rat}(h:x∈S):bel S x+1≤S.length:=by
 unfold bel
 induction S with
 |nil=>cases h
 |cons a S ih =>
  rw[List.filter_cons]
  rcases List.mem_cons.mp h with rfl|h'
  ·rw[if_neg (by simp[Rat.lt_irrefl])]
   have:=List.length_filter_le (fun s=>decide (s<x)) S
   simp;omega
  ·have:=ih h'
   split
   ·simp;omega
   ·simp;omega
theorem Cnt.count {B S:List Rat}{P:Ps}(h:Cnt B S P):∀i,i<P.length→i+1+bel S (ln P i).1≤(bel B (bg P i)+(if bg P i∈B then 1 else 0)+1)*S.length:=by
 intro i
 induction i with
 |zero =>
  intro hi
  have:=jL4 (h.sl 0 hi)
  have k:1*S.length≤(bel B (bg P 0)+(if bg P 0∈B then 1 else 0)+1)*S.length:=Nat.mul_le_mul_right _ (by omega)
  omega
 |succ i ih =>
  intro hi
  have ih:=ih (by omega)
  have u:=h.up i hi
  have sm:=h.sl (i+1) hi
  have le1:bel B (bg P i)+(if bg P i∈B then 1 else 0)≤bel B (bg P (i+1)):=by
   split
   ·exact jNB (by assumption) u
   ·unfold bel
    have:∀T:List Rat,(T.filter fun s=>decide (s<bg P i)).length≤(T.filter fun s=>decide (s<bg P (i+1))).length:=fun T=>by
     induction T with
     |nil=>exact Nat.le_refl _
     |cons b T ih2 =>
      rw[List.filter_cons,List.filter_cons]
      by_cases c:b<bg P i
      ·have c2:b<bg P (i+1):=by grind
       rw[if_pos (by simp[c]),if_pos (by simp[c2])]
       simp;exact ih2
      ·rw[if_neg (by simp[c])]
       split
       ·simp;omega
       ·exact ih2
    exact this B
  by_cases c:bg P (i+1)∈B
  ·rw[if_pos c]
   have b1:=jL4 sm
   have k:(bel B (bg P i)+(if bg P i∈B then 1 else 0)+1)*S.length≤(bel B (bg P (i+1))+1)*S.length:=Nat.mul_le_mul_right _ (by omega)
   have e:(bel B (bg P (i+1))+1+1)*S.length=(bel B (bg P (i+1))+1)*S.length+S.length:=Nat.succ_mul _ _
   omega
  ·rw[if_neg c]
   rcases h.st i hi with z|z
   ·exact absurd z c
   ·have b1:=jNB sm z
    have k:(bel B (bg P i)+(if bg P i∈B then 1 else 0)+1)*S.length≤(bel B (bg P (i+1))+0+1)*S.length:=Nat.mul_le_mul_right _ (by omega)
    omega
theorem Cnt.len {B S:List Rat}{P:Ps}(h:Cnt B S P):P.length≤(B.length+1)*S.length:=by
 rcases Nat.eq_zero_or_pos P.length with z|z
 ·rw[z];exact Nat.zero_le _
 ·have c:=h.count (P.length-1) (by omega)
  have k:(bel B (bg P (P.length-1))+(if bg P (P.length-1)∈B then 1 else 0)+1)*S.length≤(B.length+1)*S.length:=by
   refine Nat.mul_le_mul_right _ ?_
   split
   ·have:=jL4 (S:=B) (by assumption)
    omega
   ·have:bel B (bg P (P.length-1))≤B.length:=List.length_filter_le _ _
    omega
  omega
end CH
namespace CH
open PySem L2 L3
def jIv (ps:List RP)(p:RP)(ps':List RP):Prop:=(ps'=ps++[p]∧∀q,ps[ps.length-1]? = some q→q.2≠p.2)∨(ps'=ps∧∃q,ps[ps.length-1]? = some q∧q.2=p.2)
theorem jIv.len {ps ps':List RP}{p:RP}(h:jIv ps p ps'):ps'.length≤ps.length+1:=by
 rcases h with⟨rfl,_⟩|⟨rfl,_⟩
 ·simp
 ·omega
structure jEr (B S:List Rat)(G:Ln2→Prop)(U:Rat→Prop)(k m:Nat)(h:Rat→Rat)(T:Option Rat)(qs:List RP)(Q:Ps):Prop where
 pl:PL k m qs Q
 pu:PU Q h T
 cn:Cnt B S Q
 gd:∀i,i<Q.length→G (ln Q i)∧U (bg Q i)
theorem Cnt.snoc {B S:List Rat}{P:Ps}{b:Rat}{l:Ln2}(c:Cnt B S P) (hb:0<P.length→bg P (P.length-1)<b) (hs:l.1∈S) (st:0<P.length→b∈B∨l.1<(ln P (P.length-1)).1):Cnt B S (P++[(b,l)]):=by
 have hl:(P++[(b,l)]).length=P.length+1:=by simp
 have r:=jRb (P:=P) (c:=(b,l))
 refine⟨fun i hi=>?_,fun i hi=>?_,fun i hi=>?_⟩
 ·rw[hl] at hi
  by_cases z:i+1<P.length
  ·rw[(jIu (show i<P.length by omega)).1,(jIu z).1];exact c.up i z
  ·have:i=P.length-1:=by omega
   rw[(jIu (show i<P.length by omega)).1,show i+1=P.length by omega,r.1,this]
   exact hb (by omega)
 ·rw[hl] at hi
  by_cases z:i<P.length
  ·rw[(jIu z).2];exact c.sl i z
  ·rw[show i=P.length by omega,r.2];exact hs
 ·rw[hl] at hi
  by_cases z:i+1<P.length
  ·rw[(jIu (show i<P.length by omega)).2,(jIu z).1,(jIu z).2];exact c.st i z
  ·have:i=P.length-1:=by omega
   rw[(jIu (show i<P.length by omega)).2,show i+1=P.length by omega,r.1,r.2,this]
   exact st (by omega)
theorem jES {P:Ps}{i:Nat}{q:Rat×Ln2}(h:(P:List (Rat×Ln2))[i]? = some q):bg P i=q.1∧ln P i=q.2:=by
 unfold bg ln
 rw[List.getD_eq_getElem?_getD,h]
 exact⟨rfl,rfl⟩
theorem PL.lnw {k m:Nat}{qs:List RP}{Q:Ps}(h:PL k m qs Q){i:Nat}{q:RP}(hq:qs[i]? = some q):LW k q.2 (ln Q i)∧Wq m q.1.1 q.1.2 (bg Q i)∧i<Q.length:=by
 obtain⟨r,h1,h2⟩:=h.get hq
 rw[(jES h1).1,(jES h1).2]
 exact⟨h2.l,h2.t,(List.getElem?_eq_some_iff.mp h1).1⟩
def Few (B:List Rat)(qs:List RP)(k:Nat)(b:Rat)(p:RL)(l:Ln2):Prop:=b∈B∨qs=[]∨∃q ql,qs[qs.length-1]? = some q∧LW k q.2 ql∧(q.2=p∨l.1<ql.1)
theorem jEr.add {B S:List Rat}{G:Ln2→Prop}{U:Rat→Prop}{k m:Nat}{h:Rat→Rat}{T:Option Rat}{qs qs':List RP}{Q:Ps}{b:Rat}{p:RP}{l:Ln2}(r:jEr B S G U k m h (some b) qs Q) (w:PW1 k m p (b,l)) (a:jIv qs p qs') (hb:LtO b T) (hv:∀t,b≤t→LeO t T→h t=ev l t) (hs:l.1∈S) (hG:G l) (hU:U b) (few:Few B qs k b p.2 l) :
 ∃Q',jEr B S G U k m h T qs' Q'∧(∃q,qs'[qs'.length-1]? = some q∧q.2=p.2)∧(qs=[]→bg Q' 0=b)∧(qs≠[]→bg Q' 0=bg Q 0)∧(∀i,i<qs.length→qs'[i]? = qs[i]?):=by
 have len:=r.pl.len
 rcases a with⟨rfl,hn⟩|⟨rfl,q,hq,e⟩
 ·refine⟨Q++[(b,l)],⟨r.pl.snoc w,r.pu.push hb hv,r.cn.snoc (fun z=>r.pu.lt _ (by omega)) hs fun z=>?_,fun i hi=>?_⟩,⟨p,by simp,rfl⟩,fun z=>?_,fun z=>?_,fun i hi=>List.getElem?_append_left hi⟩
  ·rcases few with f|f|⟨q,ql,h1,h2,f⟩
   ·exact .inl f
   ·rw[f] at len;simp at len;omega
   ·have u:=(r.pl.lnw h1).1
    rw[len] at u
    rcases f with f|f
    ·exact absurd f (hn q h1)
    ·right
     rw[u.uniq h2];exact f
  ·rw[List.length_append] at hi
   by_cases z:i<Q.length
   ·rw[(jIu z).1,(jIu z).2];exact r.gd i z
   ·have hi':i<Q.length+1:=hi
    rw[show i=Q.length by omega,jRb.1,jRb.2];exact⟨hG,hU⟩
  ·subst z
   simp at len
   have:Q=[]:=List.eq_nil_of_length_eq_zero len.symm
   subst this
   rfl
  ·have:0<qs.length:=List.length_pos_iff.mpr z
   exact(jIu (show 0<Q.length by omega)).1
 ·have u:=r.pl.lnw hq
  have e2:ln Q (Q.length-1)=l:=by
   rw[←len]
   have:=u.1
   rw[e] at this
   exact this.uniq w.l
  have q0:0<Q.length:=by have:=u.2.2;omega
  refine⟨Q,⟨r.pl,r.pu.skip hb q0 e2 hv,r.cn,r.gd⟩,⟨q,hq,e⟩,fun z=>?_,fun _=>rfl,fun _ _=>rfl⟩
  rw[z] at hq;cases hq
def jSL (qs:List RP)(r1 r2:RL)(now thn:Rat):Prop:=∃q,qs[qs.length-1]? = some q∧((q.2=r1∧(thn<0∨(now<0∧thn=0)))∨(q.2=r2∧(0<thn∨(thn=0∧0≤now))))
def jNb (ps:List RP)(tm:Int×Int)(l1 l2:RL)(now thn:Int)(x:Rat)(ps':List RP):Prop :=
 ∃ps1,(if now<0∨(now=0∧thn<0) then jIv ps (tm,l1) ps1 else jIv ps (tm,l2) ps1) ∧
  (if now<0∧0<thn then jIv ps1 ((x.num,(x.den:Int)),l2) ps' else if 0<now∧thn<0 then jIv ps1 ((x.num,(x.den:Int)),l1) ps' else ps'=ps1)
theorem jEr.row {B S:List Rat}{G:Ln2→Prop}{U:Rat→Prop}{k m:Nat}{h f g:Rat→Rat}{T:Option Rat}{qs qs':List RP}{Q:Ps}{a:Rat}{tm:Int×Int}{r1 r2:RL}{l1 l2:Ln2}(r:jEr B S G U k m h (some a) qs Q) (ha:LtO a T) (wt:Wq m tm.1 tm.2 a) (w1:LW k r1 l1) (w2:LW k r2 l2) (hm:k+k+1≤m)
 (hf:∀t,a≤t→LeO t T→f t=ev l1 t) (hg:∀t,a≤t→LeO t T→g t=ev l2 t) (hh:∀t,a≤t→LeO t T→h t=mp (f t) (g t)) (s1:l1.1∈S) (s2:l2.1∈S) (g1:G l1) (g2:G l2) (ua:U a) (ux:∀l l',G l→G l'→l.1≠l'.1→U (xg l l'))
 (few:a∈B∨qs=[]∨∃q ql,qs[qs.length-1]? = some q∧LW k q.2 ql∧if ev l1 a-ev l2 a<0∨(ev l1 a-ev l2 a=0∧jC7 l1 l2 T<0) then (q.2=r1∨l1.1<ql.1) else (q.2=r2∨l2.1<ql.1))
 (ad:jNb qs tm r1 r2 (sg (ev l1 a-ev l2 a)) (sg (jC7 l1 l2 T)) (xg l1 l2) qs') :
 ∃Q',jEr B S G U k m h T qs' Q'∧jSL qs' r1 r2 (ev l1 a-ev l2 a) (jC7 l1 l2 T)∧(qs=[]→bg Q' 0=a)∧(qs≠[]→bg Q' 0=bg Q 0):=by
 obtain⟨ps1,a1,a2⟩:=ad
 have i1:∀x:Rat,(sg x<0)=(x<0):=fun x=>propext jLh
 have i2:∀x:Rat,(0<sg x)=(0<x):=fun x=>propext jLk
 have i3:∀x:Rat,(sg x=0)=(x=0):=fun x=>propext jOS
 simp only[i1,i2,i3] at a1 a2
 have xw:l1.1≠l2.1→Wq m (xg l1 l2).num ((xg l1 l2).den:Int) (xg l1 l2):=fun ne=>(Wq.of (jRq w1 w2 ne)).mono hm
 have inT:∀{x:Rat},LtO x T→∀t,LeO t (some x)→LeO t T:=fun {x} hx t ht=>by
  cases T with
  |none=>trivial
  |some u =>
   have h1:t≤x:=ht
   have h2:x<u:=hx
   show t≤u
   grind
 have id':∀t,LeO t T→LeO t T:=fun _ h=>h
 have one:∀{V:Option Rat},(∀t,LeO t V→LeO t T)→(∀t,a≤t→LeO t V→ev l1 t≤ev l2 t)→∀t,a≤t→LeO t V→h t=ev l1 t:=fun hU le t h1 h2=>by
  rw[hh t h1 (hU t h2),hf t h1 (hU t h2),hg t h1 (hU t h2)];exact jRe (le t h1 h2)
 have two:∀{V:Option Rat},(∀t,LeO t V→LeO t T)→(∀t,a≤t→LeO t V→ev l2 t≤ev l1 t)→∀t,a≤t→LeO t V→h t=ev l2 t:=fun hU le t h1 h2=>by
  rw[hh t h1 (hU t h2),hf t h1 (hU t h2),hg t h1 (hU t h2)];exact jRx (le t h1 h2)
 have fewA:∀{c:RL}{l:Ln2},(∀q ql,(if ev l1 a-ev l2 a<0∨(ev l1 a-ev l2 a=0∧jC7 l1 l2 T<0) then (q=r1∨l1.1<ql) else (q=r2∨l2.1<ql))→(q=c∨l.1<ql))→Few B qs k a c l:=fun {c l} F=>by
  rcases few with f|f|⟨q,ql,h1,h2,f⟩
  ·exact .inl f
  ·exact .inr (.inl f)
  ·exact .inr (.inr ⟨q,ql,h1,h2,F q.2 ql.1 f⟩)
 by_cases c1:ev l1 a-ev l2 a<0
 ·rw[if_pos (.inl c1)] at a1
  have F1:Few B qs k a r1 l1:=fewA (fun q ql z=>by rw[if_pos (.inl c1)] at z;exact z)
  by_cases c2:0<jC7 l1 l2 T
  ·rw[if_pos ⟨c1,c2⟩] at a2
   have am:=jF6 (T:=T) (l1:=l1) (l2:=l2) (a:=a) (by grind) (jKb ha c2)
   obtain⟨x1,x2,y1,y2⟩:=jHY (T:=T) (l1:=l1) (l2:=l2) (a:=a) (by grind) (jKb ha c2)
   obtain⟨Q1,R1,⟨q,hq,eq⟩,b1,b2,_⟩:=r.add (T:=some (xg l1 l2)) ⟨wt,w1⟩ a1 x1 (one (inT x2) (fun t h1 h2=>y1 t h1 h2)) s1 g1 ua F1
   have ne1:ps1≠[]:=fun z=>by rw[z] at hq;cases hq
   have sl:l2.1<l1.1:=by
    have e:=jKc am.1
    unfold ev at e c1
    refine Rat.not_le.mp fun z=>?_
    have:0≤(l2.1-l1.1)*(xg l1 l2-a):=Rat.mul_nonneg (by grind) (by grind)
    grind
   obtain⟨Q2,R2,E2,b3,b4,_⟩:=R1.add (T:=T) (l:=l2) ⟨xw am.1,w2⟩ a2 x2 (fun t h1 h2=>by
    have ht:a≤t:=by grind
    rw[hh t ht h2,hf t ht h2,hg t ht h2];exact jRx (y2 t h1 h2)) s2 g2 (ux _ _ g1 g2 am.1) (.inr (.inr ⟨q,l1,hq,by rw[eq];exact w1,.inr sl⟩))
   obtain⟨q2,hq2,eq2⟩:=E2
   exact⟨Q2,R2,⟨q2,hq2,.inr ⟨eq2,.inl c2⟩⟩,fun z=>(b4 ne1).trans (b1 z),fun z=>(b4 ne1).trans (b2 z)⟩
  ·rw[if_neg (fun z=>c2 z.2),if_neg (fun z=>by grind)] at a2
   subst a2
   obtain⟨Q1,R1,⟨q,hq,eq⟩,b1,b2,_⟩:=r.add (T:=T) ⟨wt,w1⟩ a1 ha (one id' fun t h1 h2=>jIf h1 h2 (by grind) (jOf ha (by grind))) s1 g1 ua F1
   exact⟨Q1,R1,⟨q,hq,.inl ⟨eq,by grind⟩⟩,b1,b2⟩
 ·by_cases c3:ev l1 a-ev l2 a=0∧jC7 l1 l2 T<0
  ·rw[if_pos (.inr c3)] at a1
   have F1:Few B qs k a r1 l1:=fewA (fun q ql z=>by rw[if_pos (.inr c3)] at z;exact z)
   rw[if_neg (fun z=>c1 z.1),if_neg (fun z=>by grind)] at a2
   subst a2
   obtain⟨Q1,R1,⟨q,hq,eq⟩,b1,b2,_⟩:=r.add (T:=T) ⟨wt,w1⟩ a1 ha (one id' fun t h1 h2=>jIf h1 h2 (by grind) (jOf ha (by grind))) s1 g1 ua F1
   exact⟨Q1,R1,⟨q,hq,.inl ⟨eq,.inl c3.2⟩⟩,b1,b2⟩
  ·have nc:¬(ev l1 a-ev l2 a<0∨(ev l1 a-ev l2 a=0∧jC7 l1 l2 T<0)):=fun z=>z.elim c1 c3
   rw[if_neg nc] at a1
   have F2:Few B qs k a r2 l2:=fewA (fun q ql z=>by rw[if_neg nc] at z;exact z)
   rw[if_neg (fun z=>c1 z.1)] at a2
   by_cases c4:0<ev l1 a-ev l2 a∧jC7 l1 l2 T<0
   ·rw[if_pos c4] at a2
    have c5:0<jC7 l2 l1 T:=by rw[jFe];grind
    have am:=jF6 (T:=T) (l1:=l2) (l2:=l1) (a:=a) (by grind) (jKb ha c5)
    obtain⟨x1,x2,y1,y2⟩:=jHY (T:=T) (l1:=l2) (l2:=l1) (a:=a) (by grind) (jKb ha c5)
    have xc:xg l2 l1=xg l1 l2:=jN5
    rw[xc] at am x1 x2 y1 y2
    obtain⟨Q1,R1,⟨q,hq,eq⟩,b1,b2,_⟩:=r.add (T:=some (xg l1 l2)) ⟨wt,w2⟩ a1 x1 (two (inT x2) (fun t h1 h2=>y1 t h1 h2)) s2 g2 ua F2
    have ne1:ps1≠[]:=fun z=>by rw[z] at hq;cases hq
    have sl:l1.1<l2.1:=by
     have e:=jKc (Ne.symm am.1)
     have c4':=c4.1
     unfold ev at e c4'
     refine Rat.not_le.mp fun z=>?_
     have:0≤(l1.1-l2.1)*(xg l1 l2-a):=Rat.mul_nonneg (by grind) (by grind)
     grind
    obtain⟨Q2,R2,E2,b3,b4,_⟩:=R1.add (T:=T) (l:=l1) ⟨xw (Ne.symm am.1),w1⟩ a2 x2 (fun t h1 h2=>by
     have ht:a≤t:=by grind
     rw[hh t ht h2,hf t ht h2,hg t ht h2];exact jRe (y2 t h1 h2)) s1 g1 (ux _ _ g1 g2 (Ne.symm am.1)) (.inr (.inr ⟨q,l2,hq,by rw[eq];exact w2,.inr sl⟩))
    obtain⟨q2,hq2,eq2⟩:=E2
    exact⟨Q2,R2,⟨q2,hq2,.inl ⟨eq2,.inl c4.2⟩⟩,fun z=>(b4 ne1).trans (b1 z),fun z=>(b4 ne1).trans (b2 z)⟩
   ·rw[if_neg c4] at a2
    subst a2
    obtain⟨Q1,R1,⟨q,hq,eq⟩,b1,b2,_⟩:=r.add (T:=T) ⟨wt,w2⟩ a1 ha (two id' fun t h1 h2=>jIf h1 h2 (by grind) (jOf ha (by grind [jFe]))) s2 g2 ua F2
    exact⟨Q1,R1,⟨q,hq,.inr ⟨eq,by grind⟩⟩,b1,b2⟩
end CH
namespace CH
open PySem L2 L3
structure Sbs (P O:Ps)(N:Nat)(a:Nat→Rat)(i j:Nat→Nat):Prop where
 n0:0<N
 a0:a 0=bg O 0
 j0:j 0=0
 iP:∀n,n<N→i n<P.length
 jO:∀n,n<N→j n<O.length
 bi:∀n,n<N→bg P (i n)≤a n
 bj:∀n,n<N→bg O (j n)≤a n
 up:∀n,n+1<N→a n<a (n+1)
 ei:∀n,n<N→i n+1<P.length→n+1<N∧a (n+1)≤bg P (i n+1)
 ej:∀n,n<N→j n+1<O.length→n+1<N∧a (n+1)≤bg O (j n+1)
 si:∀n,n+1<N→i (n+1)=i n∨(i (n+1)=i n+1∧a (n+1)=bg P (i n+1))
 sj:∀n,n+1<N→j (n+1)=j n∨(j (n+1)=j n+1∧a (n+1)=bg O (j n+1))
 mv:∀n,n+1<N→i (n+1)=i n→j (n+1)≠j n
def TmN (N:Nat)(a:Nat→Rat)(n:Nat):Option Rat:=if n<N then some (a n) else none
section
variable {P O:Ps}{N:Nat}{a:Nat→Rat}{i j:Nat→Nat}{h g:Rat→Rat}
theorem Sbs.hP (s:Sbs P O N a i j)(p:PU P h none){n:Nat}(hn:n<N){t:Rat}(h1:a n≤t) (h2:LeO t (TmN N a (n+1))):h t=ev (ln P (i n)) t:=by
 refine p.v (i n) (s.iP n hn) t (Rat.le_trans (s.bi n hn) h1) (fun z=>?_) trivial
 obtain⟨z1,z2⟩:=s.ei n hn z
 unfold TmN at h2
 rw[if_pos z1] at h2
 exact Rat.le_trans h2 z2
theorem Sbs.hO (s:Sbs P O N a i j)(p:PU O g none){n:Nat}(hn:n<N){t:Rat}(h1:a n≤t) (h2:LeO t (TmN N a (n+1))):g t=ev (ln O (j n)) t:=by
 refine p.v (j n) (s.jO n hn) t (Rat.le_trans (s.bj n hn) h1) (fun z=>?_) trivial
 obtain⟨z1,z2⟩:=s.ej n hn z
 unfold TmN at h2
 rw[if_pos z1] at h2
 exact Rat.le_trans h2 z2
theorem Sbs.lt (s:Sbs P O N a i j){n:Nat}(hn:n<N):LtO (a n) (TmN N a (n+1)):=by
 unfold TmN
 split
 ·exact s.up n (by assumption)
 ·trivial
theorem Sbs.ge (s:Sbs P O N a i j){n:Nat}:n<N→a 0≤a n:=by
 induction n with
 |zero=>intro _;exact Rat.le_refl
 |succ n ih =>
  intro hn
  have:=ih (by omega)
  have:=s.up n hn
  grind
theorem Sbs.next (s:Sbs P O N a i j)(p:PU P h none)(q:PU O g none){n:Nat}(hn:n+1<N):ev (ln P (i n)) (a (n+1))=ev (ln P (i (n+1))) (a (n+1))∧ev (ln O (j n)) (a (n+1))=ev (ln O (j (n+1))) (a (n+1)):=by
 have e:TmN N a (n+1)=some (a (n+1)):=if_pos hn
 have l1:LeO (a (n+1)) (TmN N a (n+1)):=by rw[e];exact Rat.le_refl
 have l2:=(s.lt (n:=n+1) hn).le
 have u:=Rat.le_of_lt (s.up n hn)
 rw[←s.hP p (by omega) u l1,←s.hP p hn Rat.le_refl l2,←s.hO q (by omega) u l1,←s.hO q hn Rat.le_refl l2]
 exact⟨rfl,rfl⟩
theorem Sbs.thn (s:Sbs P O N a i j)(p:PU P h none)(q:PU O g none){n:Nat}(hn:n+1<N):jC7 (ln P (i n)) (ln O (j n)) (TmN N a (n+1))=ev (ln P (i (n+1))) (a (n+1))-ev (ln O (j (n+1))) (a (n+1)):=by
 have e:TmN N a (n+1)=some (a (n+1)):=if_pos hn
 rw[e]
 obtain⟨e1,e2⟩:=s.next p q hn
 show ev _ _-ev _ _=_
 rw[e1,e2]
end
def jOK (a0:Rat)(h g:Rat→Rat)(t:Rat):Rat:=if t<a0 then h t else mp (h t) (g t)
def jO3 (O:Ps):List Rat:=O.map (·.1)
theorem jJt {O:Ps}{j:Nat}(h:j<O.length):bg O j∈jO3 O:=by
 refine List.mem_map.mpr ⟨O[j],List.getElem_mem h,?_⟩
 exact(jES (List.getElem?_eq_getElem h)).1.symm
structure jOp (B S:List Rat)(G:Ln2→Prop)(U:Rat→Prop)(k m:Nat)(ps os:List RP)(P O:Ps)(h g:Rat→Rat)(N:Nat)(a:Nat→Rat)(i j:Nat→Nat)(n:Nat)(qs:List RP)(Q:Ps):Prop where
 r:jEr (B++jO3 O) S G U k m (jOK (bg O 0) h g) (TmN N a n) qs Q
 e:∀n',n=n'+1→∀p1 p2,ps[i n']? = some p1→os[j n']? = some p2→jSL qs p1.2 p2.2 (ev (ln P (i n')) (a n')-ev (ln O (j n')) (a n')) (jC7 (ln P (i n')) (ln O (j n')) (TmN N a n))
 b:(n=0→qs≠[]→bg Q 0=bg P 0)∧(0<n→qs≠[]∧bg Q 0=bg P 0)
theorem jMU {l1 l2:Ln2}{a u:Rat}(h:a<u) (h1:ev l1 a<ev l2 a) (h2:ev l1 u=ev l2 u):l2.1<l1.1:=by
 unfold ev at *
 refine Rat.not_le.mp fun z=>?_
 have:0≤(l2.1-l1.1)*(u-a):=Rat.mul_nonneg (by grind) (by grind)
 grind
theorem jPq {l1 l2:Ln2}{a:Rat}{T:Option Rat}(ha:LtO a T) (h1:ev l1 a=ev l2 a) (h2:jC7 l1 l2 T<0):l1.1<l2.1:=by
 cases T with
 |none=>have h:l1.1-l2.1<0:=h2;grind
 |some u =>
  have h:ev l1 u-ev l2 u<0:=h2
  have hl:a<u:=ha
  unfold ev at *
  refine Rat.not_le.mp fun z=>?_
  have:0≤(l1.1-l2.1)*(u-a):=Rat.mul_nonneg (by grind) (by grind)
  grind
section
variable {B S:List Rat}{G:Ln2→Prop}{U:Rat→Prop}{k m:Nat}{ps os:List RP}{P O:Ps}{h g:Rat→Rat}{N:Nat}{a:Nat→Rat}{i j:Nat→Nat}
theorem jOp.step (rP:jEr B S G U k m h none ps P)(lo:PL k m os O)(pO:PU O g none)(sO:∀x,x<O.length→(ln O x).1∈S)(gO:∀x,x<O.length→G (ln O x)∧U (bg O x))(ux:∀l l',G l→G l'→l.1≠l'.1→U (xg l l'))(hm:k+k+1≤m)(s:Sbs P O N a i j)(hb:bg P 0≤bg O 0){n:Nat}{qs qs':List RP}{Q:Ps}(li:jOp B S G U k m ps os P O h g N a i j n qs Q) (hn:n<N){tm:Int×Int}(wt:Wq m tm.1 tm.2 (a n)){p1 p2:RP}(h1:ps[i n]? = some p1) (h2:os[j n]? = some p2)
 (ad:jNb qs tm p1.2 p2.2 (sg (ev (ln P (i n)) (a n)-ev (ln O (j n)) (a n))) (sg (jC7 (ln P (i n)) (ln O (j n)) (TmN N a (n+1)))) (xg (ln P (i n)) (ln O (j n))) qs') (h0:n=0→qs=[]→bg P 0=bg O 0) :
 ∃Q',jOp B S G U k m ps os P O h g N a i j (n+1) qs' Q':=by
 have lp:=rP.pl
 have pP:=rP.pu
 have cP:=rP.cn
 have ua:U (a n):=by
  cases n with
  |zero=>rw[s.a0];exact(gO 0 (by have:=s.jO 0 hn;omega)).2
  |succ n =>
   rcases s.sj n hn with jj|⟨jj,ja⟩
   ·rcases s.si n hn with ii|⟨ii,ia⟩
    ·exact absurd jj (s.mv n hn ii)
    ·rw[ia];exact(rP.gd _ (by rw[←ii];exact s.iP _ hn)).2
   ·rw[ja];exact(gO _ (by rw[←jj];exact s.jO _ hn)).2
 have w1:=(lp.lnw h1).1
 have w2:=(lo.lnw h2).1
 have eT:TmN N a n=some (a n):=if_pos hn
 have r:=li.r
 rw[eT] at r
 have hg0:bg O 0≤a n:=by rw[←s.a0];exact s.ge hn
 have few:a n∈B++jO3 O∨qs=[]∨∃q ql,qs[qs.length-1]? = some q∧LW k q.2 ql∧if ev (ln P (i n)) (a n)-ev (ln O (j n)) (a n)<0∨(ev (ln P (i n)) (a n)-ev (ln O (j n)) (a n)=0∧jC7 (ln P (i n)) (ln O (j n)) (TmN N a (n+1))<0) then (q.2=p1.2∨(ln P (i n)).1<ql.1) else (q.2=p2.2∨(ln O (j n)).1<ql.1):=by
  cases n with
  |zero =>
   left
   rw[s.a0]
   exact List.mem_append.mpr (.inr (jJt (by have:=s.jO 0 hn;omega)))
  |succ n =>
   rcases s.sj n hn with jj|⟨jj,ja⟩
   ·rcases s.si n hn with ii|⟨ii,ia⟩
    ·exact absurd jj (s.mv n hn ii)
    ·have il:=s.iP (n+1) hn
     rw[ii] at il
     rcases cP.st (i n) il with z|z
     ·left
      rw[ia]
      exact List.mem_append.mpr (.inl z)
     ·right;right
      have i0:=s.iP n (by omega)
      have hp:i n<ps.length:=by rw[lp.len];exact i0
      have h1':=List.getElem?_eq_getElem hp
      have h2':os[j n]? = some p2:=by rw[←jj];exact h2
      obtain⟨q,hq,e⟩:=li.e n rfl _ _ h1' h2'
      have w1':=(lp.lnw h1').1
      have tn:=s.thn pP pO hn
      have u:=s.up n hn
      have hl:=s.lt (n:=n+1) hn
      rw[tn] at e
      have nx:=s.next pP pO hn
      rw[jj] at e ⊢
      rw[ii] at e nx ⊢
      rw[jj] at nx
      rcases e with⟨e1,e2⟩|⟨e1,e2⟩
      ·refine⟨q,ln P (i n),hq,by rw[e1];exact w1',?_⟩
       split
       ·exact .inr z
       ·right
        rename_i nc
        have:ev (ln P (i n)) (a n)-ev (ln O (j n)) (a n)<0∧ev (ln P (i n+1)) (a (n+1))-ev (ln O (j n)) (a (n+1))=0:=by
         rcases e2 with e2|e2
         ·exact absurd (.inl e2) nc
         ·exact e2
        exact jMU u (by grind) (by grind)
      ·refine⟨q,ln O (j n),hq,by rw[e1,←jj];exact w2,?_⟩
       split
       ·right
        rename_i c
        have:ev (ln P (i n+1)) (a (n+1))-ev (ln O (j n)) (a (n+1))=0∧jC7 (ln P (i n+1)) (ln O (j n)) (TmN N a (n+1+1))<0:=by
         rcases c with c|c
         ·rcases e2 with e2|e2<;>grind
         ·exact c
        exact jPq hl (by grind) this.2
       ·exact .inl e1
   ·left
    rw[ja]
    exact List.mem_append.mpr (.inr (jJt (by have:=s.jO (n+1) hn;omega)))
 obtain⟨Q',R',E',b1,b2⟩:=r.row (T:=TmN N a (n+1)) (f:=h) (g:=g) (s.lt hn) wt w1 w2 hm (fun t t1 t2=>s.hP pP hn t1 t2) (fun t t1 t2=>s.hO pO hn t1 t2) (fun t t1 _=>by
  unfold jOK
  rw[if_neg (by grind)]) (cP.sl _ (s.iP n hn)) (sO _ (s.jO n hn)) (rP.gd _ (s.iP n hn)).1 (gO _ (s.jO n hn)).1 ua ux few ad
 have ne':qs'≠[]:=fun z=>by obtain⟨q,hq,_⟩:=E';rw[z] at hq;cases hq
 refine⟨Q',R',fun n' e p1' p2' g1 g2=>?_,fun z=>absurd z (by omega),fun _=>⟨ne',?_⟩⟩
 ·have:n'=n:=by omega
  subst this
  rw[h1] at g1
  rw[h2] at g2
  cases g1
  cases g2
  exact E'
 ·rcases Nat.eq_zero_or_pos n with z|z
  ·by_cases c:qs=[]
   ·rw[b1 c,z,s.a0]
    exact(h0 z c).symm
   ·rw[b2 c];exact li.b.1 z c
  ·have:=li.b.2 z
   rw[b2 this.1];exact this.2
theorem jAU {P:Ps}{c x:Nat}(h:x<c):bg (P.take c) x=bg P x∧ln (P.take c) x=ln P x:=by
 unfold bg ln
 rw[List.getD_eq_getElem?_getD,List.getD_eq_getElem?_getD,List.getElem?_take_of_lt h]
 exact⟨rfl,rfl⟩
theorem jOp.zero (rP:jEr B S G U k m h none ps P)(s:Sbs P O N a i j){c:Nat}(hc:c≤P.length) (c1:∀x,x<c→bg P x<bg O 0) (c2:c<P.length→bg O 0≤bg P c) (hj:0<c→h (bg O 0)≤g (bg O 0)):jOp B S G U k m ps os P O h g N a i j 0 (ps.take c) (P.take c):=by
 have lp:=rP.pl
 have pP:=rP.pu
 have cP:=rP.cn
 have tl:(P.take c).length=c:=by rw[List.length_take];omega
 have eT:TmN N a 0=some (bg O 0):=by unfold TmN;rw[if_pos s.n0,s.a0]
 refine⟨⟨⟨by rw[List.length_take,List.length_take,lp.len],fun x p q h1 h2=>?_⟩,?_,⟨fun x hx=>?_,fun x hx=>?_,fun x hx=>?_⟩,fun x hx=>by rw[tl] at hx;rw[(jAU hx).1,(jAU hx).2];exact rP.gd x (by omega)⟩,fun n' e=>absurd e (by omega),fun _ z=>?_,fun z=>absurd z (by omega)⟩
 ·have hx:x<c:=by
   have:=(List.getElem?_eq_some_iff.mp h2).1
   rw[tl] at this;exact this
  rw[List.getElem?_take_of_lt hx] at h1 h2
  exact lp.at_ x p q h1 h2
 ·rw[eT]
  refine⟨fun x hx=>?_,fun x hx=>?_,fun x hx t t1 t2 t3=>?_⟩
  ·rw[tl] at hx
   rw[(jAU (show x<c by omega)).1,(jAU hx).1];exact pP.up x (by omega)
  ·rw[tl] at hx
   rw[(jAU hx).1];exact c1 x hx
  ·rw[tl] at hx t2
   rw[(jAU hx).1] at t1
   rw[(jAU hx).2]
   have t3:t≤bg O 0:=t3
   have ev1:h t=ev (ln P x) t:=by
    refine pP.v x (by omega) t t1 (fun z=>?_) trivial
    by_cases z2:x+1<c
    ·have:=t2 z2
     rw[(jAU z2).1] at this
     exact this
    ·have:x+1=c:=by omega
     rw[this]
     exact Rat.le_trans t3 (c2 (by omega))
   unfold jOK
   split
   ·exact ev1
   ·have:t=bg O 0:=by grind
    rw[this] at ev1 ⊢
    rw[jRe (hj (by omega))]
    exact ev1
 ·rw[tl] at hx
  rw[(jAU (show x<c by omega)).1,(jAU hx).1];exact pP.up x (by omega)
 ·rw[tl] at hx
  rw[(jAU hx).2];exact cP.sl x (by omega)
 ·rw[tl] at hx
  rw[(jAU (show x<c by omega)).2,(jAU hx).1,(jAU hx).2]
  rcases cP.st x (by omega) with z|z
  ·exact .inl (List.mem_append.mpr (.inl z))
  ·exact .inr z
 ·have:0<c:=by
   rcases Nat.eq_zero_or_pos c with y|y
   ·subst y;exact absurd rfl z
   ·exact y
  exact(jAU this).1
end
end CH
namespace CH
open PySem L2 L3
def jDv (cs:Cs)(m:Rat):Ps:=(List.range cs.length).map fun k=>(tt cs k,(slp cs m k,vv cs k-slp cs m k*tt cs k))
theorem jAL {cs:Cs}{m:Rat}:(jDv cs m).length=cs.length:=by unfold jDv;simp
theorem jBy {cs:Cs}{m:Rat}{k:Nat}(h:k<cs.length):bg (jDv cs m) k=tt cs k∧ln (jDv cs m) k=(slp cs m k,vv cs k-slp cs m k*tt cs k):=by
 refine jES (q:=(tt cs k,(slp cs m k,vv cs k-slp cs m k*tt cs k))) ?_
 unfold jDv
 rw[List.getElem?_map,List.getElem?_range h]
 rfl
theorem jKL {cs:Cs}{m:Rat}(o:Ord cs):PU (jDv cs m) (val cs m) none:=by
 refine⟨fun i hi=>?_,fun i hi=>trivial,fun i hi t h1 h2 _=>?_⟩
 ·rw[jAL] at hi
  rw[(jBy (show i<cs.length by omega)).1,(jBy hi).1];exact o.up i hi
 ·rw[jAL] at hi h2
  rw[(jBy hi).1] at h1
  rw[(jBy hi).2]
  have on:On cs i t:=⟨hi,h1,fun z=>by have:=h2 z;rw[(jBy z).1] at this;exact this⟩
  rw[jFq o.up on]
  unfold ev
  grind
theorem jBm {P:Ps}{F:Rat×Ln2→Rat×Ln2}{i:Nat}(h:i<P.length):bg (P.map F) i=(F (bg P i,ln P i)).1∧ln (P.map F) i=(F (bg P i,ln P i)).2:=by
 have e:P[i]? = some (bg P i,ln P i):=by
  have g:=List.getElem?_eq_getElem h
  rw[g]
  have:=jES g
  rw[this.1,this.2]
 refine jES ?_
 rw[List.getElem?_map,e]
 rfl
theorem PU.flip {P:Ps}{h:Rat→Rat}{T:Option Rat}(p:PU P h T):PU (P.map flP) (fun t=>-h t) T:=by
 refine⟨fun i hi=>?_,fun i hi=>?_,fun i hi t h1 h2 h3=>?_⟩
 ·rw[List.length_map] at hi
  rw[(jBm (show i<P.length by omega)).1,(jBm hi).1];exact p.up i hi
 ·rw[List.length_map] at hi
  rw[(jBm hi).1];exact p.lt i hi
 ·rw[List.length_map] at hi h2
  rw[(jBm hi).1] at h1
  rw[(jBm hi).2]
  show -h t=_
  rw[p.v i hi t h1 (fun z=>by have:=h2 z;rw[(jBm z).1] at this;exact this) h3]
  exact jOQ.symm
theorem PU.move {P:Ps}{h:Rat→Rat}(w v:Rat) (p:PU P h none):PU (P.map (mvP w v)) (fun t=>h (t-w)+v) none:=by
 refine⟨fun i hi=>?_,fun i hi=>trivial,fun i hi t h1 h2 _=>?_⟩
 ·rw[List.length_map] at hi
  rw[(jBm (show i<P.length by omega)).1,(jBm hi).1]
  have:=p.up i hi
  show bg P i+w<bg P (i+1)+w
  grind
 ·rw[List.length_map] at hi h2
  rw[(jBm hi).1] at h1
  rw[(jBm hi).2]
  have h1:bg P i+w≤t:=h1
  show h (t-w)+v=_
  rw[p.v i hi (t-w) (by grind) (fun z=>by
   have:=h2 z
   rw[(jBm z).1] at this
   have this:t≤bg P (i+1)+w:=this
   grind) trivial]
  exact jNa.symm
def frN (P:Ps)(c:Nat):Ps:=(0,ln P (c-1))::P.drop c
theorem jEd {P:Ps}{c i:Nat}:bg (frN P c) (i+1)=bg P (c+i)∧ln (frN P c) (i+1)=ln P (c+i):=by
 unfold frN bg ln
 rw[List.getD_eq_getElem?_getD,List.getElem?_cons_succ,List.getElem?_drop,List.getD_eq_getElem?_getD]
 exact⟨rfl,rfl⟩
theorem jDX {P:Ps}{c:Nat}:(frN P c).length=P.length-c+1:=by unfold frN;rw[List.length_cons,List.length_drop]
theorem PU.fromN {P:Ps}{h:Rat→Rat}{c:Nat}(p:PU P h none) (c0:0<c) (cl:c≤P.length) (h1:∀i,i<c→bg P i≤0) (h2:c<P.length→0<bg P c):PU (frN P c) h none:=by
 have e0:bg (frN P c) 0=0∧ln (frN P c) 0=ln P (c-1):=⟨rfl,rfl⟩
 refine⟨fun i hi=>?_,fun i hi=>trivial,fun i hi t t1 t2 _=>?_⟩
 ·rw[jDX] at hi
  cases i with
  |zero=>rw[e0.1,jEd.1];exact h2 (by omega)
  |succ i=>rw[jEd.1,jEd.1];exact p.up (c+i) (by omega)
 ·rw[jDX] at hi t2
  cases i with
  |zero =>
   rw[e0.1] at t1
   rw[e0.2]
   refine p.v (c-1) (by omega) t (Rat.le_trans (h1 _ (by omega)) t1) (fun z=>?_) trivial
   have:=t2 (by omega)
   rw[jEd.1] at this
   rw[show c-1+1=c+0 by omega]
   exact this
  |succ i =>
   rw[jEd.1] at t1
   rw[jEd.2]
   refine p.v (c+i) (by omega) t t1 (fun z=>?_) trivial
   have:=t2 (by omega)
   rw[jEd.1] at this
   exact this
def jFh (P:Ps)(far:Rat):Ps:=((List.range P.length).map fun k=>((if k+1<P.length then -bg P (k+1) else -far),((-(ln P k).1,(ln P k).2):Ln2))).reverse++[(0,((0,(ln P 0).2):Ln2))]
theorem jEm {P:Ps}{far:Rat}:(jFh P far).length=P.length+1:=by unfold jFh;simp
theorem jE0 {P:Ps}{far:Rat}{i:Nat}(h:i<P.length):bg (jFh P far) i=(if 0<i then -bg P (P.length-i) else -far)∧ln (jFh P far) i=(-(ln P (P.length-1-i)).1,(ln P (P.length-1-i)).2):=by
 have e:(jFh P far:List (Rat×Ln2))[i]? = some ((if 0<i then -bg P (P.length-i) else -far),(-(ln P (P.length-1-i)).1,(ln P (P.length-1-i)).2)):=by
  unfold jFh
  rw[List.getElem?_append_left (by simp;exact h),List.getElem?_reverse (by simp;exact h)]
  rw[List.length_map,List.length_range,List.getElem?_map,List.getElem?_range (by omega)]
  show some _=_
  congr 1
  refine Prod.ext ?_ rfl
  show(if P.length-1-i+1<P.length then _ else _)=_
  by_cases c:0<i
  ·rw[if_pos c,if_pos (by omega),show P.length-1-i+1=P.length-i by omega]
  ·rw[if_neg c,if_neg (by omega)]
 exact jES e
theorem jE5 {P:Ps}{far:Rat}:bg (jFh P far) P.length=0∧ln (jFh P far) P.length=(0,(ln P 0).2):=by
 have e:(jFh P far:List (Rat×Ln2))[P.length]? = some (0,(0,(ln P 0).2)):=by
  unfold jFh
  rw[List.getElem?_append_right (by simp)]
  simp
 exact jES e
theorem PU.turn {P:Ps}{g:Rat→Rat}{far:Rat}(p:PU P g none) (ne:0<P.length) (b0:bg P 0=0) (hf:bg P (P.length-1)<far):PU (jFh P far) (fun t=>g (if t≤0 then -t else 0)) none:=by
 have pos:∀i,i<P.length→0≤bg P i:=fun i=>by
  induction i with
  |zero=>intro _;rw[b0];exact Rat.le_refl
  |succ i ih=>intro hi;have:=ih (by omega);have:=p.up i hi;grind
 have neg:∀i,i<P.length→bg (jFh P far) i<0:=fun i hi=>by
  rw[(jE0 hi).1]
  by_cases c:0<i
  ·rw[if_pos c]
   have h1:=p.up (P.length-i-1) (by omega)
   rw[show P.length-i-1+1=P.length-i by omega] at h1
   have:=pos (P.length-i-1) (by omega)
   grind
  ·rw[if_neg c]
   have:=pos (P.length-1) (by omega)
   grind
 refine⟨fun i hi=>?_,fun i hi=>trivial,fun i hi t t1 t2 _=>?_⟩
 ·rw[jEm] at hi
  by_cases z:i+1<P.length
  ·rw[(jE0 (show i<P.length by omega)).1,(jE0 z).1,if_pos (show 0<i+1 by omega)]
   by_cases c:0<i
   ·rw[if_pos c]
    have:=p.up (P.length-(i+1)) (by omega)
    rw[show P.length-(i+1)+1=P.length-i by omega] at this
    grind
   ·rw[if_neg c,show P.length-(i+1)=P.length-1 by omega]
    grind
  ·rw[show i+1=P.length by omega,jE5.1]
   exact neg i (by omega)
 ·rw[jEm] at hi t2
  by_cases z:i<P.length
  ·have t3:t≤0:=by
    have:=t2 (by omega)
    by_cases y:i+1<P.length
    ·have:=neg (i+1) y;grind
    ·rw[show i+1=P.length by omega,jE5.1] at this;exact this
   show g (if t≤0 then -t else 0)=_
   rw[if_pos t3,(jE0 z).2]
   rw[p.v (P.length-1-i) (by omega) (-t) ?_ ?_ trivial]
   ·unfold ev
    show _=-(ln P (P.length-1-i)).1*t+(ln P (P.length-1-i)).2
    grind
   ·have:=t2 (by omega)
    by_cases y:i+1<P.length
    ·rw[(jE0 y).1,if_pos (by omega),show P.length-(i+1)=P.length-1-i by omega] at this
     grind
    ·rw[show P.length-1-i=0 by omega,b0];grind
   ·intro y
    rw[(jE0 z).1,if_pos (by omega)] at t1
    rw[show P.length-1-i+1=P.length-i by omega]
    grind
  ·have:i=P.length:=by omega
   subst this
   rw[jE5.1] at t1
   rw[jE5.2]
   have e:(if t≤0 then -t else 0)=0:=by split<;>grind
   show g (if t≤0 then -t else 0)=_
   rw[e]
   rw[p.v 0 ne 0 (by rw[b0];exact Rat.le_refl) (fun y=>pos 1 y) trivial]
   unfold ev
   show _=0*t+(ln P 0).2
   grind
def jGA (Q:Ps):Cs:=Q.map fun p=>(p.1,ev p.2 p.1)
theorem jBf {Q:Ps}:(jGA Q).length=Q.length:=List.length_map _
theorem jA5 {Q:Ps}{i:Nat}(h:i<Q.length):tt (jGA Q) i=bg Q i∧vv (jGA Q) i=ev (ln Q i) (bg Q i):=by
 have g:=List.getElem?_eq_getElem h
 have e:(jGA Q)[i]? = some (bg Q i,ev (ln Q i) (bg Q i)):=by
  unfold jGA
  rw[List.getElem?_map,g,(jES g).1,(jES g).2]
  rfl
 unfold tt vv
 rw[List.getD_eq_getElem?_getD,e]
 exact⟨rfl,rfl⟩
theorem jJC {Q:Ps}{H:Rat→Rat}(p:PU Q H none){i:Nat}(h:i<Q.length):slp (jGA Q) (ln Q (Q.length-1)).1 i=(ln Q i).1:=by
 by_cases c:i+1<Q.length
 ·rw[jCs (by rw[jBf];exact c),(jA5 h).1,(jA5 h).2,(jA5 c).1,(jA5 c).2]
  have u:=p.up i c
  have e1:=p.v i h (bg Q (i+1)) (Rat.le_of_lt u) (fun _=>Rat.le_refl) trivial
  have e2:=p.v (i+1) c (bg Q (i+1)) Rat.le_refl (fun z=>Rat.le_of_lt (p.up (i+1) z)) trivial
  rw[←e2,e1]
  unfold ev
  have ne:bg Q (i+1)-bg Q i≠0:=by grind
  generalize bg Q (i+1)=y at *
  generalize bg Q i=x at *
  have k:((ln Q i).1*y+(ln Q i).2-((ln Q i).1*x+(ln Q i).2))=(ln Q i).1*(y-x):=by grind
  rw[k]
  have k2:(ln Q i).1*(y-x)/(y-x)*(y-x)=(ln Q i).1*(y-x):=Rat.div_mul_cancel ne
  have k3:((ln Q i).1*(y-x)/(y-x)-(ln Q i).1)*(y-x)=0:=by grind
  rcases Rat.mul_eq_zero.mp k3 with z|z
  ·grind
  ·exact absurd z ne
 ·rw[jBo (by rw[jBf];exact c),show i=Q.length-1 by omega]
theorem jPo {Q:Ps}{H:Rat→Rat}(p:PU Q H none) (ne:0<Q.length) (b0:bg Q 0=0) (mono:∀x y,0≤x→x≤y→H x≤H y) (h0:0≤H 0):Ord (jGA Q)∧0≤(ln Q (Q.length-1)).1∧∀t,0≤t→val (jGA Q) (ln Q (Q.length-1)).1 t=H t:=by
 have at_:∀i,i<Q.length→H (bg Q i)=ev (ln Q i) (bg Q i):=fun i hi=>p.v i hi _ Rat.le_refl (fun z=>Rat.le_of_lt (p.up i z)) trivial
 have pos:∀i,i<Q.length→0≤bg Q i:=fun i=>by
  induction i with
  |zero=>intro _;rw[b0];exact Rat.le_refl
  |succ i ih=>intro hi;have:=ih (by omega);have:=p.up i hi;grind
 have o:Ord (jGA Q):=by
  refine⟨by rw[jBf];exact ne,by rw[(jA5 ne).1];exact b0,by rw[(jA5 ne).2,←at_ 0 ne,b0];exact h0,fun i hi=>?_,fun i hi=>?_⟩
  ·rw[jBf] at hi
   rw[(jA5 (show i<Q.length by omega)).1,(jA5 hi).1];exact p.up i hi
  ·rw[jBf] at hi
   rw[(jA5 (show i<Q.length by omega)).2,(jA5 hi).2,←at_ i (by omega),←at_ (i+1) hi]
   exact mono _ _ (pos i (by omega)) (Rat.le_of_lt (p.up i hi))
 refine⟨o,?_,fun t t0=>?_⟩
 ·have hl:Q.length-1<Q.length:=by omega
  have e1:=p.v (Q.length-1) hl (bg Q (Q.length-1)) Rat.le_refl (fun z=>absurd z (by omega)) trivial
  have e2:=p.v (Q.length-1) hl (bg Q (Q.length-1)+1) (by grind) (fun z=>absurd z (by omega)) trivial
  have:=mono (bg Q (Q.length-1)) (bg Q (Q.length-1)+1) (pos _ hl) (by grind)
  rw[e1,e2] at this
  unfold ev at this
  grind
 ·have on:=jGS o t0
  rw[jFq (m:=(ln Q (Q.length-1)).1) o.up on]
  generalize plc (jGA Q) t (jGA Q).length=j at on
  have hj:j<Q.length:=by have:=on.lt;rw[jBf] at this;exact this
  rw[jJC p hj,(jA5 hj).1,(jA5 hj).2]
  have lo:=on.lo
  rw[(jA5 hj).1] at lo
  rw[p.v j hj t lo (fun z=>by have:=on.hi (by rw[jBf];exact z);rw[(jA5 z).1] at this;exact this) trivial]
  unfold ev
  grind
end CH
namespace CH
open PySem L2 L3
theorem jKl {α:Type}(key:α→Rat) (p:α→Prop):∀F:List α,(∃x∈F,p x)→∃y∈F,p y∧∀x∈F,p x→key x≤key y
 |[],⟨_,h,_⟩=>by cases h
 |a::F,h=>by
  by_cases c:∃x∈F,p x
  ·obtain⟨y,hy,py,my⟩:=jKl key p F c
   by_cases d:p a∧key y<key a
   ·refine⟨a,List.mem_cons.mpr (.inl rfl),d.1,fun x hx px=>?_⟩
    rcases List.mem_cons.mp hx with rfl|hx
    ·exact Rat.le_refl
    ·have:=my x hx px
     have:=d.2
     grind
   ·refine⟨y,List.mem_cons.mpr (.inr hy),py,fun x hx px=>?_⟩
    rcases List.mem_cons.mp hx with rfl|hx
    ·exact Rat.not_lt.mp fun z=>d ⟨px,z⟩
    ·exact my x hx px
  ·obtain⟨x,hx,px⟩:=h
   rcases List.mem_cons.mp hx with rfl|hx
   ·refine⟨x,List.mem_cons.mpr (.inl rfl),px,fun z hz pz=>?_⟩
    rcases List.mem_cons.mp hz with rfl|hz
    ·exact Rat.le_refl
    ·exact absurd ⟨z,hz,pz⟩ c
   ·exact absurd ⟨x,hx,px⟩ c
section
variable {cs:Cs}{m:Rat}
theorem jGR (o:Ord cs){a:Rat}(a0:0≤a):plc cs a cs.length<cs.length∧tt cs (plc cs a cs.length)≤a∧(plc cs a cs.length+1<cs.length→a<tt cs (plc cs a cs.length+1)):=by
 have s:=jD6 (cs:=cs) (t:=a) (by rw[o.t0];exact a0) cs.length o.ne
 exact⟨s.2.1,s.1,fun z=>s.2.2 _ (Nat.lt_succ_self _) z⟩
theorem jNV (o:Ord cs){a b x:Rat}(a0:0≤a) (hk:∀k,k<cs.length→tt cs k≤a∨b≤tt cs k) (h1:a≤x) (h2:x≤b):val cs m x=val cs m a+sat cs m a*(x-a):=by
 obtain⟨jl,j1,j2⟩:=jGR o a0
 have ev:val cs m a=vv cs (plc cs a cs.length)+slp cs m (plc cs a cs.length)*(a-tt cs (plc cs a cs.length)):=rfl
 have es:sat cs m a=slp cs m (plc cs a cs.length):=rfl
 generalize plc cs a cs.length=j at *
 have on:On cs j x:=⟨jl,Rat.le_trans j1 h1,fun z=>by
  rcases hk (j+1) z with w|w
  ·have:=j2 z;grind
  ·exact Rat.le_trans h2 w⟩
 rw[jFq o.up on,ev,es]
 grind
theorem jKQ (o:Ord cs){a x:Rat}(hk:∀k,k<cs.length→tt cs k≤a) (h1:a≤x):val cs m x=val cs m a+m*(x-a)∧sat cs m a=m:=by
 have n:=o.ne
 have l:=hk (cs.length-1) (by omega)
 rw[jDM n (Rat.le_trans l h1),jDM n l,jII n l]
 exact⟨by grind,rfl⟩
theorem jLI (o:Ord cs){a c:Rat}(a0:0≤a) (ac:a<c) (hk:∀k,k<cs.length→tt cs k≤a∨c≤tt cs k) (ne:sat cs m c≠sat cs m a):∃k,0<k∧k<cs.length∧tt cs k=c∧slp cs m k=sat cs m c∧slp cs m (k-1)=sat cs m a:=by
 obtain⟨jl,j1,j2⟩:=jGR o a0
 have es:sat cs m a=slp cs m (plc cs a cs.length):=rfl
 have ec:sat cs m c=slp cs m (plc cs c cs.length):=rfl
 generalize plc cs a cs.length=j at *
 by_cases z:j+1<cs.length∧tt cs (j+1)=c
 ·obtain⟨z1,z2⟩:=z
  have e:plc cs c cs.length=j+1:=jGT o.up (by rw[z2];exact Rat.le_refl) (fun w=>by rw[←z2];exact o.up _ w) _ z1 (Nat.le_refl _)
  exact⟨j+1,by omega,z1,z2,by rw[ec,e],by rw[es];rfl⟩
 ·have e:plc cs c cs.length=j:=jGT o.up (Rat.le_trans j1 (Rat.le_of_lt ac)) (fun w=>by
   rcases hk (j+1) w with y|y
   ·have:=j2 w;grind
   ·have:tt cs (j+1)≠c:=fun y=>z ⟨w,y⟩
    grind) _ jl (Nat.le_refl _)
  rw[ec,es,e] at ne
  exact absurd rfl ne
end
def jST (fc:Cs)(fm:Rat)(gc:Cs)(gm:Rat)(t u:Rat):Prop:=u=0∨(∃k,0<k∧k<gc.length∧tt gc k=u∧slp gc gm (k-1)<slp gc gm k)∨∃k,0<k∧k<fc.length∧tt fc k=t+u∧slp fc fm k<slp fc fm (k-1)
theorem jJq {fc gc:Cs}{fm gm:Rat}(of:Ord fc) (og:Ord gc) (hm:fm≤gm){t:Rat}(t0:0≤t):∃u,0≤u∧jST fc fm gc gm t u∧∀v,0≤v→val fc fm (t+v)-val gc gm v≤val fc fm (t+u)-val gc gm u:=by
 obtain⟨F,hF⟩:∃F:List Rat,F=(0:Rat)::((List.range gc.length).map (tt gc)++((List.range fc.length).map fun k=>tt fc k-t).filter fun x=>decide (0≤x)):=⟨_,rfl⟩
 have f0:(0:Rat)∈F:=by rw[hF];exact List.mem_cons.mpr (.inl rfl)
 have fg:∀k,k<gc.length→tt gc k∈F:=fun k hk=>by
  rw[hF]
  exact List.mem_cons.mpr (.inr (List.mem_append.mpr (.inl (List.mem_map.mpr ⟨k,List.mem_range.mpr hk,rfl⟩))))
 have ff:∀k,k<fc.length→t≤tt fc k→tt fc k-t∈F:=fun k hk h=>by
  rw[hF]
  exact List.mem_cons.mpr (.inr (List.mem_append.mpr (.inr (List.mem_filter.mpr ⟨List.mem_map.mpr ⟨k,List.mem_range.mpr hk,rfl⟩,decide_eq_true (by grind)⟩))))
 have nn:∀x∈F,0≤x:=fun x hx=>by
  rw[hF] at hx
  rcases List.mem_cons.mp hx with rfl|hx
  ·exact Rat.le_refl
  ·rcases List.mem_append.mp hx with hx|hx
   ·obtain⟨k,hk,rfl⟩:=List.mem_map.mp hx
    have:=jBz og.up (i:=0) (j:=k) (by omega) (List.mem_range.mp hk)
    rw[og.t0] at this
    exact this
   ·exact of_decide_eq_true (List.mem_filter.mp hx).2
 clear hF
 obtain⟨w,hw⟩:∃w:Rat→Rat,w=fun u=>val fc fm (t+u)-val gc gm u:=⟨_,rfl⟩
 have we:∀u,w u=val fc fm (t+u)-val gc gm u:=fun u=>by rw[hw]
 have amid:∀p n,p∈F→(∀x∈F,x≤p∨n≤x)→∀x,p≤x→x≤n→w x=w p+(sat fc fm (t+p)-sat gc gm p)*(x-p):=fun p n hp h x x1 x2=>by
  have p0:=nn p hp
  have e1:=jNV (m:=fm) of (a:=t+p) (b:=t+n) (x:=t+x) (by grind) (fun k hk=>by
   by_cases c:t≤tt fc k
   ·rcases h _ (ff k hk c) with y|y
    ·left;grind
    ·right;grind
   ·left;grind) (by grind) (by grind)
  have e2:=jNV (m:=gm) og (a:=p) (b:=n) (x:=x) p0 (fun k hk=>h _ (fg k hk)) x1 x2
  rw[we,we,e1,e2]
  grind
 have behind:∀p,p∈F→(∀x∈F,x≤p)→∀x,p≤x→w x=w p+(fm-gm)*(x-p)∧sat fc fm (t+p)=fm∧sat gc gm p=gm:=fun p hp h x x1=>by
  have e1:=jKQ (m:=fm) of (a:=t+p) (x:=t+x) (fun k hk=>by
   by_cases c:t≤tt fc k
   ·have:=h _ (ff k hk c);grind
   ·have:=nn p hp;grind) (by grind)
  have e2:=jKQ (m:=gm) og (a:=p) (x:=x) (fun k hk=>h _ (fg k hk)) x1
  refine⟨?_,e1.2,e2.2⟩
  rw[we,we,e1.1,e2.1]
  grind
 obtain⟨y0,hy0,_,my0⟩:=jKl w (fun _=>True) F ⟨0,f0,trivial⟩
 obtain⟨y,hy,py,my⟩:=jKl (fun x=>-x) (fun x=>w x=w y0) F ⟨y0,hy0,rfl⟩
 have best:∀x∈F,w x≤w y:=fun x hx=>by rw[py];exact my0 x hx trivial
 have first:∀x∈F,x<y→w x<w y:=fun x hx lt=>by
  refine Rat.not_le.mp fun z=>?_
  have b:=best x hx
  have:=my x hx (by rw[←py];grind)
  grind
 have next:∀v,(∀x∈F,x≤v)∨∃n∈F,v<n∧∀x∈F,x≤v∨n≤x:=fun v=>by
  by_cases c:∃x∈F,v<x
  ·obtain⟨n,hn,pn,mn'⟩:=jKl (fun x=>-x) (fun x=>v<x) F c
   refine .inr ⟨n,hn,pn,fun x hx=>?_⟩
   by_cases d:v<x
   ·right
    have:=mn' x hx d
    grind
   ·left;grind
  ·left
   intro x hx
   exact Rat.not_lt.mp fun z=>c ⟨x,hx,z⟩
 refine⟨y,nn y hy,?_,fun v v0=>?_⟩
 ·by_cases c:y=0
  ·exact .inl c
  right
  have y0':0<y:=by have:=nn y hy;grind
  obtain⟨p,hp,lp,mp'⟩:=jKl (fun x=>x) (fun x=>x<y) F ⟨0,f0,y0'⟩
  have gapF:∀x∈F,x≤p∨y≤x:=fun x hx=>by
   by_cases d:x<y
   ·left;exact mp' x hx d
   ·right;grind
  have a:=amid p y hp gapF y (Rat.le_of_lt lp) Rat.le_refl
  have f1:=first p hp lp
  have s1:0<sat fc fm (t+p)-sat gc gm p:=by
   refine Rat.not_le.mp fun z=>?_
   have:0≤(-(sat fc fm (t+p)-sat gc gm p))*(y-p):=Rat.mul_nonneg (by grind) (by grind)
   grind
  have s2:sat fc fm (t+y)-sat gc gm y≤0:=by
   rcases next y with h|⟨n,hn,ln,gn⟩
   ·obtain⟨_,e1,e2⟩:=behind y hy h y Rat.le_refl
    rw[e1,e2];grind
   ·have a2:=amid y n hy gn n (Rat.le_of_lt ln) Rat.le_refl
    have b:=best n hn
    refine Rat.not_lt.mp fun z=>?_
    have:=Rat.mul_pos z (show 0<n-y by grind)
    grind
  have p0:=nn p hp
  by_cases d:sat gc gm p<sat gc gm y
  ·left
   obtain⟨k,k0,kl,e,e1,e2⟩:=jLI (m:=gm) og p0 lp (fun k hk=>gapF _ (fg k hk)) (by grind)
   exact⟨k,k0,kl,e,by rw[e1,e2];exact d⟩
  ·right
   obtain⟨k,k0,kl,e,e1,e2⟩:=jLI (m:=fm) of (a:=t+p) (c:=t+y) (by grind) (by grind) (fun k hk=>by
    by_cases c:t≤tt fc k
    ·rcases gapF _ (ff k hk c) with y|y
     ·left;grind
     ·right;grind
    ·left;grind) (by grind)
   exact⟨k,k0,kl,e,by rw[e1,e2];grind⟩
 ·rw[←we,←we]
  obtain⟨p,hp,lp,mp'⟩:=jKl (fun x=>x) (fun x=>x≤v) F ⟨0,f0,v0⟩
  rcases next v with h|⟨n,hn,ln,gn⟩
  ·have e:=(behind p hp (fun x hx=>mp' x hx (h x hx)) v lp).1
   have b:=best p hp
   have:0≤(gm-fm)*(v-p):=Rat.mul_nonneg (by grind) (by grind)
   grind
  ·have g2:∀x∈F,x≤p∨n≤x:=fun x hx=>by
    rcases gn x hx with h|h
    ·left;exact mp' x hx h
    ·right;exact h
   have a1:=amid p n hp g2 v lp (Rat.le_of_lt ln)
   have a2:=amid p n hp g2 n (by grind) Rat.le_refl
   have b1:=best p hp
   have b2:=best n hn
   by_cases c:0≤sat fc fm (t+p)-sat gc gm p
   ·have:0≤(sat fc fm (t+p)-sat gc gm p)*(n-v):=Rat.mul_nonneg c (by grind)
    grind
   ·have:0≤(-(sat fc fm (t+p)-sat gc gm p))*(v-p):=Rat.mul_nonneg (by grind) (by grind)
    grind
end CH
namespace CH
open PySem L2 L3
def IsU (fc:Cs)(fm:Rat)(gc:Cs)(gm:Rat)(t v:Rat):Prop:=0≤v∧(v=0∨∃u,0≤u∧val fc fm (t+u)-val gc gm u=v)∧∀u,0≤u→val fc fm (t+u)-val gc gm u≤v
def jMg (L:List (Rat→Rat))(h:Rat→Rat):Prop:=∀t,0≤t→h t≤0∧(∀c∈L,h t≤c t)∧(h t=0∨∃c∈L,h t=c t)
theorem jMg.nil:jMg [] (fun _=>0):=fun t _=>⟨Rat.le_refl,(fun c hc=>nomatch hc),Or.inl rfl⟩
theorem jMg.add {L:List (Rat→Rat)}{h c:Rat→Rat}(a:jMg L h):jMg (L++[c]) (jOK 0 h c):=fun t t0=>by
 obtain⟨a1,a2,a3⟩:=a t t0
 have e:jOK 0 h c t=mp (h t) (c t):=by unfold jOK;rw[if_neg (by grind)]
 rw[e]
 by_cases z:h t≤c t
 ·rw[jRe z]
  refine⟨a1,fun d hd=>?_,?_⟩
  ·rcases List.mem_append.mp hd with hd|hd
   ·exact a2 d hd
   ·rw[List.mem_singleton.mp hd];exact z
  ·rcases a3 with y|⟨d,hd,y⟩
   ·exact .inl y
   ·exact .inr ⟨d,List.mem_append.mpr (.inl hd),y⟩
 ·rw[jRx (by grind)]
  refine⟨by grind,fun d hd=>?_,.inr ⟨c,List.mem_append.mpr (.inr (List.mem_singleton.mpr rfl)),rfl⟩⟩
  rcases List.mem_append.mp hd with hd|hd
  ·have:=a2 d hd;grind
  ·rw[List.mem_singleton.mp hd];exact Rat.le_refl
def cA (fc:Cs)(fm:Rat)(gc:Cs)(k:Nat)(t:Rat):Rat:=-val fc fm (t-(0-tt gc k))+vv gc k
def cB (fc:Cs)(gc:Cs)(gm:Rat)(k:Nat)(t:Rat):Rat:=val gc gm (if t-tt fc k≤0 then -(t-tt fc k) else 0)+(0-vv fc k)
def stI (cs:Cs)(m:Rat):List Nat:=((List.range (cs.length-1)).filter fun n=>decide (slp cs m n<slp cs m (n+1))).map (· + 1)
def flI (cs:Cs)(m:Rat):List Nat:=((List.range (cs.length-1)).filter fun n=>decide (slp cs m (n+1)<slp cs m n)).map (· + 1)
theorem jGn {cs:Cs}{m:Rat}{k:Nat}:k∈stI cs m ↔ k<cs.length∧0<k∧slp cs m (k-1)<slp cs m k:=by
 unfold stI
 rw[List.mem_map]
 constructor
 ·rintro⟨n,hn,rfl⟩
  have h:=List.mem_filter.mp hn
  have h1:=List.mem_range.mp h.1
  exact⟨by omega,by omega,of_decide_eq_true h.2⟩
 ·rintro⟨h1,h2,h3⟩
  refine⟨k-1,List.mem_filter.mpr ⟨List.mem_range.mpr (by omega),?_⟩,by omega⟩
  rw[show k-1+1=k by omega]
  exact decide_eq_true h3
theorem jGf {cs:Cs}{m:Rat}{k:Nat}:k∈flI cs m ↔ k<cs.length∧0<k∧slp cs m k<slp cs m (k-1):=by
 unfold flI
 rw[List.mem_map]
 constructor
 ·rintro⟨n,hn,rfl⟩
  have h:=List.mem_filter.mp hn
  have h1:=List.mem_range.mp h.1
  exact⟨by omega,by omega,of_decide_eq_true h.2⟩
 ·rintro⟨h1,h2,h3⟩
  refine⟨k-1,List.mem_filter.mpr ⟨List.mem_range.mpr (by omega),?_⟩,by omega⟩
  rw[show k-1+1=k by omega]
  exact decide_eq_true h3
theorem jID {α:Type}{p:Nat→Bool}{f:Nat→α}:∀l:List Nat,(l.map fun n=>if p n=true then some (f (n+1)) else none).filterMap id=((l.filter p).map (· + 1)).map f
 |[]=>rfl
 |a::l=>by
  have ih:=jID (p:=p) (f:=f) l
  rw[List.map_cons,List.filter_cons]
  by_cases c:p a=true
  ·rw[if_pos c,if_pos c,List.map_cons,List.map_cons,←ih]
   rfl
  ·rw[if_neg c,if_neg c,←ih]
   rfl
def jRf (fc:Cs)(fm:Rat)(gc:Cs)(gm:Rat):List (Rat→Rat):=(0::stI gc gm).map (cA fc fm gc)++(flI fc fm).map (cB fc gc gm)
section
variable {fc gc:Cs}{fm gm:Rat}
theorem jDr {cs:Cs}(o:Ord cs){k:Nat}(h:k<cs.length):0≤tt cs k:=by
 have:=jBz o.up (i:=0) (j:=k) (by omega) h
 rw[o.t0] at this
 exact this
theorem jPc (og:Ord gc){k:Nat}(h:k<gc.length) (t:Rat):cA fc fm gc k t=val gc gm (tt gc k)-val fc fm (t+tt gc k):=by
 unfold cA
 rw[jEl og h,show t-(0-tt gc k)=t+tt gc k by grind]
 grind
theorem jPU (of:Ord fc){k:Nat}(h:k<fc.length){t:Rat}(ht:t≤tt fc k):cB fc gc gm k t=val gc gm (tt fc k-t)-val fc fm (t+(tt fc k-t)):=by
 unfold cB
 rw[if_pos (by grind),show t+(tt fc k-t)=tt fc k by grind,jEl of h,show -(t-tt fc k)=tt fc k-t by grind]
 grind
theorem jQQ (of:Ord fc)(t:Rat){k:Nat}(ht:¬t≤tt fc k):cB fc gc gm k t=val gc gm 0-vv fc k:=by
 unfold cB
 rw[if_neg (by grind)]
 grind
theorem jQn (rf:jJB fc fm)(rg:jJB gc gm)(hm:fm≤gm){h:Rat→Rat}(a:jMg (jRf fc fm gc gm) h){t:Rat}(t0:0≤t):IsU fc fm gc gm t (-h t):=by
 obtain⟨a1,a2,a3⟩:=a t t0
 have inA:∀k,k=0∨k∈stI gc gm→cA fc fm gc k∈jRf fc fm gc gm:=fun k hk=>List.mem_append.mpr (.inl (List.mem_map.mpr ⟨k,List.mem_cons.mpr hk,rfl⟩))
 have inB:∀k,k∈flI fc fm→cB fc gc gm k∈jRf fc fm gc gm:=fun k hk=>List.mem_append.mpr (.inr (List.mem_map.mpr ⟨k,hk,rfl⟩))
 have g0:=rg.o.ne
 have z0:cA fc fm gc 0 t=val gc gm 0-val fc fm (t+0):=by rw[jPc (gm:=gm) rg.o g0,rg.o.t0]
 have b0:=a2 _ (inA 0 (.inl rfl))
 rw[z0] at b0
 refine⟨by grind,?_,fun u u0=>?_⟩
 ·rcases a3 with e|⟨c,hc,e⟩
  ·left;grind
  right
  rcases List.mem_append.mp hc with hc|hc
  ·obtain⟨k,hk,rfl⟩:=List.mem_map.mp hc
   have kl:k<gc.length:=by
    rcases List.mem_cons.mp hk with rfl|hk
    ·exact g0
    ·exact(jGn.mp hk).1
   refine⟨tt gc k,jDr rg.o kl,?_⟩
   rw[e,jPc (gm:=gm) rg.o kl]
   grind
  ·obtain⟨k,hk,rfl⟩:=List.mem_map.mp hc
   have kl:=(jGf.mp hk).1
   by_cases z:t≤tt fc k
   ·refine⟨tt fc k-t,by grind,?_⟩
    rw[e,jPU (fm:=fm) rf.o kl z]
    grind
   ·refine⟨0,Rat.le_refl,?_⟩
    rw[jQQ rf.o t z] at e
    have:vv fc k≤val fc fm (t+0):=by
     rw[show t+0=t by grind]
     exact jNA rf kl (by grind)
    grind
 ·obtain⟨w,w0,cw,best⟩:=jJq rf.o rg.o hm t0
  refine Rat.le_trans (best u u0) ?_
  rcases cw with rfl|⟨k,k0,kl,e,s⟩|⟨k,k0,kl,e,s⟩
  ·grind
  ·have:=a2 _ (inA k (.inr (jGn.mpr ⟨kl,k0,s⟩)))
   rw[jPc (gm:=gm) rg.o kl,e] at this
   grind
  ·have:=a2 _ (inB k (jGf.mpr ⟨kl,k0,s⟩))
   rw[jPU (fm:=fm) rf.o kl (by grind),e,show t+w-t=w by grind] at this
   grind
theorem jMk (rf:jJB fc fm){x y v w:Rat}(x0:0≤x) (xy:x≤y) (a:IsU fc fm gc gm x v) (b:IsU fc fm gc gm y w):v≤w:=by
 obtain⟨a0,a1,a2⟩:=a
 obtain⟨b0,b1,b2⟩:=b
 rcases a1 with e|⟨u,u0,e⟩
 ·grind
 ·have h1:=b2 u u0
  have h2:val fc fm (x+u)≤val fc fm (y+u):=jFJ rf (by grind) (by grind)
  grind
theorem jNh (rf:jJB fc fm)(rg:jJB gc gm)(hm:fm≤gm){C:Cs}{M:Rat}(o:Ord C) (a:∀t,0≤t→IsU fc fm gc gm t (val C M t)):M=fm:=by
 have fn:=rf.o.ne
 have cn:=o.ne
 have gn:=rg.o.ne
 have f0:=jDr rf.o (show fc.length-1<fc.length by omega)
 have c0:=jDr o (show C.length-1<C.length by omega)
 have g0:=jDr rg.o (show gc.length-1<gc.length by omega)
 generalize eA:tt fc (fc.length-1)+tt C (C.length-1)=A
 have A0:0≤A:=by grind
 have vC:∀x,A≤x→val C M x=val C M A+M*(x-A):=fun x hx=>by
  rw[jDM cn (by grind),jDM cn (show tt C (C.length-1)≤A by grind)]
  grind
 have vF:∀x,A≤x→val fc fm x=val fc fm A+fm*(x-A):=fun x hx=>by
  rw[jDM fn (by grind),jDM fn (show tt fc (fc.length-1)≤A by grind)]
  grind
 have low:fm≤M:=by
  refine jNz (f0:=val fc fm A-val gc gm 0) (g0:=val C M A) (a:=A) fun x hx=>?_
  rw[←vC x hx]
  have:=(a x (by grind)).2.2 0 Rat.le_refl
  rw[show x+0=x by grind,vF x hx] at this
  grind
 have gb:∀u,0≤u→fm*u-val gc gm u≤fm*tt gc (gc.length-1):=fun u u0=>by
  have m0:=rf.m0
  by_cases c:u≤tt gc (gc.length-1)
  ·have h1:0≤val gc gm u:=by
    have:=jFJ rg Rat.le_refl u0
    rw[jHv rg.o] at this
    exact Rat.le_trans rg.o.v0 this
   have h2:0≤fm*(tt gc (gc.length-1)-u):=Rat.mul_nonneg m0 (by grind)
   grind
  ·have e:=jDM (M:=gm) gn (show tt gc (gc.length-1)≤u by grind)
   have h1:0≤vv gc (gc.length-1):=by
    have:=jFJ rg Rat.le_refl g0
    rw[jHv rg.o,jEl rg.o (by omega)] at this
    exact Rat.le_trans rg.o.v0 this
   have h2:0≤(gm-fm)*(u-tt gc (gc.length-1)):=Rat.mul_nonneg (by grind) (by grind)
   grind
 have up:M≤fm:=by
  have fA:0≤val fc fm A:=by
   have:=jFJ rf Rat.le_refl A0
   rw[jHv rf.o] at this
   exact Rat.le_trans rf.o.v0 this
  refine jNz (f0:=val C M A) (g0:=val fc fm A+fm*tt gc (gc.length-1)) (a:=A) fun x hx=>?_
  rw[←vC x hx]
  have m0:=rf.m0
  have k1:0≤fm*tt gc (gc.length-1):=Rat.mul_nonneg m0 g0
  have k2:0≤fm*(x-A):=Rat.mul_nonneg m0 (by grind)
  rcases(a x (by grind)).2.1 with e|⟨u,u0,e⟩
  ·rw[e];grind
  ·rw[←e,vF (x+u) (by grind)]
   have:=gb u u0
   grind
 grind
end
end CH
namespace CH
open PySem L2 L3
def jJa (m b:Rat):RL:=(m.num*(b.den:Int),b.num*(m.den:Int),(m.den:Int)*(b.den:Int))
def qr (q:Rat):Int×Int:=(q.num,(q.den:Int))
def jB5 (cs:Cs)(m:Rat):List RP:=(List.range cs.length).map fun k=>(qr (tt cs k),jJa (slp cs m k) (vv cs k-slp cs m k*tt cs k))
theorem jB4 {cs:Cs}{m:Rat}:(jB5 cs m).length=cs.length:=by unfold jB5;simp
theorem jDV {cs:Cs}{m:Rat}{k:Nat}(h:k<cs.length):(jB5 cs m)[k]? = some (qr (tt cs k),jJa (slp cs m k) (vv cs k-slp cs m k*tt cs k)):=by
 unfold jB5
 rw[List.getElem?_map,List.getElem?_range h]
 rfl
theorem jMM {cs:Cs}{m:Rat}{k:Nat}(h:k<cs.length):(jDv cs m)[k]? = some (tt cs k,(slp cs m k,vv cs k-slp cs m k*tt cs k)):=by
 unfold jDv
 rw[List.getElem?_map,List.getElem?_range h]
 rfl
theorem jME {a b c:Nat}{cs:Cs}{m:Rat}(o:Ord cs) (z:LS a b c cs m):PL (b+c) a (jB5 cs m) (jDv cs m):=by
 have l:=z.ln o
 refine⟨by rw[jB4,jAL],fun i p q h1 h2=>?_⟩
 have hi:i<cs.length:=by have:=(List.getElem?_eq_some_iff.mp h1).1;rw[jB4] at this;exact this
 rw[jDV hi] at h1
 rw[jMM hi] at h2
 cases h1
 cases h2
 exact⟨Wq.of (z.tm i hi),jLn (l i hi).1 (l i hi).2⟩
def frR (ps:List RP)(c:Nat):List RP:=((0,1),(ps.getD (c-1) ((0,1),(0,0,1))).2)::ps.drop c
theorem jQM {k m:Nat}{ps:List RP}{P:Ps}(h:PL k m ps P){c:Nat}(c0:0<c) (cl:c≤P.length) (hm:1≤m):PL k m (frR ps c) (frN P c):=by
 have len:=h.len
 refine⟨by rw[jDX];unfold frR;rw[List.length_cons,List.length_drop,len],fun i p q h1 h2=>?_⟩
 cases i with
 |zero =>
  cases h1
  cases h2
  have hg:ps[c-1]? = some (ps.getD (c-1) ((0,1),(0,0,1))):=by
   rw[List.getD_eq_getElem?_getD,List.getElem?_eq_getElem (show c-1<ps.length by omega)]
   rfl
  exact⟨(show Wq 1 0 1 0 from Wq.of Sz.zero).mono hm,(h.lnw hg).1⟩
 |succ i =>
  have g1:(ps.drop c)[i]? = some p:=h1
  have g2:(P.drop c)[i]? = some q:=h2
  rw[List.getElem?_drop] at g1 g2
  exact h.at_ _ p q g1 g2
def trR (cs:Cs)(m far:Rat):List RP:=((List.range cs.length).map fun k=>((qr (if k+1<cs.length then 0-tt cs (k+1) else 0-far),(-(jJa (slp cs m k) (vv cs k-slp cs m k*tt cs k)).1,(jJa (slp cs m k) (vv cs k-slp cs m k*tt cs k)).2)):RP)).reverse++[((0,1),(0,(jJa (slp cs m 0) (vv cs 0-slp cs m 0*tt cs 0)).2))]
theorem jPH {a b c:Nat}{cs:Cs}{m far:Rat}(o:Ord cs) (z:LS a b c cs m){n:Nat}(hf:Sz n far) (ha:a+2≤n):PL (b+c) (n+2) (trR cs m far) (jFh (jDv cs m) far):=by
 have l:=z.ln o
 have lw:∀k,k<cs.length→LW (b+c) (jJa (slp cs m k) (vv cs k-slp cs m k*tt cs k)) (slp cs m k,vv cs k-slp cs m k*tt cs k):=fun k hk=>jLn (l k hk).1 (l k hk).2
 have n0:=o.ne
 refine⟨by rw[jEm,jAL];unfold trR;simp,fun i p q h1 h2=>?_⟩
 have hlen:(trR cs m far).length=cs.length+1:=by unfold trR;simp
 have hi:i<cs.length+1:=by have:=(List.getElem?_eq_some_iff.mp h1).1;rw[hlen] at this;exact this
 by_cases c1:i<cs.length
 ·unfold trR at h1
  rw[List.getElem?_append_left (by simp;exact c1),List.getElem?_reverse (by simp;exact c1),List.length_map,List.length_range,List.getElem?_map,List.getElem?_range (by omega)] at h1
  cases h1
  obtain⟨e1,e2⟩:=jES h2
  have ta:=jE0 (P:=jDv cs m) (far:=far) (i:=i) (by rw[jAL];exact c1)
  rw[jAL] at ta
  rw[ta.1] at e1
  rw[ta.2,(jBy (show cs.length-1-i<cs.length by omega)).2] at e2
  have hk:=lw (cs.length-1-i) (by omega)
  refine⟨?_,?_⟩
  ·rw[←e1]
   dsimp only
   by_cases z0:0<i
   ·rw[if_pos (show cs.length-1-i+1<cs.length by omega),if_pos z0,(jBy (show cs.length-i<cs.length by omega)).1,show cs.length-1-i+1=cs.length-i by omega,show(0:Rat)-tt cs (cs.length-i)=-tt cs (cs.length-i) by grind]
    have s0:=(Sz.zero.sub (z.tm (cs.length-i) (by omega)))
    rw[show(0:Rat)-tt cs (cs.length-i)=-tt cs (cs.length-i) by grind] at s0
    exact(Wq.of s0).mono (by omega)
   ·rw[if_neg (show ¬cs.length-1-i+1<cs.length by omega),if_neg z0,show(0:Rat)-far=-far by grind]
    have s0:=Sz.zero.sub hf
    rw[show(0:Rat)-far=-far by grind] at s0
    exact(Wq.of s0).mono (by omega)
  ·rw[←e2]
   exact⟨hk.s.neg,hk.c⟩
 ·have:i=cs.length:=by omega
  subst this
  unfold trR at h1
  rw[List.getElem?_append_right (by simp)] at h1
  simp at h1
  subst h1
  obtain⟨e1,e2⟩:=jES h2
  have te:=jE5 (P:=jDv cs m) (far:=far)
  rw[jAL] at te
  rw[te.1] at e1
  rw[te.2,(jBy n0).2] at e2
  have hk:=lw 0 n0
  refine⟨?_,?_⟩
  ·rw[←e1];exact(show Wq 1 0 1 0 from Wq.of Sz.zero).mono (by omega)
  ·rw[←e2]
   exact⟨⟨hk.c.pos,by rw[show((0:Int):Rat)=0 from rfl];grind,by show(0:Int).natAbs<_;exact Nat.two_pow_pos _,hk.c.lb⟩,hk.c⟩
end CH
namespace CH
open PySem L2 L3
abbrev R4:=(Int×Int)×Nat×Nat
def tmF (rw:List R4)(n:Nat):Int×Int:=(rw.getD n ((0,1),0,0)).1
def iF' (rw:List R4)(n:Nat):Nat:=(rw.getD n ((0,1),0,0)).2.1
def jF (rw:List R4)(n:Nat):Nat:=(rw.getD n ((0,1),0,0)).2.2
def aF (rw:List R4)(n:Nat):Rat:=Rat.divInt (tmF rw n).1 (tmF rw n).2
theorem jTb {rw:List R4}{r:R4}{n:Nat}(h:n<rw.length):tmF (rw++[r]) n=tmF rw n∧iF' (rw++[r]) n=iF' rw n∧jF (rw++[r]) n=jF rw n∧aF (rw++[r]) n=aF rw n:=by
 have e:(rw++[r]).getD n ((0,1),0,0)=rw.getD n ((0,1),0,0):=by
  rw[List.getD_eq_getElem?_getD,List.getD_eq_getElem?_getD,List.getElem?_append_left h]
 unfold aF tmF iF' jF
 rw[e]
 exact⟨rfl,rfl,rfl,rfl⟩
theorem jRZ {rw:List R4}{r:R4}:tmF (rw++[r]) rw.length=r.1∧iF' (rw++[r]) rw.length=r.2.1∧jF (rw++[r]) rw.length=r.2.2∧aF (rw++[r]) rw.length=Rat.divInt r.1.1 r.1.2:=by
 have e:(rw++[r]).getD rw.length ((0,1),0,0)=r:=by
  rw[List.getD_eq_getElem?_getD,List.getElem?_append_right (Nat.le_refl _),Nat.sub_self]
  rfl
 unfold aF tmF iF' jF
 rw[e]
 exact⟨rfl,rfl,rfl,rfl⟩
theorem jPx {rw:List R4}{n:Nat}(h:n<rw.length):rw[n]? = some (tmF rw n,iF' rw n,jF rw n):=by
 unfold tmF iF' jF
 rw[List.getD_eq_getElem?_getD,List.getElem?_eq_getElem h]
 rfl
def dfR:RP:=((0,1),(0,0,1))
def jM5 (ps os:List RP)(r:R4):D:=.tup [.tup [.int r.1.1,.int r.1.2],lnD (ps.getD r.2.1 dfR).2,lnD (os.getD r.2.2 dfR).2]
theorem jJu {k:Nat}{a b:Int}{x:Rat}(h:Wq k a b x):Rat.divInt a b=x:=by
 have hb:(b:Rat)≠0:=by have:=Rat.intCast_pos.mpr h.pos;grind
 rw[Rat.divInt_eq_div,h.eq]
 have k2:x*(b:Rat)/(b:Rat)*(b:Rat)=x*(b:Rat):=Rat.div_mul_cancel hb
 have k3:(x*(b:Rat)/(b:Rat)-x)*(b:Rat)=0:=by grind
 rcases Rat.mul_eq_zero.mp k3 with z|z
 ·grind
 ·exact absurd z hb
structure jLN (P O:Ps)(m:Nat)(rw:List R4):Prop where
 n0:0<rw.length
 w:∀n,n<rw.length→Wq m (tmF rw n).1 (tmF rw n).2 (aF rw n)
 a0:aF rw 0=bg O 0
 j0:jF rw 0=0
 iP:∀n,n<rw.length→iF' rw n<P.length
 jO:∀n,n<rw.length→jF rw n<O.length
 bi:∀n,n<rw.length→bg P (iF' rw n)≤aF rw n
 bj:∀n,n<rw.length→bg O (jF rw n)≤aF rw n
 up:∀n,n+1<rw.length→aF rw n<aF rw (n+1)
 ei:∀n,n+1<rw.length→iF' rw n+1<P.length→aF rw (n+1)≤bg P (iF' rw n+1)
 ej:∀n,n+1<rw.length→jF rw n+1<O.length→aF rw (n+1)≤bg O (jF rw n+1)
 li:iF' rw (rw.length-1)+1<P.length→aF rw (rw.length-1)<bg P (iF' rw (rw.length-1)+1)
 lj:jF rw (rw.length-1)+1<O.length→aF rw (rw.length-1)<bg O (jF rw (rw.length-1)+1)
 si:∀n,n+1<rw.length→iF' rw (n+1)=iF' rw n∨(iF' rw (n+1)=iF' rw n+1∧aF rw (n+1)=bg P (iF' rw n+1))
 sj:∀n,n+1<rw.length→jF rw (n+1)=jF rw n∨(jF rw (n+1)=jF rw n+1∧aF rw (n+1)=bg O (jF rw n+1))
 mv:∀n,n+1<rw.length→iF' rw (n+1)=iF' rw n→jF rw (n+1)≠jF rw n
 cnt:rw.length+iF' rw 0≤iF' rw (rw.length-1)+jF rw (rw.length-1)+1+iF' rw 0
theorem jLN.all {P O:Ps}{m:Nat}{rw:List R4}(s:jLN P O m rw) (h1:¬iF' rw (rw.length-1)+1<P.length) (h2:¬jF rw (rw.length-1)+1<O.length):Sbs P O rw.length (aF rw) (iF' rw) (jF rw):=by
 refine⟨s.n0,s.a0,s.j0,s.iP,s.jO,s.bi,s.bj,s.up,fun n hn z=>?_,fun n hn z=>?_,s.si,s.sj,s.mv⟩
 ·by_cases c:n+1<rw.length
  ·exact⟨c,s.ei n c z⟩
  ·rw[show n=rw.length-1 by omega] at z;exact absurd z h1
 ·by_cases c:n+1<rw.length
  ·exact⟨c,s.ej n c z⟩
  ·rw[show n=rw.length-1 by omega] at z;exact absurd z h2
theorem jLN.one {P O:Ps}{m:Nat}{tm:Int×Int}{i:Nat}(w:Wq m tm.1 tm.2 (bg O 0)) (hi:i<P.length) (ho:0<O.length) (b:bg P i≤bg O 0) (l:i+1<P.length→bg O 0<bg P (i+1)) (u:1<O.length→bg O 0<bg O 1):jLN P O m [(tm,i,0)]:=by
 have e:=jJu w
 have ea:aF [(tm,i,0)] 0=bg O 0:=e
 have z:∀n,n < [(tm,i,(0:Nat))].length→n=0:=fun n hn=>by have:n<1:=hn;omega
 have nn:∀n,¬n+1 < [(tm,i,(0:Nat))].length:=fun n hn=>by have:n+1<1:=hn;omega
 refine⟨by simp,fun n hn=>?_,ea,rfl,fun n hn=>?_,fun n hn=>?_,fun n hn=>?_,fun n hn=>?_,fun n hn=>absurd hn (nn n),fun n hn=>absurd hn (nn n),fun n hn=>absurd hn (nn n),fun h=>?_,fun h=>?_,fun n hn=>absurd hn (nn n),fun n hn=>absurd hn (nn n),fun n hn=>absurd hn (nn n),?_⟩
 ·rw[z n hn,ea];exact w
 ·rw[z n hn];exact hi
 ·rw[z n hn];exact ho
 ·rw[z n hn,ea];exact b
 ·rw[z n hn,ea];exact Rat.le_refl
 ·show aF [(tm,i,0)] 0<_
  rw[ea];exact l h
 ·show aF [(tm,i,0)] 0<_
  rw[ea];exact u h
 ·show 1+i≤i+0+1+i
  omega
theorem jLN.step {P O:Ps}{m:Nat}{rw:List R4}(s:jLN P O m rw) (uP:∀i,i+1<P.length→bg P i<bg P (i+1)) (uO:∀i,i+1<O.length→bg O i<bg O (i+1)){tm:Int×Int}{x:Rat}{i' j':Nat}(w:Wq m tm.1 tm.2 x)
 (x1:iF' rw (rw.length-1)+1<P.length→x≤bg P (iF' rw (rw.length-1)+1)) (x2:jF rw (rw.length-1)+1<O.length→x≤bg O (jF rw (rw.length-1)+1))
 (x3:(iF' rw (rw.length-1)+1<P.length∧x=bg P (iF' rw (rw.length-1)+1))∨(jF rw (rw.length-1)+1<O.length∧x=bg O (jF rw (rw.length-1)+1)))
 (ei':i'=if iF' rw (rw.length-1)+1<P.length∧¬x<bg P (iF' rw (rw.length-1)+1) then iF' rw (rw.length-1)+1 else iF' rw (rw.length-1))
 (ej':j'=if jF rw (rw.length-1)+1<O.length∧¬x<bg O (jF rw (rw.length-1)+1) then jF rw (rw.length-1)+1 else jF rw (rw.length-1)):jLN P O m (rw++[(tm,i',j')]):=by
 have ln:(rw++[(tm,i',j')]).length=rw.length+1:=by simp
 have n0:=s.n0
 have ex:=jJu w
 have L:=fun n (hn:n<rw.length)=>jTb (rw:=rw) (r:=(tm,i',j')) hn
 have Rr:=jRZ (rw:=rw) (r:=(tm,i',j'))
 have rA:aF (rw++[(tm,i',j')]) rw.length=x:=by rw[Rr.2.2.2];exact ex
 have rI:iF' (rw++[(tm,i',j')]) rw.length=i':=Rr.2.1
 have rJ:jF (rw++[(tm,i',j')]) rw.length=j':=Rr.2.2.1
 have rT:tmF (rw++[(tm,i',j')]) rw.length=tm:=Rr.1
 have hL:rw.length-1<rw.length:=by omega
 have a1:=s.iP _ hL
 have a2:=s.jO _ hL
 have a3:=s.bi _ hL
 have a4:=s.bj _ hL
 have a5:=s.li
 have a6:=s.lj
 have cn:=s.cnt
 generalize eI:iF' rw (rw.length-1)=I0 at *
 generalize eJ:jF rw (rw.length-1)=J0 at *
 generalize eA:aF rw (rw.length-1)=A0 at *
 have lt:A0<x:=by
  rcases x3 with⟨h,e⟩|⟨h,e⟩
  ·rw[e];exact a5 h
  ·rw[e];exact a6 h
 have hi:(i'=I0∧(I0+1<P.length→x<bg P (I0+1)))∨(i'=I0+1∧I0+1<P.length∧x=bg P (I0+1)):=by
  by_cases c:I0+1<P.length∧¬x<bg P (I0+1)
  ·rw[if_pos c] at ei'
   have:=x1 c.1
   exact .inr ⟨ei',c.1,by grind⟩
  ·rw[if_neg c] at ei'
   exact .inl ⟨ei',fun h=>Decidable.byContradiction fun z=>c ⟨h,z⟩⟩
 have hj:(j'=J0∧(J0+1<O.length→x<bg O (J0+1)))∨(j'=J0+1∧J0+1<O.length∧x=bg O (J0+1)):=by
  by_cases c:J0+1<O.length∧¬x<bg O (J0+1)
  ·rw[if_pos c] at ej'
   have:=x2 c.1
   exact .inr ⟨ej',c.1,by grind⟩
  ·rw[if_neg c] at ej'
   exact .inl ⟨ej',fun h=>Decidable.byContradiction fun z=>c ⟨h,z⟩⟩
 have one:¬(i'=I0∧j'=J0):=fun z=>by
  rcases x3 with⟨h,e⟩|⟨h,e⟩
  ·rcases hi with y|y
   ·have:=y.2 h;grind
   ·omega
  ·rcases hj with y|y
   ·have:=y.2 h;grind
   ·omega
 have old:∀{q:Nat→Prop},(∀n,n<rw.length→q n)→q rw.length→∀n,n<(rw++[(tm,i',j')]).length→q n:=fun {q} h1 h2 n hn=>by
  rw[ln] at hn
  by_cases c:n<rw.length
  ·exact h1 n c
  ·rw[show n=rw.length by omega];exact h2
 have old2:∀{q:Nat→Prop},(∀n,n+1<rw.length→q n)→q (rw.length-1)→∀n,n+1<(rw++[(tm,i',j')]).length→q n:=fun {q} h1 h2 n hn=>by
  rw[ln] at hn
  by_cases c:n+1<rw.length
  ·exact h1 n c
  ·rw[show n=rw.length-1 by omega];exact h2
 have pre:rw.length-1+1=rw.length:=by omega
 have lI:iF' (rw++[(tm,i',j')]) (rw.length-1)=I0:=by rw[(L _ hL).2.1];exact eI
 have lJ:jF (rw++[(tm,i',j')]) (rw.length-1)=J0:=by rw[(L _ hL).2.2.1];exact eJ
 have lA:aF (rw++[(tm,i',j')]) (rw.length-1)=A0:=by rw[(L _ hL).2.2.2];exact eA
 have nl:(rw++[(tm,i',j')]).length-1=rw.length:=by rw[ln];omega
 refine⟨by omega,old (fun n hn=>?_) ?_,?_,?_,old (fun n hn=>?_) ?_,old (fun n hn=>?_) ?_,old (fun n hn=>?_) ?_,old (fun n hn=>?_) ?_,old2 (fun n hn=>?_) ?_,old2 (fun n hn=>?_) ?_,old2 (fun n hn=>?_) ?_,?_,?_,old2 (fun n hn=>?_) ?_,old2 (fun n hn=>?_) ?_,old2 (fun n hn=>?_) ?_,?_⟩
 ·rw[(L n hn).1,(L n hn).2.2.2];exact s.w n hn
 ·rw[rT,rA];exact w
 ·rw[(L 0 n0).2.2.2];exact s.a0
 ·rw[(L 0 n0).2.2.1];exact s.j0
 ·rw[(L n hn).2.1];exact s.iP n hn
 ·rw[rI];rcases hi with y|y<;>omega
 ·rw[(L n hn).2.2.1];exact s.jO n hn
 ·rw[rJ];rcases hj with y|y<;>omega
 ·rw[(L n hn).2.1,(L n hn).2.2.2];exact s.bi n hn
 ·rw[rI,rA]
  rcases hi with y|y
  ·rw[y.1];grind
  ·rw[y.1,y.2.2];exact Rat.le_refl
 ·rw[(L n hn).2.2.1,(L n hn).2.2.2];exact s.bj n hn
 ·rw[rJ,rA]
  rcases hj with y|y
  ·rw[y.1];grind
  ·rw[y.1,y.2.2];exact Rat.le_refl
 ·rw[(L n (by omega)).2.2.2,(L (n+1) hn).2.2.2];exact s.up n hn
 ·rw[pre,lA,rA];exact lt
 ·rw[(L n (by omega)).2.1,(L (n+1) hn).2.2.2];exact s.ei n hn
 ·rw[pre,lI,rA];exact x1
 ·rw[(L n (by omega)).2.2.1,(L (n+1) hn).2.2.2];exact s.ej n hn
 ·rw[pre,lJ,rA];exact x2
 ·rw[nl,rI,rA]
  intro h
  rcases hi with y|y
  ·rw[y.1] at h ⊢;exact y.2 h
  ·rw[y.1] at h ⊢;rw[y.2.2];exact uP _ h
 ·rw[nl,rJ,rA]
  intro h
  rcases hj with y|y
  ·rw[y.1] at h ⊢;exact y.2 h
  ·rw[y.1] at h ⊢;rw[y.2.2];exact uO _ h
 ·rw[(L n (by omega)).2.1,(L (n+1) hn).2.1,(L (n+1) hn).2.2.2];exact s.si n hn
 ·rw[pre,lI,rI,rA]
  rcases hi with y|y
  ·exact .inl y.1
  ·exact .inr ⟨y.1,y.2.2⟩
 ·rw[(L n (by omega)).2.2.1,(L (n+1) hn).2.2.1,(L (n+1) hn).2.2.2];exact s.sj n hn
 ·rw[pre,lJ,rJ,rA]
  rcases hj with y|y
  ·exact .inl y.1
  ·exact .inr ⟨y.1,y.2.2⟩
 ·rw[(L n (by omega)).2.1,(L (n+1) hn).2.1,(L n (by omega)).2.2.1,(L (n+1) hn).2.2.1];exact s.mv n hn
 ·rw[pre,lI,lJ,rI,rJ]
  exact fun z y=>one ⟨z,y⟩
 ·rw[nl,rI,rJ,ln]
  rcases hi with y|y<;>rcases hj with z|z<;>omega
end CH
namespace CH
open PySem L2 L3
theorem jDH {α:Type}{f:α→D}{xs:List α}{j:Nat}{a b:Int}(e1:a=(j:Int)+1) (e2:b=(j:Int)+2):jGP (xs.map f) (some a) (some b)=((xs.drop (j+1)).take 1).map f:=by
 have e1:a=((j+1:Nat):Int):=by omega
 have e2:b=((j+2:Nat):Int):=by omega
 subst e1 e2
 unfold jGP
 rw[HT.sIx_nat,HT.sIx_nat,List.length_map]
 by_cases c:j+1<xs.length
 ·rw[Nat.min_eq_left (by omega),Nat.min_eq_left (by omega),←List.map_drop,←List.map_take,show j+2-(j+1)=1 by omega]
 ·rw[Nat.min_eq_right (by omega),Nat.min_eq_right (by omega),Nat.sub_self,List.take_zero,List.drop_eq_nil_of_le (show xs.length≤j+1 by omega)]
  rfl
theorem jHs {ps:List RP}{j:Nat}(h:j<ps.length):(ps.drop j).take 1=[ps.getD j dfR]:=by
 have g:ps[j]? = some (ps.getD j dfR):=by
  rw[List.getD_eq_getElem?_getD,List.getElem?_eq_getElem h]
  rfl
 rw[show(1:Nat)=0+1 from rfl,List.take_add_one,List.getElem?_drop,Nat.add_zero,g]
 rfl
theorem jJx {ps:List RP}{j:Nat}(h:¬j<ps.length):(ps.drop j).take 1=[]:=by
 rw[List.drop_eq_nil_of_le (by omega)]
 rfl
theorem jSH {k m:Nat}{ps os:List RP}{P O:Ps}(lp:PL k m ps P) (lo:PL k m os O){i j:Nat}(hc:i+1<P.length∨j+1<O.length) :
 ∃(p q:RP)(s t x:Rat)(tm:Int×Int),0<((ps.drop (i+1)).take 1++(os.drop (j+1)).take 1).length∧((ps.drop (i+1)).take 1++(os.drop (j+1)).take 1).getD 0 dfR=p∧((ps.drop (i+1)).take 1++(os.drop (j+1)).take 1).getD (((ps.drop (i+1)).take 1++(os.drop (j+1)).take 1).length-1) dfR=q∧Wq m p.1.1 p.1.2 s∧Wq m q.1.1 q.1.2 t∧(if t<s then tp q.1.1 q.1.2 else tp p.1.1 p.1.2)=tp tm.1 tm.2∧Wq m tm.1 tm.2 x ∧
  (i+1<P.length→x≤bg P (i+1))∧(j+1<O.length→x≤bg O (j+1))∧((i+1<P.length∧x=bg P (i+1))∨(j+1<O.length∧x=bg O (j+1))):=by
 have l1:=lp.len
 have l2:=lo.len
 have g:∀{zs:List RP}{n:Nat},n<zs.length→zs[n]? = some (zs.getD n dfR):=fun {zs n} h=>by
  rw[List.getD_eq_getElem?_getD,List.getElem?_eq_getElem h]
  rfl
 by_cases c1:i+1<P.length
 ·have w1:=(lp.lnw (g (show i+1<ps.length by omega))).2.1
  rw[jHs (show i+1<ps.length by omega)]
  by_cases c2:j+1<O.length
  ·have w2:=(lo.lnw (g (show j+1<os.length by omega))).2.1
   rw[jHs (show j+1<os.length by omega)]
   refine⟨_,_,_,_,if bg O (j+1)<bg P (i+1) then bg O (j+1) else bg P (i+1),if bg O (j+1)<bg P (i+1) then (os.getD (j+1) dfR).1 else (ps.getD (i+1) dfR).1,by simp,rfl,rfl,w1,w2,?_,?_,fun _=>?_,fun _=>?_,?_⟩
   ·by_cases z:bg O (j+1)<bg P (i+1)
    ·rw[if_pos z,if_pos z];rfl
    ·rw[if_neg z,if_neg z];rfl
   ·by_cases z:bg O (j+1)<bg P (i+1)
    ·rw[if_pos z,if_pos z];exact w2
    ·rw[if_neg z,if_neg z];exact w1
   ·split<;>grind
   ·split<;>grind
   ·by_cases z:bg O (j+1)<bg P (i+1)
    ·rw[if_pos z];exact .inr ⟨c2,rfl⟩
    ·rw[if_neg z];exact .inl ⟨c1,rfl⟩
  ·rw[jJx (show ¬j+1<os.length by omega)]
   exact⟨_,_,_,_,_,(ps.getD (i+1) dfR).1,by simp,rfl,rfl,w1,w1,by rw[if_neg Rat.lt_irrefl];rfl,w1,fun _=>Rat.le_refl,fun z=>absurd z c2,.inl ⟨c1,rfl⟩⟩
 ·have c2:j+1<O.length:=hc.resolve_left c1
  have w2:=(lo.lnw (g (show j+1<os.length by omega))).2.1
  rw[jJx (show ¬i+1<ps.length by omega),jHs (show j+1<os.length by omega)]
  exact⟨_,_,_,_,_,(os.getD (j+1) dfR).1,by simp,rfl,rfl,w2,w2,by rw[if_neg Rat.lt_irrefl];rfl,w2,fun z=>absurd z c1,fun _=>Rat.le_refl,.inr ⟨c2,rfl⟩⟩
theorem jNs {P:Ps}(u:∀i,i+1<P.length→bg P i<bg P (i+1)) (x:Rat):∃c,c≤P.length∧(∀i,i<c→bg P i<x)∧∀i,c≤i→i<P.length→x≤bg P i:=by
 have key:∀n,n≤P.length→∃c,c≤n∧(∀i,i<c→bg P i<x)∧∀i,c≤i→i<n→x≤bg P i:=fun n=>by
  induction n with
  |zero=>intro _;exact⟨0,Nat.le_refl _,fun i hi=>absurd hi (Nat.not_lt_zero i),fun i _ hi=>absurd hi (Nat.not_lt_zero i)⟩
  |succ n ih =>
   intro hn
   obtain⟨c,c1,c2,c3⟩:=ih (by omega)
   by_cases e:c<n
   ·refine⟨c,by omega,c2,fun i h1 h2=>?_⟩
    by_cases z:i<n
    ·exact c3 i h1 z
    ·have:=c3 (n-1) (by omega) (by omega)
     have u':=u (n-1) (by omega)
     rw[show n-1+1=n by omega] at u'
     rw[show i=n by omega];grind
   ·have ec:c=n:=by omega
    subst ec
    by_cases z:bg P c<x
    ·exact⟨c+1,Nat.le_refl _,fun i hi=>by
      by_cases y:i<c
      ·exact c2 i y
      ·rw[show i=c by omega];exact z,fun i h1 h2=>by omega⟩
    ·exact⟨c,by omega,c2,fun i h1 h2=>by rw[show i=c by omega];grind⟩
 exact key P.length (Nat.le_refl _)
theorem jK3 {P:Ps}(u:∀i,i+1<P.length→bg P i<bg P (i+1)) (x:Rat):∃c,c≤P.length∧(∀i,i<c→bg P i≤x)∧∀i,c≤i→i<P.length→x<bg P i:=by
 obtain⟨c,c1,c2,c3⟩:=jNs u x
 by_cases z:c<P.length∧bg P c≤x
 ·refine⟨c+1,z.1,fun i hi=>?_,fun i h1 h2=>?_⟩
  ·by_cases y:i<c
   ·exact Rat.le_of_lt (c2 i y)
   ·rw[show i=c by omega];exact z.2
  ·have m:∀d,c+1+d<P.length→bg P c<bg P (c+1+d):=fun d=>by
    induction d with
    |zero=>intro h;exact u c h
    |succ d ih=>intro h;have:=ih (by omega);have:=u (c+1+d) h;rw[show c+1+(d+1)=c+1+d+1 by omega];grind
   have:=m (i-(c+1)) (by omega)
   rw[show c+1+(i-(c+1))=i by omega] at this
   have:=c3 c (Nat.le_refl _) z.1
   grind
 ·refine⟨c,c1,fun i hi=>Rat.le_of_lt (c2 i hi),fun i h1 h2=>?_⟩
  by_cases e:i=c
  ·subst e
   have:=c3 i h1 h2
   have:¬bg P i≤x:=fun y=>z ⟨h2,y⟩
   grind
  ·have m:∀d,c+1+d<P.length→bg P c<bg P (c+1+d):=fun d=>by
    induction d with
    |zero=>intro h;exact u c h
    |succ d ih=>intro h;have:=ih (by omega);have:=u (c+1+d) h;rw[show c+1+(d+1)=c+1+d+1 by omega];grind
   have:=m (i-(c+1)) (by omega)
   rw[show c+1+(i-(c+1))=i by omega] at this
   have:=c3 c (Nat.le_refl _) (by omega)
   grind
end CH
namespace CH
open PySem L2 L3
theorem Sz.ngt {k:Nat}{q:Rat}(h:Sz k q):Sz k (-q):=h.neg
def Gz (b Z:Nat)(l:Ln2):Prop:=Sz b l.1∧Sz Z l.2
theorem jRK {b Z X:Nat}(hX:Z+Z+1+(b+b+1)≤X):∀l l',Gz b Z l→Gz b Z l'→l.1≠l'.1→Sz X (xg l l'):=fun l l' h1 h2 ne=>by
 unfold xg
 exact((h2.2.sub h1.2).div (h1.1.sub h2.1) (by grind)).mono hX
def slS (fc:Cs)(fm:Rat)(gc:Cs)(gm:Rat):List Rat:=0::((List.range fc.length).map fun i=>-slp fc fm i)++((List.range gc.length).map fun i=>-slp gc gm i)
theorem jRI {fc gc:Cs}{fm gm:Rat}{i:Nat}(h:i<fc.length):-slp fc fm i∈slS fc fm gc gm:=by
 unfold slS
 exact List.mem_append.mpr (.inl (List.mem_cons.mpr (.inr (List.mem_map.mpr ⟨i,List.mem_range.mpr h,rfl⟩))))
theorem jSm {fc gc:Cs}{fm gm:Rat}{i:Nat}(h:i<gc.length):-slp gc gm i∈slS fc fm gc gm:=by
 unfold slS
 exact List.mem_append.mpr (.inr (List.mem_map.mpr ⟨i,List.mem_range.mpr h,rfl⟩))
theorem jQX {fc gc:Cs}{fm gm:Rat}:(0:Rat)∈slS fc fm gc gm:=by
 unfold slS
 exact List.mem_append.mpr (.inl (List.mem_cons.mpr (.inl rfl)))
theorem jPz {fc gc:Cs}{fm gm:Rat}:(slS fc fm gc gm).length=fc.length+gc.length+1:=by
 unfold slS
 simp
structure jON (S0:List Rat)(b Z X K m:Nat)(os:List RP)(O:Ps)(c:Rat→Rat):Prop where
 pl:PL K m os O
 pu:PU O c none
 ne:0<O.length
 b0:bg O 0=0
 sl:∀x,x<O.length→(ln O x).1∈S0
 gd:∀x,x<O.length→Gz b Z (ln O x)∧Sz X (bg O x)
theorem jNS {S0:List Rat}{b Z X K m:Nat}{ps:List RP}{P:Ps}{c:Nat}{h:Rat→Rat}(pl:PL K m ps P) (pu:PU P h none) (hm:1≤m) (hX:1≤X) (c0:0<c) (cl:c≤P.length) (h1:∀i,i<c→bg P i≤0) (h2:∀i,c≤i→i<P.length→0<bg P i)
 (sl:∀x,x<P.length→(ln P x).1∈S0) (gd:∀x,x<P.length→Gz b Z (ln P x)∧Sz X (bg P x)):jON S0 b Z X K m (frR ps c) (frN P c) h:=by
 refine⟨jQM pl c0 cl hm,pu.fromN c0 cl h1 (fun z=>h2 c (Nat.le_refl _) z),by rw[jDX];omega,rfl,fun x hx=>?_,fun x hx=>?_⟩
 ·rw[jDX] at hx
  cases x with
  |zero=>exact sl (c-1) (by omega)
  |succ x=>rw[jEd.2];exact sl _ (by omega)
 ·rw[jDX] at hx
  cases x with
  |zero=>exact⟨(gd (c-1) (by omega)).1,Sz.zero.mono hX⟩
  |succ x=>rw[jEd.1,jEd.2];exact gd _ (by omega)
theorem PL.mono {k m k' m':Nat}{ps:List RP}{P:Ps}(h:PL k m ps P) (h1:k≤k') (h2:m≤m'):PL k' m' ps P :=
 ⟨h.len,fun i p q a b=>⟨(h.at_ i p q a b).t.mono h2,⟨(h.at_ i p q a b).l.s.mono h1,(h.at_ i p q a b).l.c.mono h1⟩⟩⟩
section
variable {fc gc:Cs}{fm gm:Rat}{a b c:Nat}
def pA (fc:Cs)(fm:Rat)(gc:Cs)(k:Nat):Ps:=((jDv fc fm).map flP).map (mvP (0-tt gc k) (vv gc k))
theorem jLH {k:Nat}:(pA fc fm gc k).length=fc.length:=by unfold pA;rw[List.length_map,List.length_map,jAL]
theorem jMJ {k i:Nat}(h:i<fc.length):bg (pA fc fm gc k) i=tt fc i+(0-tt gc k)∧ln (pA fc fm gc k) i=(-slp fc fm i,-(vv fc i-slp fc fm i*tt fc i) - -slp fc fm i*(0-tt gc k)+vv gc k):=by
 unfold pA
 rw[(jBm (show i<((jDv fc fm).map flP).length by rw[List.length_map,jAL];exact h)).1,(jBm (show i<((jDv fc fm).map flP).length by rw[List.length_map,jAL];exact h)).2,(jBm (show i<(jDv fc fm).length by rw[jAL];exact h)).1,(jBm (show i<(jDv fc fm).length by rw[jAL];exact h)).2,(jBy h).1,(jBy h).2]
 exact⟨rfl,rfl⟩
theorem jRo (of:Ord fc){k:Nat}:PU (pA fc fm gc k) (cA fc fm gc k) none:=((jKL of).flip).move _ _
theorem jR6 (of:Ord fc)(og:Ord gc)(zf:LS a b c fc fm)(zg:LS a b c gc gm){k:Nat}(hk:k<gc.length){Z X:Nat}(hZ:2*(a+b+c)+5≤Z) (hX:3*a+4≤X):(∀x,x<(pA fc fm gc k).length→(ln (pA fc fm gc k) x).1∈slS fc fm gc gm)∧∀x,x<(pA fc fm gc k).length→Gz b Z (ln (pA fc fm gc k) x)∧Sz X (bg (pA fc fm gc k) x):=by
 refine⟨fun x hx=>?_,fun x hx=>?_⟩
 ·rw[jLH] at hx
  rw[(jMJ hx).2];exact jRI hx
 ·rw[jLH] at hx
  rw[(jMJ hx).1,(jMJ hx).2]
  have l:=zf.ln of x hx
  have tg:=zg.tm k hk
  have vg:Sz (b+a+c+1) (vv gc k):=by
   have:=zg.va (jDr og hk) tg
   rw[jEl og hk] at this
   exact this
  refine⟨⟨l.1.ngt,?_⟩,?_⟩
  ·exact(((l.2.ngt).sub ((l.1.ngt).mul (Sz.zero.sub tg))).add vg).mono (by omega)
  ·exact((zf.tm x hx).add (Sz.zero.sub tg)).mono (by omega)
def pB (fc:Cs)(gc:Cs)(gm far:Rat)(k:Nat):Ps:=(jFh (jDv gc gm) far).map (mvP (tt fc k) (0-vv fc k))
theorem jKx {k:Nat}{far:Rat}:(pB fc gc gm far k).length=gc.length+1:=by unfold pB;rw[List.length_map,jEm,jAL]
theorem jRl (og:Ord gc){k:Nat}{far:Rat}(hf:tt gc (gc.length-1)<far):PU (pB fc gc gm far k) (cB fc gc gm k) none:=by
 have n0:=og.ne
 refine((jKL og).turn (by rw[jAL];exact n0) (by rw[(jBy n0).1];exact og.t0) (by rw[jAL,(jBy (show gc.length-1<gc.length by omega)).1];exact hf)).move _ _
theorem jS9 (og:Ord gc){k:Nat}{far:Rat}:bg (pB fc gc gm far k) 0=-far+tt fc k:=by
 unfold pB
 rw[(jBm (show 0<(jFh (jDv gc gm) far).length by rw[jEm];omega)).1]
 show bg (jFh (jDv gc gm) far) 0+tt fc k=_
 rw[(jE0 (show 0<(jDv gc gm).length by rw[jAL];exact og.ne)).1,if_neg (by decide)]
theorem jRX (of:Ord fc)(og:Ord gc)(zf:LS a b c fc fm)(zg:LS a b c gc gm){k:Nat}(hk:k<fc.length){far:Rat}(zr:Sz (2*a+1) far){Z X:Nat}(hb:1≤b) (hZ:2*(a+b+c)+5≤Z) (hX:3*a+4≤X):(∀x,x<(pB fc gc gm far k).length→(ln (pB fc gc gm far k) x).1∈slS fc fm gc gm)∧∀x,x<(pB fc gc gm far k).length→Gz b Z (ln (pB fc gc gm far k) x)∧Sz X (bg (pB fc gc gm far k) x):=by
 have n0:=og.ne
 have tf:=zf.tm k hk
 have vf:Sz (b+a+c+1) (vv fc k):=by
  have:=zf.va (jDr of hk) tf
  rw[jEl of hk] at this
  exact this
 have key:∀x,x<gc.length+1→((ln (jFh (jDv gc gm) far) x).1∈slS fc fm gc gm∧Sz b (ln (jFh (jDv gc gm) far) x).1∧Sz c (ln (jFh (jDv gc gm) far) x).2∧Sz (2*a+2) (bg (jFh (jDv gc gm) far) x)):=fun x hx=>by
  by_cases z:x<gc.length
  ·have ta:=jE0 (P:=jDv gc gm) (far:=far) (i:=x) (by rw[jAL];exact z)
   rw[jAL] at ta
   have hi:gc.length-1-x<gc.length:=by omega
   rw[ta.1,ta.2,(jBy hi).2]
   have l:=zg.ln og _ hi
   refine⟨jSm hi,l.1.ngt,l.2,?_⟩
   by_cases y:0<x
   ·rw[if_pos y,(jBy (show gc.length-x<gc.length by omega)).1]
    exact(zg.tm _ (by omega)).ngt.mono (by omega)
   ·rw[if_neg y];exact zr.ngt.mono (by omega)
  ·have te:=jE5 (P:=jDv gc gm) (far:=far)
   rw[jAL] at te
   rw[show x=gc.length by omega,te.1,te.2,(jBy n0).2]
   exact⟨jQX,Sz.zero.mono hb,(zg.ln og 0 n0).2,Sz.zero.mono (by omega)⟩
 have at_:∀x,x<gc.length+1→bg (pB fc gc gm far k) x=bg (jFh (jDv gc gm) far) x+tt fc k∧ln (pB fc gc gm far k) x=((ln (jFh (jDv gc gm) far) x).1,(ln (jFh (jDv gc gm) far) x).2-(ln (jFh (jDv gc gm) far) x).1*tt fc k+(0-vv fc k)):=fun x hx=>by
  unfold pB
  have hx':x<(jFh (jDv gc gm) far).length:=by rw[jEm,jAL];exact hx
  rw[(jBm hx').1,(jBm hx').2]
  exact⟨rfl,rfl⟩
 refine⟨fun x hx=>?_,fun x hx=>?_⟩
 ·rw[jKx] at hx
  rw[(at_ x hx).2];exact(key x hx).1
 ·rw[jKx] at hx
  obtain⟨k1,k2,k3,k4⟩:=key x hx
  rw[(at_ x hx).1,(at_ x hx).2]
  exact⟨⟨k2,((k3.sub (k2.mul tf)).add (Sz.zero.sub vf)).mono (by omega)⟩,(k4.add tf).mono (by omega)⟩
theorem jOZ (rf:jJB fc fm)(rg:jJB gc gm)(hm:fm≤gm){B S0:List Rat}{b Z X K m:Nat}{h:Rat→Rat}{qs:List RP}{Q:Ps}(r:jEr B S0 (Gz b Z) (Sz X) K m h none qs Q) (ne:0<Q.length) (b0:bg Q 0=0) (mi:jMg (jRf fc fm gc gm) h) :
 Ord (jGA (Q.map flP))∧0≤(ln (Q.map flP) ((Q.map flP).length-1)).1∧(ln (Q.map flP) ((Q.map flP).length-1)).1=fm∧(∀t,0≤t→IsU fc fm gc gm t (val (jGA (Q.map flP)) (ln (Q.map flP) ((Q.map flP).length-1)).1 t))∧LS X b Z (jGA (Q.map flP)) (ln (Q.map flP) ((Q.map flP).length-1)).1:=by
 have iu:∀t,0≤t→IsU fc fm gc gm t (-h t):=fun t t0=>jQn rf rg hm mi t0
 have pu:=r.pu.flip
 have fl:(Q.map flP).length=Q.length:=List.length_map _
 have ne':0<(Q.map flP).length:=by rw[fl];exact ne
 have fa:∀i,i<Q.length→bg (Q.map flP) i=bg Q i∧ln (Q.map flP) i=(-(ln Q i).1,-(ln Q i).2):=fun i hi=>by
  rw[(jBm hi).1,(jBm hi).2]
  exact⟨rfl,rfl⟩
 obtain⟨o,m0,v⟩:=jPo pu ne' (by rw[(fa 0 ne).1];exact b0) (fun x y x0 xy=>jMk rf x0 xy (iu x x0) (iu y (by grind))) ((iu 0 Rat.le_refl).1)
 have iv:∀t,0≤t→IsU fc fm gc gm t (val (jGA (Q.map flP)) (ln (Q.map flP) ((Q.map flP).length-1)).1 t):=fun t t0=>by rw[v t t0];exact iu t t0
 refine⟨o,m0,jNh rf rg hm o iv,iv,Ln.ls (fun i hi=>?_) o (fun i hi=>?_)⟩
 ·rw[jBf] at hi
  have hi':i<Q.length:=by rw[fl] at hi;exact hi
  rw[jJC pu hi,(jA5 hi).1,(jA5 hi).2,(fa i hi').2,(fa i hi').1]
  have g:=(r.gd i hi').1
  refine⟨g.1.ngt,?_⟩
  have e:ev (-(ln Q i).1,-(ln Q i).2) (bg Q i) - -(ln Q i).1*bg Q i=-(ln Q i).2:=by unfold ev;grind
  rw[e]
  exact g.2.ngt
 ·rw[jBf,fl] at hi
  rw[(jA5 (by rw[fl];exact hi)).1,(fa i hi).1]
  exact(r.gd i hi).2
theorem jLs {S0:List Rat}{b Z X K m:Nat}(hs:(0:Rat)∈S0) (hb:1≤b) (hZ:1≤Z) (hX:1≤X) (hK:1≤K) (hm:1≤m):jEr [] S0 (Gz b Z) (Sz X) K m (fun _=>0) none [((0,1),(0,0,1))] [(0,(0,0))]:=by
 have z1:∀i,i < [((0:Rat),((0:Rat),(0:Rat)))].length→i=0:=fun i hi=>by have:i<1:=hi;omega
 have w0:Wq 1 0 1 0:=Wq.of Sz.zero
 refine⟨⟨rfl,fun i p q h1 h2=>?_⟩,⟨fun i hi=>by have:i+1<1:=hi;omega,fun i hi=>trivial,fun i hi t _ _ _=>?_⟩,⟨fun i hi=>by have:i+1<1:=hi;omega,fun i hi=>?_,fun i hi=>by have:i+1<1:=hi;omega⟩,fun i hi=>?_⟩
 ·have hi:=z1 i (by have:=(List.getElem?_eq_some_iff.mp h2).1;exact this)
  subst hi
  cases h1
  cases h2
  exact⟨w0.mono hm,⟨w0.mono hK,w0.mono hK⟩⟩
 ·rw[z1 i hi]
  show(0:Rat)=0*t+0
  grind
 ·rw[z1 i hi];exact hs
 ·rw[z1 i hi]
  exact⟨⟨Sz.zero.mono hb,Sz.zero.mono hZ⟩,Sz.zero.mono hX⟩
end
end CH
namespace CH
open PySem L2 L3
theorem jP0 {B:Nat}{l:List (Int×Int)}{lo hi a b:Int}(r:jJK B l) (h1:0<lo) (h2:0<hi) (l1:lo.natAbs<2^4) (l2:hi.natAbs<2^4) (hb:0<b) (a1:a.natAbs<2^60) (b1:b.natAbs<2^4){n:Nat}(hn:B+B+2≤n) (hn2:B+65≤n) (hB:9≤B){k:Nat}(hk:k<l.length):Sz n (vv (rcs l lo hi) k-slp (rcs l lo hi) (Rat.divInt a b) k*tt (rcs l lo hi) k):=by
 have z1:=r.sz k hk
 have n1:(lo:Rat)≠0:=fun z=>absurd (Rat.intCast_eq_zero_iff.mp z) (Int.ne_of_gt h1)
 have n2:(hi:Rat)≠0:=fun z=>absurd (Rat.intCast_eq_zero_iff.mp z) (Int.ne_of_gt h2)
 have n4:(b:Rat)≠0:=fun z=>absurd (Rat.intCast_eq_zero_iff.mp z) (Int.ne_of_gt hb)
 by_cases c:k+1<l.length
 ·have u:=r.up k c
  have z2:=r.sz (k+1) c
  rw[jCs (by rw[jCb];exact c),(jBP hk).1,(jBP hk).2,(jBP c).1,(jBP c).2]
  have e:Rat.divInt (iv l k) hi-(Rat.divInt (iv l (k+1)) hi-Rat.divInt (iv l k) hi)/(Rat.divInt (ia l (k+1)) lo-Rat.divInt (ia l k) lo)*Rat.divInt (ia l k) lo=Rat.divInt (iv l k*(ia l (k+1)-ia l k)-(iv l (k+1)-iv l k)*ia l k) (hi*(ia l (k+1)-ia l k)):=by
   rw[Rat.divInt_eq_div,Rat.divInt_eq_div,Rat.divInt_eq_div,Rat.divInt_eq_div,Rat.divInt_eq_div,Rat.intCast_sub,Rat.intCast_mul,Rat.intCast_mul,Rat.intCast_mul,Rat.intCast_sub,Rat.intCast_sub]
   have n3:((ia l (k+1):Rat)-(ia l k:Rat))≠0:=fun z=>by
    rw[←Rat.intCast_sub] at z
    have:=Rat.intCast_eq_zero_iff.mp z
    omega
   generalize (ia l (k+1):Rat)=x1 at *
   generalize (ia l k:Rat)=x0 at *
   generalize (iv l (k+1):Rat)=y1 at *
   generalize (iv l k:Rat)=y0 at *
   generalize (lo:Rat)=pp at *
   generalize (hi:Rat)=q at *
   clear z1 z2 u a1 b1 l1 l2 h1 h2 hb
   have e:x1/pp-x0/pp=(x1-x0)/pp:=by grind
   have e2:y1/q-y0/q=(y1-y0)/q:=by grind
   rw[e,e2]
   generalize x1-x0=x at *
   generalize y1-y0=y at *
   grind
  rw[e]
  have dt:=jCF z2.1 z1.1
  have dv:=jCF z2.2 z1.2
  have m1:=jAh z1.2 dt
  have m2:=jAh dv z1.1
  refine jGL (Int.mul_pos h2 (by omega)) (jAw (jCF m1 (jAw m2 (show B+1+B≤B+(B+1) by omega))) (by omega)) (jAw (jAh l2 dt) (by omega))
 ·rw[jBo (by rw[jCb];exact c),(jBP hk).1,(jBP hk).2]
  have e:Rat.divInt (iv l k) hi-Rat.divInt a b*Rat.divInt (ia l k) lo=Rat.divInt (iv l k*(b*lo)-a*ia l k*hi) (hi*(b*lo)):=by
   rw[Rat.divInt_eq_div,Rat.divInt_eq_div,Rat.divInt_eq_div,Rat.divInt_eq_div]
   simp only[Rat.intCast_sub,Rat.intCast_mul]
   generalize (ia l k:Rat)=x0 at *
   generalize (iv l k:Rat)=y0 at *
   generalize (lo:Rat)=pp at *
   generalize (hi:Rat)=q at *
   generalize (a:Rat)=aa at *
   generalize (b:Rat)=bb at *
   clear z1 a1 b1 l1 l2 h1 h2 hb
   grind
  rw[e]
  have m0:=jAh b1 l1
  have m1:=jAh z1.2 m0
  have m2:=jAh (jAh a1 z1.1) l2
  refine jGL (Int.mul_pos h2 (Int.mul_pos hb h1)) (jAw (jCF (jAw m1 (show B+(4+4)≤B+64 by omega)) (jAw m2 (show 60+B+4≤B+64 by omega))) (by omega)) (jAw (jAh l2 m0) (by omega))
def CC (cs:Cs)(m:Rat):Prop:=∃(l:List (Int×Int))(lo hi p q:Int),jJK 65 l∧(0<lo∧lo≤12)∧(0<hi∧hi≤12)∧(0≤p∧p.natAbs<2^60)∧(0<q∧q≤12)∧cs=rcs l lo hi∧m=Rat.divInt p q∧l.length≤13
structure CCf (cs:Cs)(m:Rat):Prop where
 r:jJB cs m
 z:SzC 65 cs
 zm:Sz 60 m
 ls:LS 65 70 132 cs m
 n:cs.length≤13
theorem CC.f {cs:Cs}{m:Rat}(h:CC cs m):CCf cs m:=by
 obtain⟨l,lo,hi,p,q,r,⟨l0,l1⟩,⟨h0,h1⟩,⟨p0,p1⟩,⟨q0,q1⟩,rfl,rfl,ln⟩:=h
 have o:=jOB r l0 h0
 have lb:lo.natAbs<2^4:=by omega
 have hb:hi.natAbs<2^4:=by omega
 have qb:q.natAbs<2^4:=by omega
 have z:=jQe r l0 h0 (jAw lb (by decide)) (jAw hb (by decide))
 refine⟨⟨o,jGq q0 p0⟩,z,jGL q0 p1 (jAw qb (by decide)),Ln.ls (fun i hi'=>?_) o (fun i hi'=>(z i hi').1),by rw[jCb];exact ln⟩
 have hi2:i<l.length:=by rw[jCb] at hi';exact hi'
 exact⟨jMj r l0 h0 lb hb q0 (n:=70) (by decide) (jAw p1 (by decide)) (jAw qb (by decide)) hi2,jP0 r l0 h0 lb hb q0 p1 qb (n:=132) (by decide) (by decide) (by decide) hi2⟩
theorem CC.last {cs ds:Cs}{m k:Rat}(h:CC cs m) (g:CC ds k):CC cs k:=by
 obtain⟨l,lo,hi,p,q,r,a1,a2,a3,a4,e1,e2,ln⟩:=h
 obtain⟨l',lo',hi',p',q',r',b1,b2,b3,b4,f1,f2,ln'⟩:=g
 exact⟨l,lo,hi,p',q',r,a1,a2,b3,b4,e1,f2,ln⟩
theorem IsU.cong {fc gc fc' gc':Cs}{fm gm fm' gm' t v:Rat}(h:IsU fc fm gc gm t v) (t0:0≤t) (e1:∀x,0≤x→val fc fm x=val fc' fm' x) (e2:∀x,0≤x→val gc gm x=val gc' gm' x):IsU fc' fm' gc' gm' t v:=by
 obtain⟨a,b,c⟩:=h
 refine⟨a,?_,fun u u0=>?_⟩
 ·rcases b with b|⟨u,u0,b⟩
  ·exact .inl b
  ·exact .inr ⟨u,u0,by rw[←e1 _ (by grind),←e2 _ u0];exact b⟩
 ·rw[←e1 _ (by grind),←e2 _ u0];exact c u u0
end CH
namespace CL
open PySem L2 L3 CH
theorem jDZ {cs:Cs}{m:Rat}:(jHM cs m).length=cs.length:=by unfold jHM;simp
theorem jPu {cs:Cs}{m:Rat}{n:Nat}{y:D}(h:((jHM cs m).map qd)[n]? = some y):n<cs.length∧y=qd (slp cs m n):=by
 have hn:n<cs.length:=by
  have:=(List.getElem?_eq_some_iff.mp h).1
  rw[List.length_map,jDZ] at this
  exact this
 refine⟨hn,?_⟩
 unfold jHM at h
 rw[List.getElem?_map,List.getElem?_map,List.getElem?_range hn] at h
 exact(Option.some.inj h).symm
theorem jEv {ps:List RP}{i:Int}(j:Nat) (e:i=(j:Int)) (h:j<ps.length):atI (ps.map rpD) i=some (rpD (ps.getD j dfR)):=by
 subst e
 rw[CH.atI_nat (by rw[List.length_map];exact h),List.getElem?_map,List.getElem?_eq_getElem h,List.getD_eq_getElem?_getD,List.getElem?_eq_getElem h]
 rfl
theorem jNo {ps:List RP}(h:0<ps.length):atI (ps.map rpD) (-1)=some (rpD (ps.getD (ps.length-1) dfR)):=by
 refine jHq ?_
 rw[List.getD_eq_getElem?_getD,List.getElem?_eq_getElem (show ps.length-1<ps.length by omega)]
 rfl
theorem jAZ {ps:List RP}{j:Nat}(h:j<ps.length):ps[j]? = some (ps.getD j dfR):=by
 rw[List.getD_eq_getElem?_getD,List.getElem?_eq_getElem h]
 rfl
def jMf (x:D):Rat:=match x with
 |.tup [.tup [.int a,.int b],_]=>Rat.divInt a b
 |_=>0
theorem jFn {m:Nat}{p:RP}{t:Rat}(w:Wq m p.1.1 p.1.2 t):jMf (rpD p)=t:=jJu w
theorem jQ3 (x:Int):qd (x:Rat)=tp x 1:=rfl
theorem jOw (x:Int):Rat.divInt x 1=(x:Rat):=by rw[Rat.divInt_eq_div];show(x:Rat)/1=x;grind
theorem p18:(10:Int)^(18:Int).toNat=1000000000000000000:=by decide
theorem jJT {l:List (Int×Int)}{lo hi a v:Int}:rcs (l++[(a,v)]) lo hi=rcs l lo hi++[(Rat.divInt a lo,Rat.divInt v hi)]:=by unfold rcs;rw[List.map_append];rfl
def pD (p:Int×Int×Rat):D:=tp p.1 p.2.1
theorem _root_.CH.Wq.cross {k n:Nat}{a b c d:Int}{q:Rat}(h:Wq k a b q) (g:Wq n c d q):a*d=c*b:=by
 have e1:=h.eq
 have e2:=g.eq
 rw[←Rat.intCast_inj,Rat.intCast_mul,Rat.intCast_mul,e1,e2]
 grind
theorem jQd {xs:List D}{i:Int}(h0:0≤i) (h1:i<(xs.length:Int)):∃x,atI xs i=some x∧x∈xs:=by
 obtain⟨k,rfl⟩:=Int.eq_ofNat_of_zero_le h0
 have hk:k<xs.length:=by omega
 exact⟨xs[k],by rw[atI_nat hk,List.getElem?_eq_getElem hk],List.getElem_mem hk⟩
theorem _root_.CH.Wq.nn {k:Nat}{a b:Int}{q:Rat}(h:Wq k a b q) (hq:0≤q):0≤a:=by
 have e:=h.eq
 have:(0:Rat)≤(a:Rat):=by rw[e];exact Rat.mul_nonneg hq (Rat.intCast_nonneg.mpr (Int.le_of_lt h.pos))
 exact Rat.intCast_nonneg.mp this
def tq (cs:Cs):List (Int×Int×Rat):=cs.map fun c=>(c.1.num,(c.1.den:Int),c.1)
theorem jNv (C:Rat×Rat→Bool)(f:Rat×Rat→Int×Int×Rat):∀cs:Cs,∃ps:List (Int×Int×Rat),(cs.map fun c=>if C c=true then none else some (pD (f c))).filterMap id=ps.map pD∧ps.length≤cs.length∧∀p∈ps,∃c∈cs,C c=false∧p=f c
 |[]=>⟨[],rfl,Nat.le_refl _,fun p hp=>absurd hp (List.not_mem_nil)⟩
 |c::cs=>by
  obtain⟨ps,e,l,h⟩:=jNv C f cs
  by_cases z:C c=true
  ·refine⟨ps,?_,Nat.le_succ_of_le l,fun p hp=>?_⟩
   ·rw[List.map_cons,if_pos z];exact e
   ·obtain⟨d,hd,r⟩:=h p hp
    exact⟨d,List.mem_cons.mpr (.inr hd),r⟩
  ·refine⟨f c::ps,?_,Nat.succ_le_succ l,fun p hp=>?_⟩
   ·rw[List.map_cons,if_neg z,List.map_cons,←e];rfl
   ·rcases List.mem_cons.mp hp with rfl|hp
    ·exact⟨c,List.mem_cons.mpr (.inl rfl),by simpa using z,rfl⟩
    ·obtain⟨d,hd,r⟩:=h p hp
     exact⟨d,List.mem_cons.mpr (.inr hd),r⟩
def gap (fc:Cs)(fm:Rat)(gc:Cs)(gm t u:Rat):Rat:=val fc fm (t+u)-val gc gm u
inductive jGt (ss:List S)(R:S→Prop)(U_:Str→Prop):Prop
 |mk (a:Int)(_:ss=[.d (.int a)])(_:R (.d (.bl true)))
inductive jG0 (ss:List S)(R:S→Prop)(U_:Str→Prop):Prop
 |mk (a b:Int)(_:ss=[.d (.int a),.d (.int b)])(_:R (.d (.int (g a b))))
inductive jJV (ss:List S)(R:S→Prop)(U_:Str→Prop):Prop
 |mk (a b:Int)(_:ss=[.d (.int a),.d (.int b)])(_:b≠0)(_:a.natAbs<2^13000)(_:b.natAbs<2^13000)(_:R (.d (qd (Rat.divInt a b))))
inductive jLv (ss:List S)(R:S→Prop)(U_:Str→Prop):Prop
 |mk (p q:Rat)(k l:Nat)(_:ss=[.d (qd p),.d (qd q)])(_:Sz k p)(_:Sz l q)(_:k+l+1≤13000)(_:R (.d (qd (p+q))))
inductive jJw (ss:List S)(R:S→Prop)(U_:Str→Prop):Prop
 |mk (p q:Rat)(k l:Nat)(_:ss=[.d (qd p),.d (qd q)])(_:Sz k p)(_:Sz l q)(_:k+l+1≤13000)(_:R (.d (qd (p-q))))
inductive jJk (ss:List S)(R:S→Prop)(U_:Str→Prop):Prop
 |mk (p q:Rat)(k l:Nat)(_:ss=[.d (qd p),.d (qd q)])(_:Sz k p)(_:Sz l q)(_:k+l≤13000)(_:R (.d (qd (p*q))))
inductive jLJ (ss:List S)(R:S→Prop)(U_:Str→Prop):Prop
 |mk (p q:Rat)(k l:Nat)(_:ss=[.d (qd p),.d (qd q)])(_:Sz k p)(_:Sz l q)(_:k+l≤13000)(_:q≠0)(_:R (.d (qd (p/q))))
inductive jJU (ss:List S)(R:S→Prop)(U_:Str→Prop):Prop
 |mk (p q:Rat)(k l:Nat)(_:ss=[.d (qd p),.d (qd q)])(_:Sz k p)(_:Sz l q)(_:k+l≤30000)(_:R (.d (.bl (decide (p<q)))))
inductive jJM (ss:List S)(R:S→Prop)(U:Str→Prop):Prop
 |mk (x:S)(cs:Cs)(m:Rat)(_:ss=[x,.d (qd m)])(_:(False∨x=.d (.lst (cs.map cd))))(_:SzK 2000 cs m)(_:(Ord cs∧0≤m→R (.d (crv (kp cs m (cs.length-1)) m))))(_:(¬(Ord cs∧0≤m)→U "NoCurve"))
inductive jEg (ss:List S)(R:S→Prop)(U:Str→Prop):Prop
 |mk (x:S)(cs:Cs)(_:ss=[x])(_:(False∨x=.d (.lst (cs.map cd))))(_:cs.length≤100000)(_:SzC 2000 cs)(_:(Bgn cs→R (.d .non)))(_:(¬Bgn cs→U "NoCurve"))
inductive jEV (ss:List S)(R:S→Prop)(U:Str→Prop):Prop
 |mk (x:S)(cs:Cs)(_:ss=[x])(_:(False∨x=.d (.lst (cs.map cd))))(_:0<cs.length)(_:cs.length≤100000)(_:SzC 2000 cs)(_:(Ris cs cs.length→R (.d .non)))(_:(¬Ris cs cs.length→U "NoCurve"))
inductive jFU (ss:List S)(R:S→Prop)(U:Str→Prop):Prop
 |mk (cs:Cs)(m t:Rat)(n:Nat)(_:ss=[.d (crv cs m),.d (qd t)])(_:0<cs.length)(_:tt cs 0=0)(_:Up cs)(_:n≤1800)(_:SzK n cs m)(_:Sz n t)(_:(0≤t→R (.d (qd (val cs m t)))))(_:(¬0≤t→U "NoTime"))
inductive jF3 (ss:List S)(R:S→Prop)(U:Str→Prop):Prop
 |mk (cs:Cs)(m t:Rat)(n:Nat)(_:ss=[.d (crv cs m),.d (qd t)])(_:0<cs.length)(_:cs.length≤100000)(_:tt cs 0=0)(_:Up cs)(_:n≤6000)(_:SzC n cs)(_:Sz n t)(_:(0≤t→R (.d (.int (plc cs t cs.length)))))(_:(¬0≤t→U "NoTime"))
inductive jED (ss:List S)(R:S→Prop)(U:Str→Prop):Prop
 |mk (t:Rat)(n:Nat)(_:ss=[.d (qd t)])(_:n≤6000)(_:Sz n t)(_:(0≤t→R (.d .non)))(_:(¬0≤t→U "NoTime"))
inductive jCW (ss:List S)(R:S→Prop)(U_:Str→Prop):Prop
 |mk (cs:Cs)(m:Rat)(k n:Nat)(_:ss=[.d (crv cs m),.d (.int k)])(_:k<cs.length)(_:cs.length≤100000)(_:Up cs)(_:n≤3200)(_:SzC n cs)(_:R (.d (qd (slp cs m k))))
inductive jDo (ss:List S)(R:S→Prop)(U_:Str→Prop):Prop
 |mk (a b c d:Rat)(n:Nat)(_:ss=[.d (.tup [qd a,qd b]),.d (.tup [qd c,qd d])])(_:n≤3200)(_:Sz n a)(_:Sz n b)(_:Sz n c)(_:Sz n d)(_:c-a≠0)(_:R (.d (qd ((d-b)/(c-a)))))
inductive jDq (ss:List S)(R:S→Prop)(U_:Str→Prop):Prop
 |mk (x:S)(cs:Cs)(m:Rat)(_:ss=[x,.d (qd m)])(_:(False∨x=.d (.lst (cs.map cd))))(_:0<cs.length)(_:cs.length≤100000)(_:SzC 3200 cs)(_:Up cs)(_:R (.l ((jHM cs m).map qd)))
inductive jCH (ss:List S)(R:S→Prop)(U_:Str→Prop):Prop
 |mk (cs:Cs)(m:Rat)(a b c:Nat)(_:ss=[.d (crv cs m)])(_:Ord cs)(_:LS a b c cs m)(_:a+b+c+1≤1800)(_:cs.length≤5000)(_:R (.l ((stI cs m).map fun k=>cd (tt cs k,vv cs k))))
inductive jCG (ss:List S)(R:S→Prop)(U_:Str→Prop):Prop
 |mk (cs:Cs)(m:Rat)(a b c:Nat)(_:ss=[.d (crv cs m)])(_:Ord cs)(_:LS a b c cs m)(_:a+b+c+1≤1800)(_:cs.length≤5000)(_:R (.l ((flI cs m).map fun k=>cd (tt cs k,vv cs k))))
inductive jGv (ss:List S)(R:S→Prop)(U_:Str→Prop):Prop
 |mk (cs:Cs)(m:Rat)(ds:Cs)(k:Rat)(_:ss=[.d (crv cs m),.d (crv ds k)])(_:Sz 6000 m)(_:Sz 6000 k)(_:R (.d (.bl (decide (k<m)))))
def jEc:SpL:=fun a dom p ss R _=>∃(x:S)(xs:List D)(n:Nat),ss=[x,.d (.ref a)]∧(x=.d (.tup xs)∨x=.r xs∨x=.d (.lst xs))∧xs.length≤100000∧n≤xs.length∧(∀i x,xs[i]? = some x→dom x∧p x=decide (i<n))∧R (.d (.int n))
inductive jFx (ss:List S)(R:S→Prop)(U_:Str→Prop):Prop
 |mk (cs:Cs)(m:Rat)(a b c:Nat)(_:ss=[.d (crv cs m)])(_:Ord cs)(_:LS a b c cs m)(_:a+b+c+1≤1800)(_:cs.length≤5000)(_:R (.l ((jB5 cs m).map rpD)))
inductive jDP (ss:List S)(R:S→Prop)(U_:Str→Prop):Prop
 |mk (c:Rat×Rat)(m:Rat)(n:Nat)(_:ss=[.d (cd c),.d (qd m)])(_:Sz n c.1)(_:Sz n c.2)(_:Sz n m)(_:n≤4000)(_:R (.d (lnD (jJa m (c.2-m*c.1)))))
inductive jFX (ss:List S)(R:S→Prop)(U:Str→Prop):Prop
 |mk (ps:List RP)(P:Ps)(k m:Nat)(_:ss=[.d (.lst (ps.map rpD))])(_:PL k m ps P)(_:0<ps.length)(_:ps.length≤90000)(_:k+m+1≤13000)(_:(∀i,i<P.length→Sz 2000 (bg P i)∧Sz 2000 (ev (ln P i) (bg P i))))(_:Sz 2000 (ln P (P.length-1)).1)(_:Ord (jGA P))(_:0≤(ln P (P.length-1)).1)(_:R (.d (crv (kp (jGA P) (ln P (P.length-1)).1 (P.length-1)) (ln P (P.length-1)).1)))
inductive jFo (ss:List S)(R:S→Prop)(U_:Str→Prop):Prop
 |mk (p:RP)(q:Rat×Ln2)(k m:Nat)(_:ss=[.d (tp p.1.1 p.1.2),.d (lnD p.2)])(_:PW1 k m p q)(_:k+m+1≤13000)(_:R (.d (cd (q.1,ev q.2 q.1))))
inductive jK4 (ss:List S)(R:S→Prop)(U_:Str→Prop):Prop
 |mk (x:S)(ps:List RP)(P:Ps)(wn wd vn vd:Int)(w v:Rat)(k m n:Nat)(_:ss=[x,.d (.tup [tp wn wd,tp vn vd])])(_:(x=.r (ps.map rpD)∨x=.d (.lst (ps.map rpD))))(_:PL k m ps P)(_:Wq n wn wd w)(_:Wq n vn vd v)(_:k≤30000)(_:m≤30000)(_:n≤30000)(_:ps.length≤100000)(_:R (.l ((ps.map (mvR wn wd vn vd)).map rpD)))
inductive jET (ss:List S)(R:S→Prop)(U_:Str→Prop):Prop
 |mk (a b wn wd:Int)(t w:Rat)(m n:Nat)(_:ss=[.d (tp a b),.d (tp wn wd)])(_:Wq m a b t)(_:Wq n wn wd w)(_:m≤100000)(_:n≤100000)(_:R (.d (tp (a*wd+wn*b) (b*wd))))
inductive jEW (ss:List S)(R:S→Prop)(U_:Str→Prop):Prop
 |mk (l:RL)(q:Ln2)(wn wd vn vd:Int)(w v:Rat)(k m:Nat)(_:ss=[.d (lnD l),.d (.tup [tp wn wd,tp vn vd])])(_:LW k l q)(_:Wq m wn wd w)(_:Wq m vn vd v)(_:k≤100000)(_:m≤100000)(_:R (.d (lnD (l.1*(wd*vd),l.2.1*(wd*vd)-l.1*wn*vd+l.2.2*vn*wd,l.2.2*(wd*vd)))))
inductive jGV (ss:List S)(R:S→Prop)(U_:Str→Prop):Prop
 |mk (x:S)(ps:List RP)(_:ss=[x])(_:(x=.r (ps.map rpD)∨x=.d (.lst (ps.map rpD))))(_:ps.length≤100000)(_:R (.l ((ps.map flR).map rpD)))
inductive jH3 (ss:List S)(R:S→Prop)(U_:Str→Prop):Prop
 |mk (cs:Cs)(m far:Rat)(n:Nat)(_:ss=[.d (.lst ((jB5 cs m).map rpD)),.d (qd far)])(_:0<cs.length)(_:cs.length≤5000)(_:(∀i,i<cs.length→Sz n (tt cs i)))(_:Sz n far)(_:n≤6000)(_:R (.d (.lst ((trR cs m far).map rpD))))
inductive jEi (ss:List S)(R:S→Prop)(U_:Str→Prop):Prop
 |mk (ps:List RP)(P:Ps)(k m c:Nat)(_:ss=[.d (.lst (ps.map rpD))])(_:PL k m ps P)(_:ps.length≤50000)(_:m≤100000)(_:0<c)(_:c≤P.length)(_:(∀i,i<c→bg P i≤0))(_:(∀i,c≤i→i<P.length→0<bg P i))(_:R (.d (.lst ((frR ps c).map rpD))))
inductive jG2 (ss:List S)(R:S→Prop)(U_:Str→Prop):Prop
 |mk (y:S)(ps os:List RP)(P O:Ps)(B S0:List Rat)(G:Ln2→Prop)(V:Rat→Prop)(k m:Nat)(h g:Rat→Rat)(_:ss=[.r (ps.map rpD),y])(_:(False∨y=.d (.lst (os.map rpD))))(_:(jEr B S0 G V k m h none ps P∧0<P.length∧PL k m os O∧PU O g none∧0<O.length∧(∀x,x<O.length→(ln O x).1∈S0)∧(∀x,x<O.length→G (ln O x)∧V (bg O x))∧(∀l l',G l→G l'→l.1≠l'.1→V (xg l l'))∧k+k+1≤m∧m≤12000∧bg P 0≤bg O 0∧(bg P 0<bg O 0→h (bg O 0)≤g (bg O 0))∧ps.length+os.length≤90000∧(B.length+O.length+1)*S0.length≤90000))(_:∀(qs:List RP)(Q:Ps),jEr (B++jO3 O) S0 G V k m (jOK (bg O 0) h g) none qs Q→0<Q.length→bg Q 0=bg P 0→R (.l (qs.map rpD)))
inductive jDw (ss:List S)(R:S→Prop)(U_:Str→Prop):Prop
 |mk (y:S)(ps os:List RP)(P O:Ps)(k m c:Nat)(_:ss=[.r (ps.map rpD),y])(_:(False∨y=.d (.lst (os.map rpD))))(_:PL k m ps P)(_:PL k m os O)(_:0<O.length)(_:(∀i,i+1<P.length→bg P i<bg P (i+1)))(_:(∀i,i+1<O.length→bg O i<bg O (i+1)))(_:m≤100000)(_:ps.length+os.length≤90000)(_:0<c)(_:c≤P.length)(_:(∀i,i<c→bg P i≤bg O 0))(_:(∀i,c≤i→i<P.length→bg O 0<bg P i))(_:∀rw:List R4,jLN P O m rw→¬iF' rw (rw.length-1)+1<P.length→¬jF rw (rw.length-1)+1<O.length→R (.l (rw.map (jM5 ps os))))
inductive jDY (ss:List S)(R:S→Prop)(U_:Str→Prop):Prop
 |mk (xs:List RP)(p q:RP)(s t:Rat)(m:Nat)(_:ss=[.d (.lst (xs.map rpD))])(_:0<xs.length)(_:xs.getD 0 dfR=p)(_:xs.getD (xs.length-1) dfR=q)(_:Wq m p.1.1 p.1.2 s)(_:Wq m q.1.1 q.1.2 t)(_:m≤100000)(_:R (.d (if t<s then tp q.1.1 q.1.2 else tp p.1.1 p.1.2)))
inductive jLW (ss:List S)(R:S→Prop)(U_:Str→Prop):Prop
 |mk (l1 l2:RL)(tn td:Int)(q1 q2:Ln2)(t:Rat)(k m:Nat)(_:ss=[.d (lnD l1),.d (lnD l2),.d (tp tn td)])(_:LW k l1 q1)(_:LW k l2 q2)(_:Wq m tn td t)(_:k≤100000)(_:m≤100000)(_:R (.d (.int (sg (ev q1 t-ev q2 t)))))
inductive jKP (ss:List S)(R:S→Prop)(U_:Str→Prop):Prop
 |mk (l1 l2:RL)(q1 q2:Ln2)(k:Nat)(_:ss=[.d (lnD l1),.d (lnD l2)])(_:LW k l1 q1)(_:LW k l2 q2)(_:k≤100000)(_:R (.d (.int (sg (q1.1-q2.1)))))
inductive jLi (ss:List S)(R:S→Prop)(U_:Str→Prop):Prop
 |mk (a:Int)(_:ss=[.d (.int a)])(_:R (.d (.int a.sign)))
def jFt:SpM:=fun xs ds R=>∃(ps:List RP)(tm:Int×Int)(l1 l2:RL)(now thn:Int)(q1 q2:Ln2)(k:Nat),xs=ps.map rpD∧ds=[.tup [.tup [.int tm.1,.int tm.2],lnD l1,lnD l2],.int now,.int thn]∧LW k l1 q1∧LW k l2 q2∧k≤6000∧(now<0∧0<thn∨0<now∧thn<0→q1.1≠q2.1)∧ps.length<999980∧∀ps',jNb ps tm l1 l2 now thn (xg q1 q2) ps'→R (ps'.map rpD)
def jCJ:SpM:=fun xs ds R=>∃(ps:List RP)(p:RP),xs=ps.map rpD∧ds=[.tup [.int p.1.1,.int p.1.2],lnD p.2]∧ps.length<999990∧∀ps',jIv ps p ps'→R (ps'.map rpD)
inductive jGi (ss:List S)(R:S→Prop)(U_:Str→Prop):Prop
 |mk (l1 l2:RL)(q1 q2:Ln2)(k:Nat)(_:ss=[.d (lnD l1),.d (lnD l2)])(_:LW k l1 q1)(_:LW k l2 q2)(_:k≤6000)(_:q1.1≠q2.1)(_:R (.d (qd (xg q1 q2))))
inductive jIh (ss:List S)(R:S→Prop)(U_:Str→Prop):Prop
 |mk (fc:Cs)(fm:Rat)(gc:Cs)(gm:Rat)(a b c:Nat)(_:ss=[.d (crv fc fm),.d (crv gc gm)])(_:(jJB fc fm∧jJB gc gm∧LS a b c fc fm∧LS a b c gc gm∧1≤b∧6*a+9*b+6*c+24≤2000∧(2*(fc.length*gc.length)+2*fc.length+gc.length+3)*(fc.length+gc.length+1)≤40000))(_:(gm<fm→R (.d .non)))(_:(fm≤gm→∀C:Cs,Crv C fm→(∀t,0≤t→IsU fc fm gc gm t (val C fm t))→LS (4*(a+b+c)+2*b+16) b (2*(a+b+c)+5) C fm→C.length≤(2*(fc.length*gc.length)+2*fc.length+gc.length+3)*(fc.length+gc.length+1)→R (.d (crv C fm))))
inductive jLa (ss:List S)(R:S→Prop)(U:Str→Prop):Prop
 |mk (fc:Cs)(fm:Rat)(gc:Cs)(gm t:Rat)(a b c n:Nat)(_:ss=[.d (crv fc fm),.d (crv gc gm),.d (qd t)])(_:(Ord fc∧Ord gc∧LS a b c fc fm∧LS a b c gc gm∧a+b+c+1≤900∧fc.length≤5000∧gc.length≤5000))(_:Sz n t)(_:a+n+1≤800)(_:(0≤t→gm<fm→R (.d .non)))(_:(0≤t→fm≤gm→∀u:Rat,0≤u→Sz (a+n+1) u→(∀v,0≤v→gap fc fm gc gm t v≤gap fc fm gc gm t u)→R (.d (qd u))))(_:(¬0≤t→U "NoTime"))
inductive jCg (ss:List S)(R:S→Prop)(U_:Str→Prop):Prop
 |mk (cs:Cs)(m:Rat)(a b c:Nat)(_:ss=[.d (crv cs m)])(_:Ord cs)(_:LS a b c cs m)(_:a+b+c+1≤1800)(_:cs.length≤5000)(_:R (.d (.lst ((0::stI cs m).map fun k=>cd (tt cs k,vv cs k)))))
inductive jC3 (ss:List S)(R:S→Prop)(U_:Str→Prop):Prop
 |mk (fc:Cs)(fm:Rat)(gc:Cs)(gm t:Rat)(a b c n:Nat)(_:ss=[.d (crv fc fm),.d (crv gc gm),.d (qd t)])(_:(Ord fc∧Ord gc∧LS a b c fc fm∧LS a b c gc gm∧a+b+c+1≤900∧fc.length≤5000∧gc.length≤5000))(_:Sz n t)(_:n≤800)(_:∀us:List Rat,us.length≤11000→(∀u∈us,0≤u∧Sz (a+n+1) u)→(∀k∈stI gc gm,tt gc k∈us)→(∀k∈flI fc fm,t<tt fc k→tt fc k-t∈us)→R (.l (us.map qd)))
inductive jGp (ss:List S)(R:S→Prop)(U_:Str→Prop):Prop
 |mk (fc:Cs)(fm:Rat)(gc:Cs)(gm t u:Rat)(a b c n:Nat)(_:ss=[.d (crv fc fm),.d (crv gc gm),.d (qd t),.d (qd u)])(_:(Ord fc∧Ord gc∧LS a b c fc fm∧LS a b c gc gm∧a+b+c+1≤900∧fc.length≤5000∧gc.length≤5000))(_:0≤t)(_:0≤u)(_:Sz n t)(_:Sz n u)(_:n≤800)(_:R (.d (qd (gap fc fm gc gm t u))))
inductive jDK (ss:List S)(R:S→Prop)(U_:Str→Prop):Prop
 |mk (ns:List Int)(k:Int)(_:ss=[.r (ns.map D.int),.d (.int k)])(_:0≤k)(_:R (.d (.int (cell ns k))))
inductive jEj (ss:List S)(R:S→Prop)(U_:Str→Prop):Prop
 |mk (a b:Int)(_:ss=[.d (.int a),.d (.int b)])(_:0<b)(_:a.natAbs<2^13000)(_:b.natAbs<2^13000)(_:R (.d (qd (Rat.divInt a b))))
inductive jFz (ss:List S)(R:S→Prop)(U_:Str→Prop):Prop
 |mk (a b c d:Int)(_:ss=[.d (tp a b),.d (tp c d)])(_:L4 400000 a b c d)(_:R (.d (.bl (decide (a*d<c*b)))))
inductive jEM (ss:List S)(R:S→Prop)(U_:Str→Prop):Prop
 |mk (a b c d:Int)(_:ss=[.d (tp a b),.d (tp c d)])(_:L4 400000 a b c d)(_:R (.d (tp (a*d-c*b) (b*d))))
inductive jFu (ss:List S)(R:S→Prop)(U_:Str→Prop):Prop
 |mk (a b c d:Int)(_:ss=[.d (tp a b),.d (tp c d)])(_:L4 400000 a b c d)(_:R (.d (tp (a*d+c*b) (b*d))))
inductive jDs (ss:List S)(R:S→Prop)(U_:Str→Prop):Prop
 |mk (c lo:Int)(_:ss=[.d (.int c),.d (.int lo)])(_:0<lo)(_:lo≤12)(_:∀p q:Int,0≤p→p<1000000000000000000→0<q→q≤12→R (.d (qd (Rat.divInt p q))))
inductive jDt (ss:List S)(R:S→Prop)(U_:Str→Prop):Prop
 |mk (ms:List Int)(n:Int)(_:ss=[.d (.lst (ms.map D.int)),.d (.int n)])(_:0≤n)(_:n≤12)(_:3+2*n≤ms.length)(_:∀(cs:Cs)(m:Rat),CC cs m→R (.d (.tup [.lst (cs.map cd),qd m])))
inductive jEI (ss:List S)(R:S→Prop)(U_:Str→Prop):Prop
 |mk (ns:List Int)(b n:Int)(_:ss=[.r (ns.map D.int),.d (.int b),.d (.int n)])(_:0≤b)(_:b≤100)(_:0≤n)(_:n≤12)(_:∀ms:List Int,(ms.length:Int)=3+2*n→R (.l (ms.map D.int)))
inductive jEZ (ss:List S)(R:S→Prop)(U_:Str→Prop):Prop
 |mk (s n:Int)(_:ss=[.d (.int s),.d (.int n)])(_:0≤n)(_:n≤12)(_:∀ms:List Int,(ms.length:Int)=3+2*n→R (.l (ms.map D.int)))
inductive jCe (ss:List S)(R:S→Prop)(U_:Str→Prop):Prop
 |mk (c r:Int)(_:ss=[.d (.int c),.d (.int r)])(_:0<r)(_:r≤13)(_:∀(cs:Cs)(m:Rat),CC cs m→R (.d (.tup [.lst (cs.map cd),qd m])))
inductive jGu (ss:List S)(R:S→Prop)(U_:Str→Prop):Prop
 |mk (ns:List Int)(_:ss=[.r (ns.map D.int)])(_:∀(cs:Cs)(m:Rat)(ds:Cs)(k:Rat),CC cs m→CC ds k→R (.l [.tup [.lst (cs.map cd),qd m],.tup [.lst (ds.map cd),qd k]]))
inductive jER (ss:List S)(R:S→Prop)(U_:Str→Prop):Prop
 |mk (x:S)(cs:Cs)(m t:Rat)(mn md tn td:Int)(n:Nat)(_:ss=[x,.d (tp mn md),.d (tp tn td)])(_:(x=.d (.tup (cs.map cd))∨x=.d (.lst (cs.map cd))∨False))(_:0<cs.length)(_:cs.length≤100000)(_:n≤14000)(_:SzC n cs)(_:Wq n mn md m)(_:Wq n tn td t)(_:Up cs)(_:∀A B:Int,Wq (7*n+4) A B (val cs m t)→R (.d (tp A B)))
inductive jDu (ss:List S)(R:S→Prop)(U_:Str→Prop):Prop
 |mk (q:Rat)(_:ss=[.d (qd q)])(_:Sz 13000 q)(_:R (.d (.bl true)))
inductive jFp (ss:List S)(R:S→Prop)(U_:Str→Prop):Prop
 |mk (ns:List Int)(k:Int)(_:ss=[.r (ns.map D.int),.d (.int k)])(_:0≤k)(_:∀v:Int,R (.d (.int v)))
inductive jEh (ss:List S)(R:S→Prop)(U_:Str→Prop):Prop
 |mk (c o:Int)(x:S)(ps:List (Int×Int×Rat))(n:Nat)(_:ss=[.d (.int c),.d (.int o),x])(_:(x=.r (ps.map pD)∨False))(_:0<ps.length)(_:ps.length≤100000)(_:110≤n)(_:n≤6000)(_:(∀p∈ps,Wq n p.1 p.2.1 p.2.2∧0≤p.2.2))(_:∀p:Int×Int×Rat,Wq (n+40) p.1 p.2.1 p.2.2→0≤p.2.2→((∀p∈ps,pD p=qd p.2.2)→pD p=qd p.2.2)→R (.d (pD p)))
inductive jDW (ss:List S)(R:S→Prop)(U_:Str→Prop):Prop
 |mk (fc:Cs)(fm:Rat)(gc:Cs)(gm t:Rat)(a b c n:Nat)(_:ss=[.d (crv fc fm),.d (crv gc gm),.d (qd t)])(_:(Ord fc∧Ord gc∧LS a b c fc fm∧LS a b c gc gm∧a+b+c+1≤900∧fc.length≤5000∧gc.length≤5000))(_:Sz n t)(_:a+n+1≤800)(_:t<0)(_:R (.d (.bl true)))
inductive jGa (ss:List S)(R:S→Prop)(U_:Str→Prop):Prop
 |mk (cs:Cs)(m:Rat)(ds:Cs)(k:Rat)(tn td un ud:Int)(t u:Rat)(_:ss=[.d (.tup [.lst (cs.map cd),qd m]),.d (.tup [.lst (ds.map cd),qd k]),.d (tp tn td),.d (tp un ud)])(_:CC cs m)(_:CC ds k)(_:Wq 1400 tn td t)(_:Wq 1400 un ud u)(_:∀(A B:Int),Wq 40001 A B (gap cs m ds k t u)→R (.d (tp A B)))
abbrev jP6:Sp3:=jJf
inductive jGb (ss:List S)(R:S→Prop)(U_:Str→Prop):Prop
 |mk (a b c d:Int)(p q:Rat)(k l:Nat)(_:ss=[.d (tp a b),.d (tp c d)])(_:Wq k a b p)(_:Wq l c d q)(_:k≤200000)(_:l≤200000)(_:R (.d (.bl (decide (p<q)))))
inductive jCr (ss:List S)(R:S→Prop)(U_:Str→Prop):Prop
 |mk (cs:Cs)(m:Rat)(_:ss=[.d (.tup (cs.map cd)),.d (qd m)])(_:0<cs.length)(_:cs.length≤100000)(_:SzC 3200 cs)(_:Up cs)(_:R (.l ((jHM cs m).map qd)))
section
variable {P:Program}{w:World}{K:PySem.W.Frag}{mg:Str→Option Value}{base:Heap}{f:Addr}{fd:FuncData}
variable {K_CurveError K_NoRatio K_NoCurve K_NoTime K_NoHouse K_NoWay K_NoText K_NoName K_NoEnd K_NoRow:Addr}
theorem jIC:jAe ["thing"] ["thing"] (jAc jFb):=scN
variable (jAm:mg "isinstance"=none)
variable (jIP:mg "int"=none)
variable (jF5:mg "bool"=none)
include jAm jIP jF5 in
theorem jIL (F:Fun K "is_whole" "is_whole" jFb f fd):jAz P w K mg base CX0 1 f fd ["thing"] (jAj K mg jGt):=by
 refine fn3 F jIC (fun ss R U h=>?_) (fun cdv A outer s H E ss R U hr h=>?_)
 ·obtain⟨a,rfl,_⟩:=h;rfl
 obtain⟨a,rfl,q⟩:=h
 refine⟨_,(jBc (jOn (jKT .int (vN 0) rfl jAm rfl jIP PyProof.Rows.boot_int) (jOv (jMW (jKT .bool (vN 0) rfl jAm rfl jF5 PyProof.Rows.boot_bool))))),?_⟩
 refine⟨trivial,⟨trivial,?_⟩⟩
 exact q
variable (jC9:Cal P w K mg base (CXU P w) 1 "is_whole" ["thing"] jGt)
theorem jCm:jAe ["one","other","great","small","rest"] ["one","other"] (jAc jFY):=scN
variable (jIn:mg "abs"=none)
include jIn in
theorem jJY (F:Fun K "divisor" "divisor" jFY f fd):jAz P w K mg base CX0 1 f fd ["one","other"] (jAj K mg jG0):=by
 refine fn3 F jCm (fun ss R U h=>?_) (fun cdv A outer s H E ss R U hr h=>?_)
 ·obtain⟨a,b,rfl,_⟩:=h;rfl
 obtain⟨a,b,rfl,q⟩:=h
 refine⟨_,(jAb (jAH 2 jCm (jE7 jOO rfl jIn PyProof.Rows.boot_abs (a1 (vN 0))))
  (jAb (jAH 3 jCm (jE7 jOO rfl jIn PyProof.Rows.boot_abs (a1 (vN 1))))
  (jAb (jHB PassesOwn.never (jCf jQC (vN 3) jAa) (jAb (jAH 4 jCm (jAi jAV (vN 2) (vN 3)))
  (jAb (jAH 2 jCm (vN 3))
  (jAl (jAH 3 jCm (vN 4))))))
  (jAl (jDQ (pv 2)))))),?_⟩
 refine⟨fun m τ=>∃x y z,τ=[I a,I b,I x,I y,z]∧0≤x∧0≤y∧g x y=g a b∧m=y.toNat,⟨_,_,_,_,rfl,?_,?_,jPO a b,rfl⟩,?_⟩
 ·exact jLK a
 ·exact jLK b
 rintro m τ ⟨x,y,z,rfl,h1,h2,h3,rfl⟩
 refine jJi (fun c=>?_) (fun c=>?_)
 ·refine⟨c,(x.fmod y).toNat,?_,_,_,_,rfl,h2,?_,?_,rfl⟩
  ·have:=Int.fmod_lt_of_pos x (show 0<y by omega)
   omega
  ·exact Int.fmod_nonneg_of_pos x (by omega)
  ·rw[←h3,Int.fmod_eq_emod_of_nonneg x h2]
   exact jNR (by omega)
 ·subst c
  rw[jQq h1] at h3
  subst h3
  exact q
variable (jEL:Cal P w K mg base (CXU P w) 1 "divisor" ["one","other"] jG0)
theorem jHa:jAe ["top","bottom","common"] ["top","bottom"] (jAc jIZ):=scN
include jC9 jEL in
theorem jMR (F:Fun K "ratio" "ratio" jIZ f fd):jAz P w K mg base CX0 2 f fd ["top","bottom"] (jAj K mg jJV):=by
 refine fn3 F jHa (fun ss R U h=>?_) (fun cdv A outer s H E ss R U hr h=>?_)
 ·obtain⟨a,b,rfl,_⟩:=h;rfl
 obtain⟨a,b,rfl,hb,h1,h2,q⟩:=h
 refine⟨_,(jKi (jBN (PW3.pt (jIS (w_not (jBk (jAA hr jC9 (a1 (vN 0))))) (jHz (w_not (jBk (jAA hr jC9 (a1 (vN 1)))))))) (jAl jKO) jAr)
  (jAb (jBN (jCf jHn (vN 1) jAa) (jAl jKO) jAr)
  (jAb (jAH 2 jHa (jAA hr jEL (a2 (vN 0) (vN 1))))
  (jCx (jBN (jCf jHL (vN 1) jAa) (jAl (jAH 2 jHa (jEG (vN 2)))) jAr)
  (jBc (jA8 (a2 (jAi jAY (vN 0) (vN 2)) (jAi jAY (vN 1) (vN 2))))))))),?_⟩
 have hp:=jF9 (a:=a) hb
 have hc:=jKo (a:=a) hb
 refine⟨⟨a,rfl,⟨b,rfl,rfl⟩⟩,?_⟩
 refine jBA (fun e=>absurd e hb) (fun _=>?_)
 refine⟨a,b,rfl,?_⟩
 refine⟨fun τ=>τ=[I a,I b,I (cm a b)],?_,?_⟩
 ·refine jBA (fun e=>?_) (fun e=>?_)
  ·have e':cm a b=-(g a b):=if_pos e
   rw[e']
   rfl
  ·have e':cm a b=g a b:=if_neg e
   rw[e']
   rfl
 rintro τ rfl
 refine⟨⟨hc,jRh h1⟩,⟨hc,jRh h2⟩,(by show 2≤1000;decide),?_⟩
 show R (.d (.tup [.int (a.fdiv (cm a b)),.int (b.fdiv (cm a b))]))
 rw[hp.1,hp.2]
 exact q
variable (jAW:Cal P w K mg base (CXU P w) 2 "ratio" ["top","bottom"] jJV)
theorem jPB:jAe ["one","other"] ["one","other"] (jAc jKw):=scN
include jAW in
theorem jOh (F:Fun K "plus" "plus" jKw f fd):jAz P w K mg base CX0 3 f fd ["one","other"] (jAj K mg jLv):=by
 refine fn3 F jPB (fun ss R U h=>?_) (fun cdv A outer s H E ss R U hr h=>?_)
 ·obtain⟨p,q,k,l,rfl,_⟩:=h;rfl
 obtain⟨q1,q2,k,l,rfl,h1,h2,hk,q⟩:=h
 refine⟨_,(jBc (jAA hr jAW (a2 (jAi jAR (jAi jAv (jAd (vN 0) jAa) (jAd (vN 1) jAa)) (jAi jAv (jAd (vN 1) jAa) (jAd (vN 0) jAa))) (jAi jAv (jAd (vN 0) jAa) (jAd (vN 1) jAa))))),?_⟩
 have m1:=jAh h1.1 (jAB h2)
 have m2:=jAh h2.1 (jAB h1)
 have m3:=jAh (jAB h1) (jAB h2)
 rw[Nat.add_comm l k] at m2
 refine⟨jAt h1.1 (jAB h2) (by omega),jAt h2.1 (jAB h1) (by omega),jAt (jAB h1) (jAB h2) (by omega),_,_,rfl,jJ3 q1 q2,jAw (jEX m1 m2) (by omega),jAw m3 (by omega),?_⟩
 rw[jLY q1 q2]
 exact q
variable (jEk:Cal P w K mg base (CXU P w) 3 "plus" ["one","other"] jLv)
theorem jNj:jAe ["one","other"] ["one","other"] (jAc jIF):=scN
include jAW in
theorem jNf (F:Fun K "minus" "minus" jIF f fd):jAz P w K mg base CX0 3 f fd ["one","other"] (jAj K mg jJw):=by
 refine fn3 F jNj (fun ss R U h=>?_) (fun cdv A outer s H E ss R U hr h=>?_)
 ·obtain⟨p,q,k,l,rfl,_⟩:=h;rfl
 obtain⟨q1,q2,k,l,rfl,h1,h2,hk,q⟩:=h
 refine⟨_,(jBc (jAA hr jAW (a2 (jAi jC0 (jAi jAv (jAd (vN 0) jAa) (jAd (vN 1) jAa)) (jAi jAv (jAd (vN 1) jAa) (jAd (vN 0) jAa))) (jAi jAv (jAd (vN 0) jAa) (jAd (vN 1) jAa))))),?_⟩
 have m1:=jAh h1.1 (jAB h2)
 have m2:=jAh h2.1 (jAB h1)
 have m3:=jAh (jAB h1) (jAB h2)
 rw[Nat.add_comm l k] at m2
 refine⟨jAt h1.1 (jAB h2) (by omega),jAt h2.1 (jAB h1) (by omega),jAt (jAB h1) (jAB h2) (by omega),_,_,rfl,jJ3 q1 q2,jAw (jCF m1 m2) (by omega),jAw m3 (by omega),?_⟩
 rw[jJm q1 q2]
 exact q
variable (jAQ:Cal P w K mg base (CXU P w) 3 "minus" ["one","other"] jJw)
theorem jNc:jAe ["one","other"] ["one","other"] (jAc jIx):=scN
include jAW in
theorem jMY (F:Fun K "times" "times" jIx f fd):jAz P w K mg base CX0 3 f fd ["one","other"] (jAj K mg jJk):=by
 refine fn3 F jNc (fun ss R U h=>?_) (fun cdv A outer s H E ss R U hr h=>?_)
 ·obtain⟨p,q,k,l,rfl,_⟩:=h;rfl
 obtain⟨q1,q2,k,l,rfl,h1,h2,hk,q⟩:=h
 refine⟨_,(jBc (jAA hr jAW (a2 (jAi jAv (jAd (vN 0) jAa) (jAd (vN 1) jAa)) (jAi jAv (jAd (vN 0) jAa) (jAd (vN 1) jAa))))),?_⟩
 refine⟨jAt h1.1 h2.1 (by omega),jAt (jAB h1) (jAB h2) (by omega),_,_,rfl,jJ3 q1 q2,jAw (jAh h1.1 h2.1) (by omega),jAw (jAh (jAB h1) (jAB h2)) (by omega),?_⟩
 rw[jJL q1 q2]
 exact q
variable (jEz:Cal P w K mg base (CXU P w) 3 "times" ["one","other"] jJk)
theorem jOo:jAe ["one","other"] ["one","other"] (jAc jLo):=scN
include jAW in
theorem jOq (F:Fun K "over" "over" jLo f fd):jAz P w K mg base CX0 3 f fd ["one","other"] (jAj K mg jLJ):=by
 refine fn3 F jOo (fun ss R U h=>?_) (fun cdv A outer s H E ss R U hr h=>?_)
 ·obtain⟨p,q,k,l,rfl,_⟩:=h;rfl
 obtain⟨q1,q2,k,l,rfl,h1,h2,hk,h0,q⟩:=h
 refine⟨_,(jBc (jAA hr jAW (a2 (jAi jAv (jAd (vN 0) jAa) (jAd (vN 1) jAa)) (jAi jAv (jAd (vN 0) jAa) (jAd (vN 1) jAa))))),?_⟩
 refine⟨jAt h1.1 (jAB h2) (by omega),jAt (jAB h1) h2.1 (by omega),_,_,rfl,Sz.den_ne (k:=0) h0,jAw (jAh h1.1 (jAB h2)) (by omega),jAw (jAh (jAB h1) h2.1) (by omega),?_⟩
 rw[jLq q1 q2 h0]
 exact q
variable (jJA:Cal P w K mg base (CXU P w) 3 "over" ["one","other"] jLJ)
theorem jJp:jAe ["one","other"] ["one","other"] (jAc jHg):=scN
theorem jMo (F:Fun K "under" "under" jHg f fd):jAz P w K mg base CX0 1 f fd ["one","other"] (jAj K mg jJU):=by
 refine fn3 F jJp (fun ss R U h=>?_) (fun cdv A outer s H E ss R U hr h=>?_)
 ·obtain⟨p,q,k,l,rfl,_⟩:=h;rfl
 obtain⟨q1,q2,k,l,rfl,h1,h2,hk,q⟩:=h
 refine⟨_,(jBc (jLj jHL (jAi jAv (jAd (vN 0) jAa) (jAd (vN 1) jAa)) (jAi jAv (jAd (vN 1) jAa) (jAd (vN 0) jAa)) (jG3 _))),?_⟩
 refine⟨jAt h1.1 (jAB h2) (by omega),jAt h2.1 (jAB h1) (by omega),?_⟩
 have e:decide (q1.num*(q2.den:Int)<q2.num*(q1.den:Int))=decide (q1<q2):=decide_eq_decide.mpr (lt_iff q1 q2)
 show R (.d (.bl (decide (q1.num*(q2.den:Int)<q2.num*(q1.den:Int)))))
 rw[e]
 exact q
variable (jAC:Cal P w K mg base (CXU P w) 1 "under" ["one","other"] jJU)
theorem jIY (F:Fun K "under" "under" jHg f fd):jAz P w K mg base CX0 1 f fd ["one","other"] (jAj K mg jGb):=by
 refine fn3 F jJp (fun ss R U h=>?_) (fun cdv A outer s H E ss R U hr h=>?_)
 ·obtain⟨a,b,c,d,p,q,k,l,rfl,_⟩:=h;rfl
 obtain⟨a,b,c,d,p,q0,k,l,rfl,h1,h2,hk,hl,q⟩:=h
 refine⟨_,(jBc (jLj jHL (jAi jAv (jAd (vN 0) jAa) (jAd (vN 1) jAa)) (jAi jAv (jAd (vN 1) jAa) (jAd (vN 0) jAa)) (jG3 _))),?_⟩
 refine⟨jAt h1.la h2.lb (by omega),jAt h2.la h1.lb (by omega),?_⟩
 show R (.d (.bl (decide (a*d<c*b))))
 rw[jRR h1 h2]
 exact q
variable (jAK:Cal P w K mg base (CXU P w) 1 "under" ["one","other"] jGb)
theorem jGI:jAe ["corners"] ["corners"] (jAc jDc):=scN
variable (jAM:mg "len"=none)
variable (gc_NOUGHT:GC K mg "NOUGHT" (.tup [(.int 0),(.int 1)]))
variable (ec_NoCurve:ExC K "NoCurve" K_NoCurve)
variable (m_NoCurve:mg "NoCurve"=some (.ref K_NoCurve))
include jAC jAM gc_NOUGHT ec_NoCurve m_NoCurve in
theorem jGB (F:Fun K "check_begin" "check_begin" jDc f fd):jAz P w K mg base (CXU P w) 2 f fd ["corners"] (jAj K mg jEg):=by
 refine fnU F jGI (fun ss R U h=>?_) (fun cdv A outer s H E ss R U hr h xo=>?_)
 ·obtain⟨x,cs,rfl,_⟩:=h;rfl
 obtain⟨x,cs,rfl,hx,hl,hz,q,qu⟩:=h
 refine⟨_,(jAb (jBN (jCf jHn (jCR jAM (vN 0)) jAa) (jAl (jEu xo rfl jIw rfl ec_NoCurve m_NoCurve)) jAr)
  (jAb (jBN (jCf (jOY 1 (hu_ hr (by decide))) (jAd (jAd (vN 0) jAa) jAa) (jKd rfl gc_NOUGHT)) (jAl (jEu xo rfl jIw rfl ec_NoCurve m_NoCurve)) jAr)
  (jAl (jBN (jBk (jGZ xo hr jAC (a2 (jAd (jAd (vN 0) jAa) jAa) (jKd rfl gc_NOUGHT)))) (jAl (jEu xo rfl jIw rfl ec_NoCurve m_NoCurve)) jAr)))),?_⟩
 rcases hx with hx|rfl
 ·exact hx.elim
 ·refine jBA (fun c=>?_) (fun c=>?_)
  ·exact qu (fun z=>by have:=z.1;rw[List.length_map] at c;omega)
  have c0:0<cs.length:=by rw[List.length_map] at c;omega
  have a0:=jBI (cs:=cs) (i:=0) 0 rfl c0
  have z0:=hz 0 c0
  refine atR a0 ?_
  refine⟨rfl,rfl,neT (tt cs 0) 0 (fun c=>qu (fun z=>c z.2.1)) (fun e0=>?_)⟩
  refine atR a0 ?_
  refine⟨_,0,_,_,rfl,z0.2,Sz.zero,by decide,?_⟩
  refine jBA (fun c=>qu (fun z=>absurd c (Rat.not_lt.mpr z.2.2))) (fun c=>?_)
  exact q ⟨c0,e0,Rat.not_lt.mp c⟩
variable (jCh:Cal P w K mg base (CXU P w) 2 "check_begin" ["corners"] jEg)
theorem jCk:jAe ["corners","number","ahead","corner"] ["corners"] (jAc jDD):=scN
variable (jAu:mg "range"=none)
include jAC jAM ec_NoCurve m_NoCurve jAu in
theorem jG9 (F:Fun K "check_rise" "check_rise" jDD f fd):jAz P w K mg base (CXU P w) 2 f fd ["corners"] (jAj K mg jEV):=by
 refine fnU F jCk (fun ss R U h=>?_) (fun cdv A outer s H E ss R U hr h xo=>?_)
 ·obtain⟨x,cs,rfl,_⟩:=h;rfl
 obtain⟨x,cs,rfl,hx,c0,hl,hz,q,qu⟩:=h
 refine⟨_,(jAl (jN2 (jC2 PassesOwn.leaving rfl (jC4 rfl jAu (PA3.out (a2 jAa (jCR jAM (vN 0))))) (jBn (i:=1) jCk.nd rfl (Or.inl rfl)) (jDx.out (jAb (jAH 2 jCk (jAd (vN 0) (jAi jC0 (vN 1) jAa)))
  (jAb (jAH 3 jCk (jAd (vN 0) (vN 1)))
  (jAb (jBN (w_not (jBk (jGZ xo hr jAC (a2 (jAd (vN 2) jAa) (jAd (vN 3) jAa))))) (jAl (jEu xo rfl jIw rfl ec_NoCurve m_NoCurve)) jAr)
  (jAl (jBN (jBk (jGZ xo hr jAC (a2 (jAd (vN 3) jAa) (jAd (vN 2) jAa)))) (jAl (jEu xo rfl jIw rfl ec_NoCurve m_NoCurve)) jAr))))))))),?_⟩
 rcases hx with hx|rfl
 ·exact hx.elim
 ·refine⟨⟨by decide,by decide,by rw[List.length_map];omega,by rw[List.length_map];omega⟩,?_⟩
  refine⟨fun n τ=>∃y0 y1 y2,τ=[some (.d (.lst (cs.map cd))),y0,y1,y2]∧Ris cs n,⟨_,_,_,rfl,fun k hk=>absurd hk (Nat.not_lt_zero k)⟩,?_,?_⟩
  ·rintro n τ hn ⟨y0,y1,y2,rfl,hr⟩
   rw[List.length_map] at hn
   have n1:n+1<cs.length:=by omega
   have z0:=hz n (by omega)
   have z1:=hz (n+1) n1
   refine atR (jBI (cs:=cs) n (by omega) (by omega)) ?_
   refine atR (jBI (cs:=cs) (n+1) (by omega) n1) ?_
   refine⟨_,_,_,_,rfl,z0.1,z1.1,by decide,?_⟩
   refine jJi (fun c=>qu (fun z=>c (z n (by omega) n1).1)) (fun lt=>?_)
   refine⟨_,_,_,_,rfl,z1.2,z0.2,by decide,?_⟩
   refine jBA (fun c=>qu (fun z=>absurd c (Rat.not_lt.mpr (z n (by omega) n1).2))) (fun c=>?_)
   refine⟨_,_,_,rfl,fun k hk k1=>?_⟩
   by_cases e:k<n
   ·exact hr k e k1
   ·have e':k=n:=by omega
    subst e'
    exact⟨lt,Rat.not_lt.mp c⟩
  rintro τ ⟨y0,y1,y2,rfl,hr⟩
  rw[List.length_map,show((cs.length:Int)-1).toNat=cs.length-1 by omega] at hr
  exact q (fun k hk k1=>hr k (by omega) k1)
variable (jCE:Cal P w K mg base (CXU P w) 2 "check_rise" ["corners"] jEV)
theorem jFG:jAe ["one","other"] ["one","other"] (jAc jCz):=scN
include jAQ jJA in
theorem jFH (F:Fun K "slope_between" "slope_between" jCz f fd):jAz P w K mg base CX0 4 f fd ["one","other"] (jAj K mg jDo):=by
 refine fn3 F jFG (fun ss R U h=>?_) (fun cdv A outer s H E ss R U hr h=>?_)
 ·obtain⟨a,b,c,d,n,rfl,_⟩:=h;rfl
 obtain⟨a,b,c,d,n,rfl,hn,ha,hb,hc,hd,h0,q⟩:=h
 refine⟨_,(jBc (jAA hr jJA (a2 (jAA hr jAQ (a2 (jAd (vN 1) jAa) (jAd (vN 0) jAa))) (jAA hr jAQ (a2 (jAd (vN 1) jAa) (jAd (vN 0) jAa)))))),?_⟩
 refine⟨d,b,n,n,rfl,hd,hb,by omega,?_⟩
 refine⟨c,a,n,n,rfl,hc,ha,by omega,?_⟩
 exact⟨d-b,c-a,_,_,rfl,hd.sub hb,hc.sub ha,by omega,h0,q⟩
variable (jAE:Cal P w K mg base (CXU P w) 4 "slope_between" ["one","other"] jDo)
theorem jBt:jAe ["points","last","slopes"] ["points","last"] (jAc jA0):=scN
include jAM jAu jAE in
theorem jFC (F:Fun K "slopes_behind" "slopes_behind" jA0 f fd):jAz P w K mg base CX0 5 f fd ["points","last"] (jAj K mg jDq):=by
 refine fn3 F jBt (fun ss R U h=>?_) (fun cdv A outer s H E ss R U hr h=>?_)
 ·obtain⟨x,cs,m,rfl,_⟩:=h;rfl
 obtain⟨x,cs,m,rfl,hx,c0,hl,hz,up,q⟩:=h
 refine⟨_,(jAb (jIb (i:=2) (N:=["number","points"]) (idx:=[0]) (jAP.mk' (jAc jA0) ["points","last","slopes"] rfl rfl (by decide +kernel)) rfl (jC4 rfl jAu (PA3.out (a2 jAa (jCR jAM (vN 0))))) jFK (fun cl C s₀ H₀ fp=>jBL) (fun cl C s₀ H₀ fp=>(jAA hr jAE (a2 (jAd (vN 1) (jAi jC0 (vN 0) jAa)) (jAd (vN 1) (vN 0))))) jBt.nd rfl (Or.inl rfl))
  (jAb (jGD (jCc (jGF PySem.F.plainAttrs_list PySem.F.slot_list_append PySem.F.type_list_append jA7 (pv 2) (jA2 (PE3.out (vN 1)) jB9))))
  (jAl (jDQ (pv 2))))),?_⟩
 rcases hx with hx|rfl
 ·exact hx.elim
 ·refine⟨⟨by decide,by decide,by rw[List.length_map];omega,by rw[List.length_map];omega⟩,?_⟩
  have eN:((((cs.map cd).length:Nat):Int)-1).toNat=cs.length-1:=by rw[List.length_map];omega
  refine⟨(List.range (cs.length-1)).map fun i=>some (qd (slp cs m i)),by rw[jAX,eN,List.length_map,List.length_range],?_,?_,?_⟩
  ·intro n x hx
   obtain⟨hn,rfl⟩:=jC6 hx
   rw[eN] at hn
   have n1:n+1<cs.length:=by omega
   have z0:=hz n (by omega)
   have z1:=hz (n+1) n1
   refine atR (jBI (cs:=cs) n (by omega) (by omega)) ?_
   refine atR (jBI (cs:=cs) (n+1) (by omega) n1) ?_
   refine⟨tt cs n,vv cs n,tt cs (n+1),vv cs (n+1),3200,rfl,by decide,z0.1,z0.2,z1.1,z1.2,jEJ (up n n1),?_⟩
   show((List.range (cs.length-1)).map _)[n]? = _
   rw[List.getElem?_map,List.getElem?_range (by omega)]
   show some (some (qd (slp cs m n)))=_
   rw[jCs n1]
  ·rw[jAX,eN];omega
  refine⟨?_,?_⟩
  ·have:=List.length_filterMap_le id ((List.range (cs.length-1)).map fun i=>some (qd (slp cs m i)))
   rw[List.length_map,List.length_range] at this
   omega
  show R (.l (_++[qd m]))
  rw[jJb cs m c0]
  exact q
variable (jBK:Cal P w K mg base (CXU P w) 5 "slopes_behind" ["points","last"] jDq)
include jAM jAu jAE in
theorem jEx (F:Fun K "slopes_behind" "slopes_behind" jA0 f fd):jAz P w K mg base CX0 5 f fd ["points","last"] (jAj K mg jCr):=by
 refine fn3 F jBt (fun ss R U h=>?_) (fun cdv A outer s H E ss R U hr h=>?_)
 ·obtain⟨cs,m,rfl,_⟩:=h;rfl
 obtain⟨cs,m,rfl,c0,hl,hz,up,q⟩:=h
 refine⟨_,(jAb (jIb (i:=2) (N:=["number","points"]) (idx:=[0]) (jAP.mk' (jAc jA0) ["points","last","slopes"] rfl rfl (by decide +kernel)) rfl (jC4 rfl jAu (PA3.out (a2 jAa (jCR jAM (vN 0))))) jFK (fun cl C s₀ H₀ fp=>jBL) (fun cl C s₀ H₀ fp=>(jAA hr jAE (a2 (jAd (vN 1) (jAi jC0 (vN 0) jAa)) (jAd (vN 1) (vN 0))))) jBt.nd rfl (Or.inl rfl))
  (jAb (jGD (jCc (jGF PySem.F.plainAttrs_list PySem.F.slot_list_append PySem.F.type_list_append jA7 (pv 2) (jA2 (PE3.out (vN 1)) jB9))))
  (jAl (jDQ (pv 2))))),?_⟩
 refine⟨⟨by decide,by decide,by rw[List.length_map];omega,by rw[List.length_map];omega⟩,?_⟩
 have eN:((((cs.map cd).length:Nat):Int)-1).toNat=cs.length-1:=by rw[List.length_map];omega
 refine⟨(List.range (cs.length-1)).map fun i=>some (qd (slp cs m i)),by rw[jAX,eN,List.length_map,List.length_range],?_,?_,?_⟩
 ·intro n x hx
  obtain⟨hn,rfl⟩:=jC6 hx
  rw[eN] at hn
  have n1:n+1<cs.length:=by omega
  have z0:=hz n (by omega)
  have z1:=hz (n+1) n1
  refine atR (jBI (cs:=cs) n (by omega) (by omega)) ?_
  refine atR (jBI (cs:=cs) (n+1) (by omega) n1) ?_
  refine⟨tt cs n,vv cs n,tt cs (n+1),vv cs (n+1),3200,rfl,by decide,z0.1,z0.2,z1.1,z1.2,jEJ (up n n1),?_⟩
  show((List.range (cs.length-1)).map _)[n]? = _
  rw[List.getElem?_map,List.getElem?_range (by omega)]
  show some (some (qd (slp cs m n)))=_
  rw[jCs n1]
 ·rw[jAX,eN];omega
 refine⟨?_,?_⟩
 ·have:=List.length_filterMap_le id ((List.range (cs.length-1)).map fun i=>some (qd (slp cs m i)))
  rw[List.length_map,List.length_range] at this
  omega
 show R (.l (_++[qd m]))
 rw[jJb cs m c0]
 exact q
variable (jAq:Cal P w K mg base (CXU P w) 5 "slopes_behind" ["points","last"] jCr)
theorem jFL:jAe ["corners","last","slopes","kept","number"] ["corners","last"] (jAc jIN):=scN
variable (jEw:mg "tuple"=none)
include jAC jAM gc_NOUGHT ec_NoCurve m_NoCurve jCh jAu jCE jBK jEw in
theorem jMq (F:Fun K "curve" "curve" jIN f fd):jAz P w K mg base (CXU P w) 6 f fd ["corners","last"] (jAj K mg jJM):=by
 refine fnU F jFL (fun ss R U h=>?_) (fun cdv A outer s H E ss R U hr h xo=>?_)
 ·obtain⟨x,cs,m,rfl,_⟩:=h;rfl
 obtain⟨x,cs,m,rfl,hx,hz,q,qu⟩:=h
 refine⟨_,(jAb (jJc (jGZ xo hr jCh (a1 (vN 0))))
  (jAb (jJc (jGZ xo hr jCE (a1 (vN 0))))
  (jAb (jBN (jBk (jGZ xo hr jAC (a2 (vN 1) (jKd rfl gc_NOUGHT)))) (jAl (jEu xo rfl jIw rfl ec_NoCurve m_NoCurve)) jAr)
  (jAb (jAH 2 jFL (jGZ xo hr jBK (a2 (vN 0) (vN 1))))
  (jAb (jAH 3 jFL (jGh (a1 (jAd (vN 0) jAa))))
  (jAb (jN2 (jC2 PassesOwn.leaving rfl (jC4 rfl jAu (PA3.out (a2 jAa (jCR jAM (vN 0))))) (jBn (i:=4) jFL.nd rfl (Or.inl rfl)) (jDx.out (jAl (jBN (jCf (jOY 1 (hu_ hr (by decide))) (jAd (vN 2) (vN 4)) (jAd (vN 2) (jAi jC0 (vN 4) jAa))) (jAl (jGD (jCc (jGF PySem.F.plainAttrs_list PySem.F.slot_list_append PySem.F.type_list_append jA7 (pv 3) (jA2 (PE3.out (jAd (vN 0) (vN 4))) jB9))))) jAr)))))
  (jBc (jA8 (a2 (jO8 (vN 3) rfl jEw) (vN 1)))))))))),?_⟩
 rcases hx with hx|rfl
 ·exact hx.elim
 ·have hl:=hz.len
  refine⟨_,cs,rfl,Or.inr rfl,hl,hz.cs,fun hb=>?_,fun nb=>qu (fun z=>nb ⟨z.1.ne,z.1.t0,z.1.v0⟩)⟩
  refine⟨_,cs,rfl,Or.inr rfl,hb.1,hl,hz.cs,fun hr=>?_,fun nr=>qu (fun z=>nr (fun k _ k1=>⟨z.1.up k k1,z.1.vu k k1⟩))⟩
  refine⟨m,0,_,_,rfl,hz.m,Sz.zero,by decide,?_⟩
  refine jBA (fun c=>qu (fun z=>absurd c (Rat.not_lt.mpr z.2))) (fun c=>?_)
  have hm:0≤m:=Rat.not_lt.mp c
  have c0:=hb.1
  have ho:Ord cs:=⟨hb.1,hb.2.1,hb.2.2,fun k k1=>(hr k (by omega) k1).1,fun k k1=>(hr k (by omega) k1).2⟩
  refine⟨_,cs,m,rfl,Or.inr rfl,c0,hl,hz.cs.mono (by decide),ho.up,?_⟩
  refine atR (jBI (cs:=cs) (i:=0) 0 rfl c0) ?_
  refine⟨(by show 1≤1000;decide),?_⟩
  refine⟨⟨by decide,by decide,by rw[List.length_map];omega,by rw[List.length_map];omega⟩,?_⟩
  refine⟨fun n τ=>∃y,τ=[some (.d (.lst (cs.map cd))),some (.d (qd m)),some (.l ((jHM cs m).map qd)),some (.l ((kp cs m n).map cd)),y],⟨_,rfl⟩,?_,?_⟩
  ·rintro n τ hn ⟨y,rfl⟩
   rw[List.length_map] at hn
   have n1:n+1<cs.length:=by omega
   refine atR (jJ7 (n+1) (by omega) n1) ?_
   refine atR (jJ7 n (by omega) (by omega)) ?_
   refine⟨rfl,rfl,neT (slp cs m (n+1)) (slp cs m n) (fun c=>?_) (fun c=>?_)⟩
   ·refine atR (jBI (cs:=cs) (n+1) (by omega) n1) ?_
    refine⟨?_,some (.d (.int (1+n*1))),?_⟩
    ·rw[List.length_map]
     have:=jIr cs m n
     omega
    ·rw[jMc (fun z=>c z.symm),List.map_append]
     rfl
   ·refine⟨some (.d (.int (1+n*1))),?_⟩
    rw[jGx c.symm]
    rfl
  rintro τ ⟨y,rfl⟩
  rw[List.length_map,show((cs.length:Int)-1).toNat=cs.length-1 by omega]
  exact⟨(by show 2≤1000;decide),q ⟨ho,hm⟩⟩
variable (jDU:Cal P w K mg base (CXU P w) 6 "curve" ["corners","last"] jJM)
theorem jHC:jAe ["t"] ["t"] (jAc jDR):=scN
variable (ec_NoTime:ExC K "NoTime" K_NoTime)
variable (m_NoTime:mg "NoTime"=some (.ref K_NoTime))
include jAC gc_NOUGHT ec_NoTime m_NoTime in
theorem jHf (F:Fun K "check_time" "check_time" jDR f fd):jAz P w K mg base (CXU P w) 2 f fd ["t"] (jAj K mg jED):=by
 refine fnU F jHC (fun ss R U h=>?_) (fun cdv A outer s H E ss R U hr h xo=>?_)
 ·obtain⟨t,n,rfl,_⟩:=h;rfl
 obtain⟨t,n,rfl,hn,ht,q,qu⟩:=h
 refine⟨_,(jAl (jBN (jBk (jGZ xo hr jAC (a2 (vN 0) (jKd rfl gc_NOUGHT)))) (jAl (jEu xo rfl jIw rfl ec_NoTime m_NoTime)) jAr)),?_⟩
 refine⟨t,0,_,_,rfl,ht,Sz.zero,by omega,?_⟩
 exact jBA (fun c=>qu (Rat.not_le.mpr c)) (fun c=>q (Rat.not_lt.mp c))
variable (jBh:Cal P w K mg base (CXU P w) 2 "check_time" ["t"] jED)
theorem jBd:jAe ["corners","holds","low","high","middle"] ["corners","holds"] (jAc jDm):=scN
include jAM in
theorem jGC (F:Fun K "count_while" "count_while" jDm f fd):jMC P w K mg base 5 4 f fd ["corners","holds"] jEc:=by
 refine fnL F jBd (fun a dom p ss R U h=>?_) (fun cdv A outer s H E a dom p ss R U hr hL h=>?_)
 ·obtain⟨x,xs,n,rfl,_⟩:=h;rfl
 obtain⟨x,xs,n,rfl,hx,hl,hn,hp,q⟩:=h
 refine⟨_,(jAb (jAH 2 jBd jAa)
  (jAb (jAH 3 jBd (jCR jAM (vN 0)))
  (jAb (jHB PassesOwn.never (jCf jHL (vN 2) (vN 3)) (jAb (jAH 4 jBd (jAi jAY (jAi jAR (vN 2) (vN 3)) jAa))
  (jAl (jBN (jBk (jPy hL (hr.mono (by decide)) (pv 1) (jAd (vN 0) (vN 4)))) (jAl (jAH 2 jBd (jAi jAR (vN 4) jAa))) (jAl (jAH 3 jBd (vN 4)))))))
  (jAl (jDQ (pv 2)))))),?_⟩
 rcases hx with rfl|rfl|rfl
 ·refine⟨fun m τ=>∃(lo hi:Int)(y:Option S),τ=[some (.d (.tup xs)),some (.d (.ref a)),I lo,I hi,y]∧0≤lo∧lo≤n∧(n:Int)≤hi∧hi≤xs.length∧m=(hi-lo).toNat,⟨_,_,_,_,rfl,by decide,by omega,by omega,by omega,rfl⟩,?_⟩
  rintro m τ ⟨lo,hi,y,rfl,h1,h2,h3,h4,rfl⟩
  refine jBA (fun c=>?_) (fun c=>?_)
  ·have d1:lo≤(lo+hi).fdiv 2∧(lo+hi).fdiv 2<hi:=by
    rw[Int.fdiv_eq_ediv_of_nonneg _ (by decide)]
    exact jLB c
   refine⟨⟨nz2,jBV (by decide)⟩,?_⟩
   generalize (lo+hi).fdiv 2=mid at d1
   have m0:0≤mid:=Int.le_trans h1 d1.1
   have em:mid=((mid.toNat:Nat):Int):=(Int.toNat_of_nonneg m0).symm
   have ml:mid.toNat<xs.length:=jRy h1 d1.1 d1.2 h4
   have hx:xs[mid.toNat]? = some xs[mid.toNat]:=List.getElem?_eq_getElem ml
   have b:atI xs mid=some xs[mid.toNat]:=by
    have:=atI_nat ml
    rw[←em] at this
    rw[this]
    exact hx
   obtain⟨dm,ep⟩:=hp _ _ hx
   refine⟨rfl,?_⟩
   refine atR b ?_
   refine⟨dm,?_⟩
   rw[ep]
   refine jBA (fun e=>?_) (fun e=>?_)
   ·exact⟨(hi-(mid+1)).toNat,by omega,_,_,_,rfl,Int.add_nonneg m0 (by decide),by omega,h3,h4,rfl⟩
   ·exact⟨(mid-lo).toNat,jRU d1.2 d1.1,_,_,_,rfl,h1,h2,by omega,by omega,rfl⟩
  ·have e:lo=n:=by omega
   subst e
   exact q
 ·refine⟨fun m τ=>∃(lo hi:Int)(y:Option S),τ=[some (.r xs),some (.d (.ref a)),I lo,I hi,y]∧0≤lo∧lo≤n∧(n:Int)≤hi∧hi≤xs.length∧m=(hi-lo).toNat,⟨_,_,_,_,rfl,by decide,by omega,by omega,by omega,rfl⟩,?_⟩
  rintro m τ ⟨lo,hi,y,rfl,h1,h2,h3,h4,rfl⟩
  refine jBA (fun c=>?_) (fun c=>?_)
  ·have d1:lo≤(lo+hi).fdiv 2∧(lo+hi).fdiv 2<hi:=by
    rw[Int.fdiv_eq_ediv_of_nonneg _ (by decide)]
    exact jLB c
   refine⟨⟨nz2,jBV (by decide)⟩,?_⟩
   generalize (lo+hi).fdiv 2=mid at d1
   have m0:0≤mid:=Int.le_trans h1 d1.1
   have em:mid=((mid.toNat:Nat):Int):=(Int.toNat_of_nonneg m0).symm
   have ml:mid.toNat<xs.length:=jRy h1 d1.1 d1.2 h4
   have hx:xs[mid.toNat]? = some xs[mid.toNat]:=List.getElem?_eq_getElem ml
   have b:atI xs mid=some xs[mid.toNat]:=by
    have:=atI_nat ml
    rw[←em] at this
    rw[this]
    exact hx
   obtain⟨dm,ep⟩:=hp _ _ hx
   refine⟨rfl,?_⟩
   refine atR b ?_
   refine⟨dm,?_⟩
   rw[ep]
   refine jBA (fun e=>?_) (fun e=>?_)
   ·exact⟨(hi-(mid+1)).toNat,by omega,_,_,_,rfl,Int.add_nonneg m0 (by decide),by omega,h3,h4,rfl⟩
   ·exact⟨(mid-lo).toNat,jRU d1.2 d1.1,_,_,_,rfl,h1,h2,by omega,by omega,rfl⟩
  ·have e:lo=n:=by omega
   subst e
   exact q
 ·refine⟨fun m τ=>∃(lo hi:Int)(y:Option S),τ=[some (.d (.lst xs)),some (.d (.ref a)),I lo,I hi,y]∧0≤lo∧lo≤n∧(n:Int)≤hi∧hi≤xs.length∧m=(hi-lo).toNat,⟨_,_,_,_,rfl,by decide,by omega,by omega,by omega,rfl⟩,?_⟩
  rintro m τ ⟨lo,hi,y,rfl,h1,h2,h3,h4,rfl⟩
  refine jBA (fun c=>?_) (fun c=>?_)
  ·have d1:lo≤(lo+hi).fdiv 2∧(lo+hi).fdiv 2<hi:=by
    rw[Int.fdiv_eq_ediv_of_nonneg _ (by decide)]
    exact jLB c
   refine⟨⟨nz2,jBV (by decide)⟩,?_⟩
   generalize (lo+hi).fdiv 2=mid at d1
   have m0:0≤mid:=Int.le_trans h1 d1.1
   have em:mid=((mid.toNat:Nat):Int):=(Int.toNat_of_nonneg m0).symm
   have ml:mid.toNat<xs.length:=jRy h1 d1.1 d1.2 h4
   have hx:xs[mid.toNat]? = some xs[mid.toNat]:=List.getElem?_eq_getElem ml
   have b:atI xs mid=some xs[mid.toNat]:=by
    have:=atI_nat ml
    rw[←em] at this
    rw[this]
    exact hx
   obtain⟨dm,ep⟩:=hp _ _ hx
   refine⟨rfl,?_⟩
   refine atR b ?_
   refine⟨dm,?_⟩
   rw[ep]
   refine jBA (fun e=>?_) (fun e=>?_)
   ·exact⟨(hi-(mid+1)).toNat,by omega,_,_,_,rfl,Int.add_nonneg m0 (by decide),by omega,h3,h4,rfl⟩
   ·exact⟨(mid-lo).toNat,jRU d1.2 d1.1,_,_,_,rfl,h1,h2,by omega,by omega,rfl⟩
  ·have e:lo=n:=by omega
   subst e
   exact q
variable (jAy:jRG P w K mg base 5 4 "count_while" ["corners","holds"] jEc)
theorem jIM:jAe ["f","t"] ["f","t"] (jAc jD3):=scN
include jAC jBh jAy in
theorem jIB (F:Fun K "piece_at" "piece_at" jD3 f fd){cA cT:Addr}(ht_:PySem.W.tabIn K "piece_at"=some (cA,cT)) (hn_:rA K "piece_at" f) (hp_:(PyProof.Rows.recsOf P).any (fun d=>d.name == "piece_at")=true):jAz P w K mg base (CXU P w) 6 f fd ["f","t"] (jAj K mg jF3):=by
 refine jTx ht_ hn_ F jIM (fun ss R U h=>?_) (fun cdv A outer s H E ss R U ec hr h xo=>?_)
 ·obtain⟨cs,m,t,n,rfl,_⟩:=h;rfl
 subst ec
 obtain⟨cs,m,t,n,rfl,c0,hl,t0,up,hn,hz,ht,q,qu⟩:=h
 refine⟨_,(jAb (jJc (jGZ xo hr jBh (a1 (vN 1))))
  (jBc (jAi jC0 (jFN (x:="corner") jAy (hr.mono (by decide)) rfl ht_ hp_ rfl (jAP.mk' (jAc jD3) ["f","t"] rfl rfl (by decide +kernel) (N:=["corner","t"]) (idx:=[1])) (jAd (vN 0) jAa) (fun cl nm a cdv A outer s H hr=>(jMW (jAA hr jAC (a2 (vN 1) (jAd (vN 0) jAa)))))) jAa))),?_⟩
 refine⟨t,n,rfl,hn,ht,fun c'=>?_,fun c=>qu c⟩
 have h0:tt cs 0≤t:=by rw[t0];exact c'
 refine⟨fun x=>∃k,k<cs.length∧x=.tup [qd (tt cs k),qd (vv cs k)],fun x=>!decide (t<tOf x),?_,?_⟩
 ·rintro x ⟨k,hk,rfl⟩
  refine⟨t,tt cs k,_,_,rfl,ht,(hz k hk).1,by omega,?_⟩
  show S.d (.bl (!decide (t<tt cs k)))=.d (.bl (!decide (t<tOf (.tup [qd (tt cs k),qd (vv cs k)]))))
  rw[jNy]
 intro a
 refine⟨_,_,plc cs t cs.length+1,rfl,Or.inl rfl,by rw[List.length_map];exact hl,by rw[List.length_map];exact jGO c0 _ (Nat.le_refl _),fun i x hx=>?_,?_⟩
 ·obtain⟨hi,rfl⟩:=jL1 hx
  refine⟨⟨i,hi,rfl⟩,?_⟩
  show(!decide (t<tOf (.tup [qd (tt cs i),qd (vv cs i)])))=_
  rw[jNy]
  exact jPm up h0 hi
 show R (.d (.int (((plc cs t cs.length+1:Nat):Int)-1)))
 rw[show(((plc cs t cs.length+1:Nat):Int)-1)=((plc cs t cs.length:Nat):Int) by omega]
 exact q c'
variable (jD4:Cal P w K mg base (CXU P w) 6 "piece_at" ["f","t"] jF3)
theorem jC8:jAe ["f","number","corners"] ["f","number"] (jAc jCd):=scN
include jAM jAE in
theorem jFl (F:Fun K "slope_of_piece" "slope_of_piece" jCd f fd):jAz P w K mg base CX0 5 f fd ["f","number"] (jAj K mg jCW):=by
 refine fn3 F jC8 (fun ss R U h=>?_) (fun cdv A outer s H E ss R U hr h=>?_)
 ·obtain⟨cs,m,k,n,rfl,_⟩:=h;rfl
 obtain⟨cs,m,k,n,rfl,hk,hl,up,hn,hz,q⟩:=h
 refine⟨_,(jAb (jAH 2 jC8 (jAd (vN 0) jAa))
  (jAb (jBN (jCf jHn (vN 1) (jAi jC0 (jCR jAM (vN 2)) jAa)) (jBc (jAd (vN 0) jAa)) jAr)
  (jBc (jAA hr jAE (a2 (jAd (vN 2) (vN 1)) (jAd (vN 2) (jAi jAR (vN 1) jAa))))))),?_⟩
 refine jBA (fun c=>?_) (fun c=>?_)
 ·rw[List.length_map] at c
  rw[jBo (by omega)] at q
  exact q
 rw[List.length_map] at c
 have k1:k+1<cs.length:=by omega
 refine atR (jL2 hk) ?_
 refine atR (jBI (cs:=cs) (k+1) (by omega) k1) ?_
 refine⟨_,_,_,_,n,rfl,hn,(hz k hk).1,(hz k hk).2,(hz _ k1).1,(hz _ k1).2,jEJ (up k k1),?_⟩
 rw[jCs k1] at q
 exact q
variable (jBp:Cal P w K mg base (CXU P w) 5 "slope_of_piece" ["f","number"] jCW)
theorem jEB:jAe ["f","t","number","corner"] ["f","t"] (jAc jFf):=scN
include jEk jAQ jEz jD4 jBp in
theorem jIU (F:Fun K "value_at" "value_at" jFf f fd):jAz P w K mg base (CXU P w) 7 f fd ["f","t"] (jAj K mg jFU):=by
 refine fnU F jEB (fun ss R U h=>?_) (fun cdv A outer s H E ss R U hr h xo=>?_)
 ·obtain⟨cs,m,t,n,rfl,_⟩:=h;rfl
 obtain⟨cs,m,t,n,rfl,c0,t0,up,hn,hz,ht,q,qu⟩:=h
 refine⟨_,(jAb (jAH 2 jEB (jGZ xo hr jD4 (a2 (vN 0) (vN 1))))
  (jAb (jAH 3 jEB (jAd (jAd (vN 0) jAa) (vN 2)))
  (jAb (jBN (jCf (jQx 1 (hu_ hr (by decide))) (jAd (vN 3) jAa) (vN 1)) (jBc (jAd (vN 3) jAa)) jAr)
  (jBc (jGZ xo hr jEk (a2 (jAd (vN 3) jAa) (jGZ xo hr jEz (a2 (jGZ xo hr jBp (a2 (vN 0) (vN 2))) (jGZ xo hr jAQ (a2 (vN 1) (jAd (vN 3) jAa))))))))))),?_⟩
 refine⟨cs,m,t,n,rfl,c0,hz.len,t0,up,by omega,hz.cs,ht,fun h=>?_,fun h=>qu h⟩
 have q':R (.d (qd (vv cs (plc cs t cs.length)+slp cs m (plc cs t cs.length)*(t-tt cs (plc cs t cs.length))))):=q h
 have hk:plc cs t cs.length<cs.length:=jGO c0 _ (Nat.le_refl _)
 generalize plc cs t cs.length=k at q' hk
 have zk:=hz.cs k hk
 refine atR (jL2 hk) ?_
 refine⟨rfl,rfl,eqT (tt cs k) t (fun e=>?_) (fun e=>?_)⟩
 ·rw[show vv cs k+slp cs m k*(t-tt cs k)=vv cs k by rw[e];grind] at q'
  exact q'
 refine⟨cs,m,k,n,rfl,hk,hz.len,up,by omega,hz.cs,?_⟩
 refine⟨t,tt cs k,n,n,rfl,ht,zk.1,by omega,?_⟩
 have zs:Sz (4*n+2) (slp cs m k):=jQ1 up hz hk
 refine⟨_,_,_,_,rfl,zs,ht.sub zk.1,by omega,?_⟩
 exact⟨_,_,_,_,rfl,zk.2,zs.mul (ht.sub zk.1),by omega,q'⟩
variable (jC1:Cal P w K mg base (CXU P w) 7 "value_at" ["f","t"] jFU)
theorem jCK:jAe ["f","slopes"] ["f"] (jAc jBi):=scN
include jAC jAM jAu jAq in
theorem jEU (F:Fun K "steeper_corners" "steeper_corners" jBi f fd):jAz P w K mg base CX0 6 f fd ["f"] (jAj K mg jCH):=by
 refine fn3 F jCK (fun ss R U h=>?_) (fun cdv A outer s H E ss R U hr h=>?_)
 ·obtain⟨cs,m,a,b,c,rfl,_⟩:=h;rfl
 obtain⟨cs,m,a,b,c,rfl,o,z,hs,hl,q⟩:=h
 refine⟨_,(jAb (jAH 1 jCK (jAA hr jAq (a2 (jAd (vN 0) jAa) (jAd (vN 0) jAa))))
  (jBc (jE4 (N:=["number","f","slopes"]) (idx:=[0,1]) (jAP.mk' (jAc jBi) ["f","slopes"] rfl rfl (by decide +kernel)) rfl (jC4 rfl jAu (PA3.out (a2 jAa (jCR jAM (vN 1))))) jFK (fun cl C s₀ H₀ fp=>(jI2 (jBk (jAA hr jAC (a2 (jAd (vN 2) (jAi jC0 (vN 0) jAa)) (jAd (vN 2) (vN 0))))))) (fun cl C s₀ H₀ fp=>(jAd (jAd (vN 1) jAa) (vN 0)))))),?_⟩
 have kc:SzK 1800 cs m:=z.szk o (by omega) hs
 have n0:=o.ne
 refine⟨cs,m,rfl,o.ne,by omega,kc.cs.mono (by decide),o.up,?_⟩
 have eN:((((jHM cs m).map qd).length:Nat):Int)=(cs.length:Int):=by rw[List.length_map,jDZ]
 have eT:((((jHM cs m).map qd).length:Nat)-1:Int).toNat=cs.length-1:=by rw[eN];omega
 refine⟨⟨by decide,by decide,by omega,by omega⟩,?_⟩
 refine⟨(List.range (cs.length-1)).map fun n=>if decide (slp cs m n<slp cs m (n+1))=true then some (cd (tt cs (n+1),vv cs (n+1))) else none,?_,?_,?_,?_⟩
 ·rw[jAX,List.length_map,List.length_range,eT]
 ·intro n x hx
  obtain⟨hn,rfl⟩:=jC6 hx
  rw[eT] at hn
  have z1:=(z.ln o n (by omega)).1
  have z2:=(z.ln o (n+1) (by omega)).1
  refine atR (jJ7 (cs:=cs) (m:=m) n (by omega) (by omega)) ?_
  refine atR (jJ7 (cs:=cs) (m:=m) (n+1) (by omega) (by omega)) ?_
  refine⟨_,_,b,b,rfl,z1,z2,by omega,?_⟩
  have g:((List.range (cs.length-1)).map fun n=>if decide (slp cs m n<slp cs m (n+1))=true then some (cd (tt cs (n+1),vv cs (n+1))) else none)[n]? = some (if decide (slp cs m n<slp cs m (n+1))=true then some (cd (tt cs (n+1),vv cs (n+1))) else none):=by
   rw[List.getElem?_map,List.getElem?_range hn]
   rfl
  refine jBA (fun c=>?_) (fun c=>?_)
  ·refine atR (jBI (cs:=cs) (n+1) (by omega) (by omega)) ?_
   rw[if_pos (decide_eq_true c)] at g
   exact g
  ·rw[if_neg (by simpa using c)] at g
   exact g
 ·rw[jAX,eT];omega
 rw[jID (p:=fun n=>decide (slp cs m n<slp cs m (n+1))) (f:=fun k=>cd (tt cs k,vv cs k))]
 exact q
variable (jBl:Cal P w K mg base (CXU P w) 6 "steeper_corners" ["f"] jCH)
theorem jCL:jAe ["f","slopes"] ["f"] (jAc jBj):=scN
include jAC jAM jAu jAq in
theorem jEF (F:Fun K "flatter_corners" "flatter_corners" jBj f fd):jAz P w K mg base CX0 6 f fd ["f"] (jAj K mg jCG):=by
 refine fn3 F jCL (fun ss R U h=>?_) (fun cdv A outer s H E ss R U hr h=>?_)
 ·obtain⟨cs,m,a,b,c,rfl,_⟩:=h;rfl
 obtain⟨cs,m,a,b,c,rfl,o,z,hs,hl,q⟩:=h
 refine⟨_,(jAb (jAH 1 jCL (jAA hr jAq (a2 (jAd (vN 0) jAa) (jAd (vN 0) jAa))))
  (jBc (jE4 (N:=["number","f","slopes"]) (idx:=[0,1]) (jAP.mk' (jAc jBj) ["f","slopes"] rfl rfl (by decide +kernel)) rfl (jC4 rfl jAu (PA3.out (a2 jAa (jCR jAM (vN 1))))) jFK (fun cl C s₀ H₀ fp=>(jI2 (jBk (jAA hr jAC (a2 (jAd (vN 2) (vN 0)) (jAd (vN 2) (jAi jC0 (vN 0) jAa))))))) (fun cl C s₀ H₀ fp=>(jAd (jAd (vN 1) jAa) (vN 0)))))),?_⟩
 have kc:SzK 1800 cs m:=z.szk o (by omega) hs
 have n0:=o.ne
 refine⟨cs,m,rfl,o.ne,by omega,kc.cs.mono (by decide),o.up,?_⟩
 have eN:((((jHM cs m).map qd).length:Nat):Int)=(cs.length:Int):=by rw[List.length_map,jDZ]
 have eT:((((jHM cs m).map qd).length:Nat)-1:Int).toNat=cs.length-1:=by rw[eN];omega
 refine⟨⟨by decide,by decide,by omega,by omega⟩,?_⟩
 refine⟨(List.range (cs.length-1)).map fun n=>if decide (slp cs m (n+1)<slp cs m n)=true then some (cd (tt cs (n+1),vv cs (n+1))) else none,?_,?_,?_,?_⟩
 ·rw[jAX,List.length_map,List.length_range,eT]
 ·intro n x hx
  obtain⟨hn,rfl⟩:=jC6 hx
  rw[eT] at hn
  have z1:=(z.ln o n (by omega)).1
  have z2:=(z.ln o (n+1) (by omega)).1
  refine atR (jJ7 (cs:=cs) (m:=m) (n+1) (by omega) (by omega)) ?_
  refine atR (jJ7 (cs:=cs) (m:=m) n (by omega) (by omega)) ?_
  refine⟨_,_,b,b,rfl,z2,z1,by omega,?_⟩
  have g:((List.range (cs.length-1)).map fun n=>if decide (slp cs m (n+1)<slp cs m n)=true then some (cd (tt cs (n+1),vv cs (n+1))) else none)[n]? = some (if decide (slp cs m (n+1)<slp cs m n)=true then some (cd (tt cs (n+1),vv cs (n+1))) else none):=by
   rw[List.getElem?_map,List.getElem?_range hn]
   rfl
  refine jBA (fun c=>?_) (fun c=>?_)
  ·refine atR (jBI (cs:=cs) (n+1) (by omega) (by omega)) ?_
   rw[if_pos (decide_eq_true c)] at g
   exact g
  ·rw[if_neg (by simpa using c)] at g
   exact g
 ·rw[jAX,eT];omega
 rw[jID (p:=fun n=>decide (slp cs m (n+1)<slp cs m n)) (f:=fun k=>cd (tt cs k,vv cs k))]
 exact q
variable (jAJ:Cal P w K mg base (CXU P w) 6 "flatter_corners" ["f"] jCG)
theorem jI0:jAe ["f","g"] ["f","g"] (jAc jFk):=scN
include jAC in
theorem jIT (F:Fun K "outgrows" "outgrows" jFk f fd):jAz P w K mg base CX0 2 f fd ["f","g"] (jAj K mg jGv):=by
 refine fn3 F jI0 (fun ss R U h=>?_) (fun cdv A outer s H E ss R U hr h=>?_)
 ·obtain⟨cs,m,ds,k,rfl,_⟩:=h;rfl
 obtain⟨cs,m,ds,k,rfl,zm,zk,q⟩:=h
 refine⟨_,(jBc (jAA hr jAC (a2 (jAd (vN 1) jAa) (jAd (vN 0) jAa)))),?_⟩
 exact⟨k,m,_,_,rfl,zk,zm,by decide,q⟩
variable (jBQ:Cal P w K mg base (CXU P w) 2 "outgrows" ["f","g"] jGv)
theorem jDT:jAe ["point","slope","base"] ["point","slope"] (jAc jCP):=scN
include jAQ jEz in
theorem jF7 (F:Fun K "line_through" "line_through" jCP f fd):jAz P w K mg base CX0 4 f fd ["point","slope"] (jAj K mg jDP):=by
 refine fn3 F jDT (fun ss R U h=>?_) (fun cdv A outer s H E ss R U hr h=>?_)
 ·obtain⟨c,m,n,rfl,_⟩:=h;rfl
 obtain⟨c,m,n,rfl,z1,z2,zm,hn,q⟩:=h
 refine⟨_,(jAb (jAH 2 jDT (jAA hr jAQ (a2 (jAd (vN 0) jAa) (jAA hr jEz (a2 (vN 1) (jAd (vN 0) jAa))))))
  (jBc (jA8 (jAO (jAi jAv (jAd (vN 1) jAa) (jAd (vN 2) jAa)) (a2 (jAi jAv (jAd (vN 2) jAa) (jAd (vN 1) jAa)) (jAi jAv (jAd (vN 1) jAa) (jAd (vN 2) jAa))))))),?_⟩
 refine⟨m,c.1,n,n,rfl,zm,z1,by omega,?_⟩
 have zt:=zm.mul z1
 refine⟨c.2,m*c.1,n,n+n,rfl,z2,zt,by omega,?_⟩
 have zb:Sz (n+(n+n)+1) (c.2-m*c.1):=z2.sub zt
 exact⟨jAt zm.1 (jAB zb) (by omega),jAt zb.1 (jAB zm) (by omega),jAt (jAB zm) (jAB zb) (by omega),by show 3≤1000;decide,q⟩
variable (jBW:Cal P w K mg base (CXU P w) 4 "line_through" ["point","slope"] jDP)
theorem jFy:jAe ["f","slopes"] ["f"] (jAc jDf):=scN
variable (jIO:mg "zip"=none)
include jAq jBW jIO in
theorem jHU (F:Fun K "pieces_of" "pieces_of" jDf f fd):jAz P w K mg base CX0 6 f fd ["f"] (jAj K mg jFx):=by
 refine fn3 F jFy (fun ss R U h=>?_) (fun cdv A outer s H E ss R U hr h=>?_)
 ·obtain⟨cs,m,a,b,c,rfl,_⟩:=h;rfl
 obtain⟨cs,m,a,b,c,rfl,o,z,hs,hl,q⟩:=h
 refine⟨_,(jAb (jAH 1 jFy (jAA hr jAq (a2 (jAd (vN 0) jAa) (jAd (vN 0) jAa))))
  (jBc (jOb (N:=["corner","slope"]) (idx:=[]) (jCO.mk' (jAc jDf) ["f","slopes"] rfl rfl (by decide +kernel)) rfl (jNM rfl jIO (PA3.out (a2 (jAd (vN 0) jAa) (vN 1)))) (fun cl C s₀ H₀ fp=>(jA8 (a2 (jAd (vN 0) jAa) (jAA hr jBW (a2 (vN 0) (vN 1))))))))),?_⟩
 have kc:SzK 1800 cs m:=z.szk o (by omega) hs
 refine⟨cs,m,rfl,o.ne,by omega,kc.cs.mono (by decide),o.up,?_⟩
 refine⟨_,_,cs.map cd,(jHM cs m).map qd,rfl,rfl,Or.inl rfl,(jB5 cs m).map rpD,?_,?_,?_,q⟩
 ·rw[List.length_map,List.length_map,List.length_map,jB4,jDZ,Nat.min_self]
 ·intro n x y hx hy
  obtain⟨hn,rfl⟩:=jL1 hx
  obtain⟨hn2,rfl⟩:=jPu hy
  have zl:=z.ln o n hn
  refine⟨(tt cs n,vv cs n),slp cs m n,1800,rfl,(kc.cs n hn).1,(kc.cs n hn).2,zl.1.mono (by omega),by decide,by show 2≤1000;decide,?_⟩
  show((jB5 cs m).map rpD)[n]? = _
  rw[List.getElem?_map,jDV hn]
  rfl
 ·rw[List.length_map,jB4];omega
variable (jCy:Cal P w K mg base (CXU P w) 6 "pieces_of" ["f"] jFx)
theorem jFv:jAe ["begin","line","value"] ["begin","line"] (jAc jEo):=scN
include jAW in
theorem jH0 (F:Fun K "corner_of" "corner_of" jEo f fd):jAz P w K mg base CX0 3 f fd ["begin","line"] (jAj K mg jFo):=by
 refine fn3 F jFv (fun ss R U h=>?_) (fun cdv A outer s H E ss R U hr h=>?_)
 ·obtain⟨p,q,k,m,rfl,_⟩:=h;rfl
 obtain⟨p,q0,k,m,rfl,w,hk,q⟩:=h
 refine⟨_,(jAb (jAH 2 jFv (jAA hr jAW (a2 (jAi jAR (jAi jAv (jAd (vN 1) jAa) (jAd (vN 0) jAa)) (jAi jAv (jAd (vN 1) jAa) (jAd (vN 0) jAa))) (jAi jAv (jAd (vN 1) jAa) (jAd (vN 0) jAa)))))
  (jBc (jA8 (a2 (jAA hr jAW (a2 (jAd (vN 0) jAa) (jAd (vN 0) jAa))) (vN 2))))),?_⟩
 obtain⟨e1,e2⟩:=jGl w
 have wa:=w.l.at_ w.t
 refine⟨jAt w.l.s.la w.t.la (by omega),jAt w.l.c.la w.t.lb (by omega),jAt w.l.s.lb w.t.lb (by omega),_,_,rfl,fun z=>absurd wa.pos (by rw[z];decide),jAw wa.la (by omega),jAw wa.lb (by omega),?_⟩
 refine⟨_,_,rfl,fun z=>absurd w.t.pos (by rw[z];decide),jAw w.t.la (by omega),jAw w.t.lb (by omega),?_⟩
 refine⟨by show 2≤1000;decide,?_⟩
 rw[e1,e2]
 exact q
variable (jDd:Cal P w K mg base (CXU P w) 3 "corner_of" ["begin","line"] jFo)
theorem jGg:jAe ["pieces","last"] ["pieces"] (jAc jD7):=scN
include jAW jDU jDd in
theorem jIA (F:Fun K "curve_of" "curve_of" jD7 f fd):jAz P w K mg base CX0 7 f fd ["pieces"] (jAj K mg jFX):=by
 refine fn3 F jGg (fun ss R U h=>?_) (fun cdv A outer s H E ss R U hr h=>?_)
 ·obtain⟨ps,P,k,m,rfl,_⟩:=h;rfl
 obtain⟨ps,P,k,m,rfl,pl,n0,hl,hk,zc,zm,o,m0,q⟩:=h
 refine⟨_,(jAb (jAH 1 jGg (jAd (jAd (vN 0) (jEG jAa)) jAa))
  (jBc (jAA hr jDU (a2 (jE4 (N:=["piece"]) (idx:=[]) (jAP.mk' (jAc jD7) ["pieces","last"] rfl rfl (by decide +kernel)) rfl (jB7 (PE3.out (vN 0))) jCt (fun cl C s₀ H₀ fp=>jBL) (fun cl C s₀ H₀ fp=>(jAA hr jDd (a2 (jAd (vN 0) jAa) (jAd (vN 0) jAa))))) (jAA hr jAW (a2 (jAd (vN 1) jAa) (jAd (vN 1) jAa))))))),?_⟩
 have len:=pl.len
 have hw:∀i,i<ps.length→PW1 k m (ps.getD i dfR) (bg P i,ln P i):=fun i hi=>by
  obtain⟨r,h1,h2⟩:=pl.get (jAZ hi)
  obtain⟨e1,e2⟩:=jES h1
  rw[e1,e2]
  exact h2
 refine atR (jNo (ps:=ps) n0) ?_
 refine⟨ps.map fun p=>some (cd (Rat.divInt p.1.1 p.1.2,Rat.divInt (p.2.1*p.1.1+p.2.2.1*p.1.2) (p.2.2.2*p.1.2))),?_,?_,?_,?_⟩
 ·rw[List.length_map,List.length_map]
 ·intro i x hx
  have hi:i<ps.length:=by have:=(List.getElem?_eq_some_iff.mp hx).1;rw[List.length_map] at this;exact this
  rw[List.getElem?_map,jAZ hi] at hx
  cases hx
  refine⟨ps.getD i dfR,(bg P i,ln P i),k,m,rfl,hw i hi,by omega,?_⟩
  show(ps.map _)[i]? = _
  rw[List.getElem?_map,jAZ hi]
  have ce:=jGl (hw i hi)
  show some (some (cd (Rat.divInt (ps.getD i dfR).1.1 (ps.getD i dfR).1.2,_)))=_
  rw[ce.1,ce.2]
 ·rw[List.length_map];omega
 have ef:(ps.map fun p=>some (cd (Rat.divInt p.1.1 p.1.2,Rat.divInt (p.2.1*p.1.1+p.2.2.1*p.1.2) (p.2.2.2*p.1.2)))).filterMap id=(jGA P).map cd:=by
  rw[jDi (f:=fun p:RP=>cd (Rat.divInt p.1.1 p.1.2,Rat.divInt (p.2.1*p.1.1+p.2.2.1*p.1.2) (p.2.2.2*p.1.2)))]
  refine List.ext_getElem? fun i=>?_
  by_cases hi:i<ps.length
  ·have ce:=jGl (hw i hi)
   unfold jGA
   rw[List.getElem?_map,List.getElem?_map,List.getElem?_map,jAZ hi]
   have g:=List.getElem?_eq_getElem (show i<P.length by omega)
   rw[g]
   obtain⟨e1,e2⟩:=jES g
   show some (cd (Rat.divInt (ps.getD i dfR).1.1 (ps.getD i dfR).1.2,_))=some (cd (_,_))
   rw[ce.1,ce.2,e1,e2]
  ·rw[List.getElem?_eq_none_iff.mpr (by rw[List.length_map];omega),List.getElem?_eq_none_iff.mpr (by rw[List.length_map,jBf];omega)]
 rw[ef]
 have wl:=hw (ps.length-1) (by omega)
 have el:Rat.divInt (ps.getD (ps.length-1) dfR).2.1 (ps.getD (ps.length-1) dfR).2.2.2=(ln P (P.length-1)).1:=by
  rw[←len]
  exact jJu wl.l.s
 refine⟨_,_,rfl,fun z=>absurd wl.l.s.pos (by rw[z];decide),jAw wl.l.s.la (by omega),jAw wl.l.s.lb (by omega),?_⟩
 rw[el]
 refine⟨_,jGA P,(ln P (P.length-1)).1,rfl,Or.inr rfl,⟨by rw[jBf];omega,fun i hi=>?_,zm⟩,fun _=>?_,fun z=>absurd ⟨o,m0⟩ z⟩
 ·rw[jBf] at hi
  rw[(jA5 hi).1,(jA5 hi).2]
  exact zc i hi
 ·rw[jBf];exact q
variable (jD0:Cal P w K mg base (CXU P w) 7 "curve_of" ["pieces"] jFX)
theorem jHt:jAe ["t","way"] ["t","way"] (jAc jDN):=scN
theorem jG8 (F:Fun K "moved_time" "moved_time" jDN f fd):jAz P w K mg base CX0 1 f fd ["t","way"] (jAj K mg jET):=by
 refine fn3 F jHt (fun ss R U h=>?_) (fun cdv A outer s H E ss R U hr h=>?_)
 ·obtain⟨a,b,wn,wd,t,w,m,n,rfl,_⟩:=h;rfl
 obtain⟨a,b,wn,wd,t,w,m,n,rfl,h,hw,hm,hn,q⟩:=h
 refine⟨_,(jBc (jA8 (a2 (jAi jAR (jAi jAv (jAd (vN 0) jAa) (jAd (vN 1) jAa)) (jAi jAv (jAd (vN 1) jAa) (jAd (vN 0) jAa))) (jAi jAv (jAd (vN 0) jAa) (jAd (vN 1) jAa))))),?_⟩
 exact⟨jAt h.la hw.lb (by omega),jAt hw.la h.lb (by omega),jAt h.lb hw.lb (by omega),by show 2≤1000;decide,q⟩
variable (jCI:Cal P w K mg base (CXU P w) 1 "moved_time" ["t","way"] jET)
theorem jBH:jAe ["line","point","way","more","both","base"] ["line","point"] (jAc jDF):=scN
theorem jHI (F:Fun K "moved_line" "moved_line" jDF f fd):jAz P w K mg base CX0 1 f fd ["line","point"] (jAj K mg jEW):=by
 refine fn3 F jBH (fun ss R U h=>?_) (fun cdv A outer s H E ss R U hr h=>?_)
 ·obtain⟨l,q,wn,wd,vn,vd,w,v,k,m,rfl,_⟩:=h;rfl
 obtain⟨l,q0,wn,wd,vn,vd,w,v,k,m,rfl,h,hw,hv,hk,hm,q⟩:=h
 refine⟨_,(jAb (jAH 2 jBH (jAd (vN 1) jAa))
  (jAb (jAH 3 jBH (jAd (vN 1) jAa))
  (jAb (jAH 4 jBH (jAi jAv (jAd (vN 2) jAa) (jAd (vN 3) jAa)))
  (jAb (jAH 5 jBH (jAi jAR (jAi jC0 (jAi jAv (jAd (vN 0) jAa) (vN 4)) (jAi jAv (jAi jAv (jAd (vN 0) jAa) (jAd (vN 2) jAa)) (jAd (vN 3) jAa))) (jAi jAv (jAi jAv (jAd (vN 0) jAa) (jAd (vN 3) jAa)) (jAd (vN 2) jAa))))
  (jBc (jA8 (jAO (jAi jAv (jAd (vN 0) jAa) (vN 4)) (a2 (vN 5) (jAi jAv (jAd (vN 0) jAa) (vN 4)))))))))),?_⟩
 have b:=jAh hw.lb hv.lb
 exact⟨jAt hw.lb hv.lb (by omega),jAt h.c.la b (by omega),jAt h.s.la hw.la (by omega),jAt (jAh h.s.la hw.la) hv.lb (by omega),jAt h.s.lb hv.la (by omega),jAt (jAh h.s.lb hv.la) hw.lb (by omega),jAt h.s.la b (by omega),jAt h.s.lb b (by omega),by show 3≤1000;decide,q⟩
variable (jCN:Cal P w K mg base (CXU P w) 1 "moved_line" ["line","point"] jEW)
theorem jOR:jAe ["pieces","point"] ["pieces","point"] (jAc jJE):=scN
include jCI jCN in
theorem jPr (F:Fun K "laid" "laid" jJE f fd):jAz P w K mg base CX0 2 f fd ["pieces","point"] (jAj K mg jK4):=by
 refine fn3 F jOR (fun ss R U h=>?_) (fun cdv A outer s H E ss R U hr h=>?_)
 ·obtain⟨x,ps,P,wn,wd,vn,vd,w,v,k,m,n,rfl,_⟩:=h;rfl
 obtain⟨x,ps,P,wn,wd,vn,vd,w,v,k,m,n,rfl,hx,h,hw,hv,hk,hm,hn,hl,q⟩:=h
 refine⟨_,(jBc (jE4 (N:=["piece","point"]) (idx:=[1]) (jAP.mk' (jAc jJE) ["pieces","point"] rfl rfl (by decide +kernel)) rfl (jB7 (PE3.out (vN 0))) jCt (fun cl C s₀ H₀ fp=>jBL) (fun cl C s₀ H₀ fp=>(jA8 (a2 (jAA hr jCI (a2 (jAd (vN 0) jAa) (jAd (vN 1) jAa))) (jAA hr jCN (a2 (jAd (vN 0) jAa) (vN 1)))))))),?_⟩
 rcases hx with rfl|rfl
 ·refine⟨ps.map fun p=>some (rpD (mvR wn wd vn vd p)),by rw[List.length_map,List.length_map],?_,?_,?_⟩
  ·intro i x hx
   rw[List.getElem?_map] at hx
   cases hp:ps[i]? with
   |none=>rw[hp] at hx;cases hx
   |some p =>
    rw[hp] at hx
    cases hx
    obtain⟨q0,_,w0⟩:=h.get hp
    refine⟨p.1.1,p.1.2,wn,wd,_,_,m,n,rfl,w0.t,hw,by omega,by omega,?_⟩
    refine⟨p.2,_,wn,wd,vn,vd,_,_,k,n,rfl,w0.l,hw,hv,by omega,by omega,?_⟩
    refine⟨by show 2≤1000;decide,?_⟩
    show(ps.map _)[i]? = _
    rw[List.getElem?_map,hp]
    rfl
  ·rw[List.length_map];exact hl
  rw[jDi]
  rw[List.map_map] at q
  exact q
 ·refine⟨ps.map fun p=>some (rpD (mvR wn wd vn vd p)),by rw[List.length_map,List.length_map],?_,?_,?_⟩
  ·intro i x hx
   rw[List.getElem?_map] at hx
   cases hp:ps[i]? with
   |none=>rw[hp] at hx;cases hx
   |some p =>
    rw[hp] at hx
    cases hx
    obtain⟨q0,_,w0⟩:=h.get hp
    refine⟨p.1.1,p.1.2,wn,wd,_,_,m,n,rfl,w0.t,hw,by omega,by omega,?_⟩
    refine⟨p.2,_,wn,wd,vn,vd,_,_,k,n,rfl,w0.l,hw,hv,by omega,by omega,?_⟩
    refine⟨by show 2≤1000;decide,?_⟩
    show(ps.map _)[i]? = _
    rw[List.getElem?_map,hp]
    rfl
  ·rw[List.length_map];exact hl
  rw[jDi]
  rw[List.map_map] at q
  exact q
variable (jH9:Cal P w K mg base (CXU P w) 2 "laid" ["pieces","point"] jK4)
theorem jJ4:jAe ["pieces"] ["pieces"] (jAc jEO):=scN
theorem jJ5 (F:Fun K "flipped" "flipped" jEO f fd):jAz P w K mg base CX0 1 f fd ["pieces"] (jAj K mg jGV):=by
 refine fn3 F jJ4 (fun ss R U h=>?_) (fun cdv A outer s H E ss R U hr h=>?_)
 ·obtain⟨x,ps,rfl,_⟩:=h;rfl
 obtain⟨x,ps,rfl,hx,hl,q⟩:=h
 refine⟨_,(jBc (jE4 (N:=["piece"]) (idx:=[]) (jAP.mk' (jAc jEO) ["pieces"] rfl rfl (by decide +kernel)) rfl (jB7 (PE3.out (vN 0))) jCt (fun cl C s₀ H₀ fp=>jBL) (fun cl C s₀ H₀ fp=>(jA8 (a2 (jAd (vN 0) jAa) (jA8 (jAO (jEG (jAd (jAd (vN 0) jAa) jAa)) (a2 (jEG (jAd (jAd (vN 0) jAa) jAa)) (jAd (jAd (vN 0) jAa) jAa))))))))),?_⟩
 rcases hx with rfl|rfl
 ·refine⟨ps.map fun p=>some (rpD (flR p)),by rw[List.length_map,List.length_map],?_,?_,?_⟩
  ·intro i x hx
   rw[List.getElem?_map] at hx
   cases hp:ps[i]? with
   |none=>rw[hp] at hx;cases hx
   |some p =>
    rw[hp] at hx
    cases hx
    refine⟨by show 3≤1000;decide,by show 2≤1000;decide,?_⟩
    show(ps.map _)[i]? = _
    rw[List.getElem?_map,hp]
    rfl
  ·rw[List.length_map];exact hl
  rw[jDi]
  rw[List.map_map] at q
  exact q
 ·refine⟨ps.map fun p=>some (rpD (flR p)),by rw[List.length_map,List.length_map],?_,?_,?_⟩
  ·intro i x hx
   rw[List.getElem?_map] at hx
   cases hp:ps[i]? with
   |none=>rw[hp] at hx;cases hx
   |some p =>
    rw[hp] at hx
    cases hx
    refine⟨by show 3≤1000;decide,by show 2≤1000;decide,?_⟩
    show(ps.map _)[i]? = _
    rw[List.getElem?_map,hp]
    rfl
  ·rw[List.length_map];exact hl
  rw[jDi]
  rw[List.map_map] at q
  exact q
variable (jDG:Cal P w K mg base (CXU P w) 1 "flipped" ["pieces"] jGV)
theorem jEH:jAe ["pieces","far","begins","told","first"] ["pieces","far"] (jAc jE3):=scN
include jAQ gc_NOUGHT jIO in
theorem jK1 (F:Fun K "turned" "turned" jE3 f fd):jAz P w K mg base CX0 4 f fd ["pieces","far"] (jAj K mg jH3):=by
 refine fn3 F jEH (fun ss R U h=>?_) (fun cdv A outer s H E ss R U hr h=>?_)
 ·obtain⟨cs,m,far,n,rfl,_⟩:=h;rfl
 obtain⟨cs,m,far,n,rfl,n0,hl,zt,zf,hn,q⟩:=h
 refine⟨_,(jAb (jAH 2 jEH (jKU jLM (jE4 (N:=["piece"]) (idx:=[]) (jAP.mk' (jAc jE3) ["pieces","far","begins","told","first"] rfl rfl (by decide +kernel)) rfl (jB7 (PE3.out (jQi (vN 0) (jIV jAa) jRz))) jCt (fun cl C s₀ H₀ fp=>jBL) (fun cl C s₀ H₀ fp=>(jAA hr jAQ (a2 (jKd rfl gc_NOUGHT) (jAd (vN 0) jAa))))) (jGh (a1 (jAA hr jAQ (a2 (jKd rfl gc_NOUGHT) (vN 1)))))))
  (jAb (jQ9 (i:=3) (N:=["begin","piece"]) (idx:=[]) (jCO.mk' (jAc jE3) ["pieces","far","begins","told","first"] rfl rfl (by decide +kernel)) rfl (jNM rfl jIO (PA3.out (a2 (vN 2) (vN 0)))) (fun cl C s₀ H₀ fp=>(jA8 (a2 (vN 0) (jA8 (jAO (jEG (jAd (jAd (vN 1) jAa) jAa)) (a2 (jAd (jAd (vN 1) jAa) jAa) (jAd (jAd (vN 1) jAa) jAa))))))) jEH.nd rfl (Or.inl rfl))
  (jAb (jAH 4 jEH (jAd (jAd (vN 0) jAa) jAa))
  (jBc (jKU jLM (jRm (vN 3) (jEG jAa)) (jGh (a1 (jA8 (a2 (jKd rfl gc_NOUGHT) (jA8 (jAO jAa (a2 (jAd (vN 4) jAa) (jAd (vN 4) jAa))))))))))))),?_⟩
 have rl:=jB4 (cs:=cs) (m:=m)
 have ec:jGP ((jB5 cs m).map rpD) (some 1) none=((jB5 cs m).drop 1).map rpD:=jQV (h:=1) (by omega)
 have gt:∀j,j+1<cs.length→((jB5 cs m).drop 1)[j]? = some (qr (tt cs (j+1)),jJa (slp cs m (j+1)) (vv cs (j+1)-slp cs m (j+1)*tt cs (j+1))):=fun j hj=>by
  rw[List.getElem?_drop,Nat.add_comm 1 j,jDV hj]
 refine⟨(List.range (cs.length-1)).map fun j=>some (qd (0-tt cs (j+1))),?_,?_,?_,?_⟩
 ·show _=(jGP ((jB5 cs m).map rpD) (some 1) none).length
  rw[ec,List.length_map,List.length_map,List.length_range,List.length_drop,rl]
 ·intro j x hx
  have hx:(jGP ((jB5 cs m).map rpD) (some 1) none)[j]? = some x:=hx
  rw[ec] at hx
  have hj:j+1<cs.length:=by have:=(List.getElem?_eq_some_iff.mp hx).1;rw[List.length_map,List.length_drop,rl] at this;omega
  rw[List.getElem?_map,gt j hj] at hx
  cases hx
  refine⟨0,tt cs (j+1),1,n,rfl,Sz.zero,zt _ hj,by omega,?_⟩
  show((List.range (cs.length-1)).map _)[j]? = _
  rw[List.getElem?_map,List.getElem?_range (by omega)]
  rfl
 ·show(jGP ((jB5 cs m).map rpD) (some 1) none).length≤_
  rw[ec,List.length_map,List.length_drop,rl];omega
 have ef:((List.range (cs.length-1)).map fun j=>some (qd (0-tt cs (j+1)))).filterMap id=(List.range (cs.length-1)).map fun j=>qd (0-tt cs (j+1)):=jDi
 rw[ef]
 refine⟨0,far,1,n,rfl,Sz.zero,zf,by omega,?_⟩
 refine⟨by show 1≤1000;decide,?_⟩
 refine⟨by rw[List.length_map,List.length_range];show cs.length-1+1≤_;omega,?_⟩
 generalize eB:(List.range (cs.length-1)).map (fun j=>qd (0-tt cs (j+1)))++[qd (0-far)]=bs
 have bl:bs.length=cs.length:=by rw[←eB];simp;omega
 have bg':∀j,j<cs.length→bs[j]? = some (qd (if j+1<cs.length then 0-tt cs (j+1) else 0-far)):=fun j hj=>by
  rw[←eB]
  by_cases c:j+1<cs.length
  ·rw[List.getElem?_append_left (by simp;omega),List.getElem?_map,List.getElem?_range (by omega),if_pos c]
   rfl
  ·rw[List.getElem?_append_right (by simp;omega),if_neg c]
   have:j-((List.range (cs.length-1)).map fun j=>qd (0-tt cs (j+1))).length=0:=by simp;omega
   rw[this]
   rfl
 refine⟨_,_,bs,(jB5 cs m).map rpD,rfl,rfl,Or.inr rfl,(List.range cs.length).map (fun k=>rpD ((qr (if k+1<cs.length then 0-tt cs (k+1) else 0-far),(-(jJa (slp cs m k) (vv cs k-slp cs m k*tt cs k)).1,(jJa (slp cs m k) (vv cs k-slp cs m k*tt cs k)).2)):RP)),?_,?_,?_,?_⟩
 ·rw[List.length_map,List.length_range,List.length_map,rl,bl,Nat.min_self]
 ·intro j x y hx hy
  have hj:j<cs.length:=by have:=(List.getElem?_eq_some_iff.mp hx).1;omega
  rw[bg' j hj] at hx
  rw[List.getElem?_map,jDV hj] at hy
  cases hx
  cases hy
  refine⟨by show 3≤1000;decide,by show 2≤1000;decide,?_⟩
  show((List.range cs.length).map _)[j]? = _
  rw[List.getElem?_map,List.getElem?_range hj]
  rfl
 ·rw[List.length_map,List.length_range];omega
 refine atR (jEv (ps:=jB5 cs m) (i:=0) 0 rfl (by omega)) ?_
 have e0:(jB5 cs m).getD 0 dfR=(qr (tt cs 0),jJa (slp cs m 0) (vv cs 0-slp cs m 0*tt cs 0)):=by
  rw[List.getD_eq_getElem?_getD,jDV n0]
  rfl
 rw[e0]
 refine⟨_,Or.inl rfl,rfl,?_⟩
 refine⟨by show 3≤1000;decide,by show 2≤1000;decide,by show 1≤1000;decide,?_⟩
 refine⟨by rw[List.length_reverse,List.length_map,List.length_range];show cs.length+1≤_;omega,?_⟩
 have eQ:(trR cs m far).map rpD=((List.range cs.length).map (fun k=>rpD ((qr (if k+1<cs.length then 0-tt cs (k+1) else 0-far),(-(jJa (slp cs m k) (vv cs k-slp cs m k*tt cs k)).1,(jJa (slp cs m k) (vv cs k-slp cs m k*tt cs k)).2)):RP))).reverse++[rpD ((0,1),(0,(jJa (slp cs m 0) (vv cs 0-slp cs m 0*tt cs 0)).2))]:=by
  unfold trR
  rw[List.map_append,List.map_reverse,List.map_map]
  rfl
 rw[eQ] at q
 exact q
variable (jFP:Cal P w K mg base (CXU P w) 4 "turned" ["pieces","far"] jH3)
theorem jEf:jAe ["pieces","begun"] ["pieces"] (jAc jCj):=scN
include jAK gc_NOUGHT jAy in
theorem jGE (F:Fun K "from_nought" "from_nought" jCj f fd){cA cT:Addr}(ht_:PySem.W.tabIn K "from_nought"=some (cA,cT)) (hn_:rA K "from_nought" f) (hp_:(PyProof.Rows.recsOf P).any (fun d=>d.name == "from_nought")=true):jAz P w K mg base CX0 6 f fd ["pieces"] (jAj K mg jEi):=by
 refine jR8 ht_ hn_ F jEf (fun ss R U h=>?_) (fun cdv A outer s H E ss R U ec hr h=>?_)
 ·obtain⟨ps,P,k,m,c,rfl,_⟩:=h;rfl
 subst ec
 obtain⟨ps,P,k,m,c,rfl,pl,hl,hm,c0,c1,b1,b2,q⟩:=h
 refine⟨_,(jAb (jAH 1 jEf (jFN (x:="piece") jAy (hr.mono (by decide)) rfl ht_ hp_ rfl (jAP.mk' (jAc jCj) ["pieces","begun"] rfl rfl (by decide +kernel) (N:=["piece"]) (idx:=[])) (vN 0) (fun cl nm a cdv A outer s H hr=>(jMW (jAA hr jAK (a2 (jKd rfl gc_NOUGHT) (jAd (vN 0) jAa)))))))
  (jBc (jKU jLM (jGh (a1 (jA8 (a2 (jKd rfl gc_NOUGHT) (jAd (jAd (vN 0) (jAi jC0 (vN 1) jAa)) jAa))))) (jQi (vN 0) (jIV (vN 1)) jRz)))),?_⟩
 have len:=pl.len
 have hw:∀i,i<ps.length→Wq m (ps.getD i dfR).1.1 (ps.getD i dfR).1.2 (bg P i):=fun i hi=>(pl.lnw (jAZ hi)).2.1
 refine⟨fun x=>∃i,i<ps.length∧x=rpD (ps.getD i dfR),fun x=>!decide (0<jMf x),?_,?_⟩
 ·rintro x ⟨i,hi,rfl⟩
  refine⟨_,_,_,_,0,bg P i,1,m,rfl,Wq.of Sz.zero,hw i hi,by decide,by omega,?_⟩
  show S.d (.bl (!decide (0<bg P i)))=.d (.bl (!decide (0<jMf (rpD (ps.getD i dfR)))))
  rw[jFn (hw i hi)]
 intro a
 refine⟨_,ps.map rpD,c,rfl,Or.inr (Or.inr rfl),by rw[List.length_map];omega,by rw[List.length_map];omega,fun i x hx=>?_,?_⟩
 ·have hi:i<ps.length:=by have:=(List.getElem?_eq_some_iff.mp hx).1;rw[List.length_map] at this;exact this
  rw[List.getElem?_map,jAZ hi] at hx
  cases hx
  refine⟨⟨i,hi,rfl⟩,?_⟩
  show(!decide (0<jMf (rpD (ps.getD i dfR))))=_
  rw[jFn (hw i hi)]
  by_cases z:i<c
  ·have:=b1 i z
   rw[decide_eq_true z,decide_eq_false (by grind)]
   rfl
  ·have:=b2 i (by omega) (by omega)
   rw[decide_eq_false z,decide_eq_true this]
   rfl
 refine atR (jEv (ps:=ps) (i:=(c:Int)-1) (c-1) (by omega) (by omega)) ?_
 refine⟨by show 2≤1000;decide,by show 1≤1000;decide,?_⟩
 have ec:jGP (ps.map rpD) (some (c:Int)) none=(ps.drop c).map rpD:=jQV (by omega)
 refine⟨by rw[ec,List.length_map,List.length_drop];show 1+_≤_;omega,?_⟩
 rw[ec]
 exact q
variable (jBF:Cal P w K mg base (CXU P w) 6 "from_nought" ["pieces"] jEi)
theorem jCu:jAe ["one_or_two","first","second"] ["one_or_two"] (jAc jCS):=scN
include jAK in
theorem jGj (F:Fun K "sooner_begin" "sooner_begin" jCS f fd):jAz P w K mg base CX0 2 f fd ["one_or_two"] (jAj K mg jDY):=by
 refine fn3 F jCu (fun ss R U h=>?_) (fun cdv A outer s H E ss R U hr h=>?_)
 ·obtain⟨xs,p,q,s,t,m,rfl,_⟩:=h;rfl
 obtain⟨xs,p,q0,s,t,m,rfl,n0,rfl,rfl,w1,w2,hm,q⟩:=h
 refine⟨_,(jAb (jAH 1 jCu (jAd (jAd (vN 0) jAa) jAa))
  (jAb (jAH 2 jCu (jAd (jAd (vN 0) (jEG jAa)) jAa))
  (jAb (jBN (jBk (jAA hr jAK (a2 (vN 2) (vN 1)))) (jAl (jDQ (pv 2))) jAr)
  (jAl (jDQ (pv 1)))))),?_⟩
 refine atR (jEv (ps:=xs) (i:=0) 0 rfl n0) ?_
 refine atR (jNo (ps:=xs) n0) ?_
 refine⟨_,_,_,_,t,s,m,m,rfl,w2,w1,by omega,by omega,?_⟩
 refine jBA (fun c=>?_) (fun c=>?_)
 ·rw[if_pos c] at q;exact q
 ·rw[if_neg c] at q;exact q
variable (jBX:Cal P w K mg base (CXU P w) 2 "sooner_begin" ["one_or_two"] jDY)
theorem jAN:jAe ["pieces","others","first","one","other","rows","begin"] ["pieces","others"] (jAc jB2):=scN
include jAK jAM jAy jBX in
theorem jF0 (F:Fun K "side_by_side" "side_by_side" jB2 f fd){cA cT:Addr}(ht_:PySem.W.tabIn K "side_by_side"=some (cA,cT)) (hn_:rA K "side_by_side" f) (hp_:(PyProof.Rows.recsOf P).any (fun d=>d.name == "side_by_side")=true):jAz P w K mg base CX0 6 f fd ["pieces","others"] (jAj K mg jDw):=by
 refine jR8 ht_ hn_ F jAN (fun ss R U h=>?_) (fun cdv A outer s H E ss R U ec hr h=>?_)
 ·obtain⟨y,ps,os,P,O,k,m,c,rfl,_⟩:=h;rfl
 subst ec
 obtain⟨y,ps,os,P,O,k,m,c,rfl,hy,pl,ol,o0,uP,uO,hm,hl,c0,c1,b1,b2,q⟩:=h
 refine⟨_,(jAb (jAH 2 jAN (jAd (jAd (vN 1) jAa) jAa))
  (jAb (jAH 3 jAN (jAi jC0 (jFN (x:="piece") jAy (hr.mono (by decide)) rfl ht_ hp_ rfl (jAP.mk' (jAc jB2) ["pieces","others","first","one","other","rows","begin"] rfl rfl (by decide +kernel) (N:=["piece","first"]) (idx:=[2])) (vN 0) (fun cl nm a cdv A outer s H hr=>(jMW (jAA hr jAK (a2 (vN 1) (jAd (vN 0) jAa)))))) jAa))
  (jAb (jAH 4 jAN jAa)
  (jAb (jAH 5 jAN (jGh (a1 (jA8 (jAO (vN 2) (a2 (jAd (jAd (vN 0) (vN 3)) jAa) (jAd (jAd (vN 1) (vN 4)) jAa)))))))
  (jAb (jHB PassesOwn.never (PW3.pt (jIS (jCf jHL (jAi jAR (vN 3) jAa) (jCR jAM (vN 0))) (jHz (jCf jHL (jAi jAR (vN 4) jAa) (jCR jAM (vN 1)))))) (jAb (jAH 6 jAN (jAA hr jBX (a1 (jKU jLM (jQi (vN 0) (jIV (jAi jAR (vN 3) jAa)) (jIV (jAi jAR (vN 3) jAa))) (jQi (vN 1) (jIV (jAi jAR (vN 4) jAa)) (jIV (jAi jAR (vN 4) jAa)))))))
  (jCx (jBN (PW3.pt (jJ1 (jCf jHL (jAi jAR (vN 3) jAa) (jCR jAM (vN 0))) (jGW (w_not (jBk (jAA hr jAK (a2 (vN 6) (jAd (jAd (vN 0) (jAi jAR (vN 3) jAa)) jAa)))))))) (jAl (jNJ (i:=3) jAN.nd rfl (Or.inl rfl) jAa)) jAr)
  (jCx (jBN (PW3.pt (jJ1 (jCf jHL (jAi jAR (vN 4) jAa) (jCR jAM (vN 1))) (jGW (w_not (jBk (jAA hr jAK (a2 (vN 6) (jAd (jAd (vN 1) (jAi jAR (vN 4) jAa)) jAa)))))))) (jAl (jNJ (i:=4) jAN.nd rfl (Or.inl rfl) jAa)) jAr)
  (jAl (jGD (jCc (jGF PySem.F.plainAttrs_list PySem.F.slot_list_append PySem.F.type_list_append jA7 (pv 5) (jA2 (PE3.out (jA8 (jAO (vN 6) (a2 (jAd (jAd (vN 0) (vN 3)) jAa) (jAd (jAd (vN 1) (vN 4)) jAa))))) jB9)))))))))
  (jAl (jDQ (pv 5)))))))),?_⟩
 have l1:=pl.len
 have l2:=ol.len
 have wP:∀i,i<ps.length→Wq m (ps.getD i dfR).1.1 (ps.getD i dfR).1.2 (bg P i):=fun i hi=>(pl.lnw (jAZ hi)).2.1
 have wO:∀i,i<os.length→Wq m (os.getD i dfR).1.1 (os.getD i dfR).1.2 (bg O i):=fun i hi=>(ol.lnw (jAZ hi)).2.1
 rcases hy with z|rfl
 ·exact z.elim
 refine atR (jEv (ps:=os) (i:=0) 0 rfl (by omega)) ?_
 refine⟨fun x=>∃i,i<ps.length∧x=rpD (ps.getD i dfR),fun x=>!decide (bg O 0<jMf x),?_,?_⟩
 ·rintro x ⟨i,hi,rfl⟩
  refine⟨_,_,_,_,bg O 0,bg P i,m,m,rfl,wO 0 (by omega),wP i hi,by omega,by omega,?_⟩
  show S.d (.bl (!decide (bg O 0<bg P i)))=.d (.bl (!decide (bg O 0<jMf (rpD (ps.getD i dfR)))))
  rw[jFn (wP i hi)]
 intro a
 refine⟨_,ps.map rpD,c,rfl,Or.inr (Or.inl rfl),by rw[List.length_map];omega,by rw[List.length_map];omega,fun i x hx=>?_,?_⟩
 ·have hi:i<ps.length:=by have:=(List.getElem?_eq_some_iff.mp hx).1;rw[List.length_map] at this;exact this
  rw[List.getElem?_map,jAZ hi] at hx
  cases hx
  refine⟨⟨i,hi,rfl⟩,?_⟩
  show(!decide (bg O 0<jMf (rpD (ps.getD i dfR))))=_
  rw[jFn (wP i hi)]
  by_cases z:i<c
  ·have:=b1 i z
   rw[decide_eq_true z,decide_eq_false (by grind)]
   rfl
  ·have:=b2 i (by omega) (by omega)
   rw[decide_eq_false z,decide_eq_true this]
   rfl
 have ec:((c:Int)-1)=((c-1:Nat):Int):=by omega
 refine atR (jEv (ps:=ps) (i:=(c:Int)-1) (c-1) ec (by omega)) ?_
 refine atR (jEv (ps:=os) (i:=0) 0 rfl (by omega)) ?_
 refine⟨by show 3≤1000;decide,by show 1≤1000;decide,?_⟩
 have s1:jLN P O m [((os.getD 0 dfR).1,c-1,0)]:=jLN.one (wO 0 (by omega)) (by omega) o0 (b1 _ (by omega)) (fun z=>b2 _ (by omega) z) (fun z=>uO 0 z)
 refine⟨fun mm τ=>∃(rw0:List R4)(i0 j0:Nat)(y6:Option S),τ=[some (.r (ps.map rpD)),some (.d (.lst (os.map rpD))),some (.d (tp (os.getD 0 dfR).1.1 (os.getD 0 dfR).1.2)),I (i0:Int),I (j0:Int),some (.l (rw0.map (jM5 ps os))),y6]∧jLN P O m rw0∧iF' rw0 (rw0.length-1)=i0∧jF rw0 (rw0.length-1)=j0∧mm=(P.length-i0)+(O.length-j0),⟨_,[((os.getD 0 dfR).1,c-1,0)],c-1,0,none,by rw[←ec];rfl,s1,rfl,rfl,rfl⟩,?_⟩
 rintro mm τ ⟨rw0,i0,j0,y6,rfl,sb,ei0,ej0,rfl⟩
 have hi0:i0<P.length:=by rw[←ei0];exact sb.iP _ (by have:=sb.n0;omega)
 have hj0:j0<O.length:=by rw[←ej0];exact sb.jO _ (by have:=sb.n0;omega)
 refine jBA (fun c1=>?_) (fun c1=>jBA (fun c2=>?_) (fun c2=>?_))
 ·rw[List.length_map] at c1
  have hc:i0+1<P.length∨j0+1<O.length:=.inl (by omega)
  obtain⟨p,q0,s,t,x,tm,x0,hp,hq,w1,w2,et,wx,x1,x2,x3⟩:=jSH pl ol (i:=i0) (j:=j0) hc
  refine⟨by rw[jDH (xs:=ps) (j:=i0) (by omega) (by omega),jDH (xs:=os) (j:=j0) (by omega) (by omega),List.length_map,List.length_map,List.length_take,List.length_take];omega,?_⟩
  refine⟨(ps.drop (i0+1)).take 1++(os.drop (j0+1)).take 1,p,q0,s,t,m,by rw[jDH (xs:=ps) (j:=i0) (by omega) (by omega),jDH (xs:=os) (j:=j0) (by omega) (by omega),←List.map_append];rfl,x0,hp,hq,w1,w2,hm,?_⟩
  rw[et]
  obtain⟨i',ei'⟩:∃i',i'=if i0+1<P.length∧¬x<bg P (i0+1) then i0+1 else i0:=⟨_,rfl⟩
  obtain⟨j',ej'⟩:∃j',j'=if j0+1<O.length∧¬x<bg O (j0+1) then j0+1 else j0:=⟨_,rfl⟩
  refine⟨fun τ=>τ=[some (.r (ps.map rpD)),some (.d (.lst (os.map rpD))),some (.d (tp (os.getD 0 dfR).1.1 (os.getD 0 dfR).1.2)),I (i':Int),I (j0:Int),some (.l (rw0.map (jM5 ps os))),some (.d (tp tm.1 tm.2))],?_,?_⟩
  ·refine jBA (fun c1=>?_) (fun c1=>iF ?_)
   ·rw[List.length_map] at c1
    refine atR (jEv (ps:=ps) (i0+1) (by omega) (by omega)) ?_
    refine⟨_,_,_,_,x,bg P (i0+1),m,m,rfl,wx,(pl.lnw (jAZ (show i0+1<ps.length by omega))).2.1,by omega,by omega,?_⟩
    refine jJi (fun c2=>?_) (fun c2=>?_)
    ·rw[if_pos ⟨by omega,c2⟩] at ei'
     rw[ei']
     rfl
    ·rw[if_neg (fun z=>z.2 c2)] at ei'
     rw[ei']
     rfl
   ·rw[List.length_map] at c1
    rw[if_neg (fun z=>c1 (by omega))] at ei'
    rw[ei']
    rfl
  rintro τ rfl
  refine⟨fun τ=>τ=[some (.r (ps.map rpD)),some (.d (.lst (os.map rpD))),some (.d (tp (os.getD 0 dfR).1.1 (os.getD 0 dfR).1.2)),I (i':Int),I (j':Int),some (.l (rw0.map (jM5 ps os))),some (.d (tp tm.1 tm.2))],?_,?_⟩
  ·refine jBA (fun c1=>?_) (fun c1=>iF ?_)
   ·rw[List.length_map] at c1
    refine atR (jEv (ps:=os) (j0+1) (by omega) (by omega)) ?_
    refine⟨_,_,_,_,x,bg O (j0+1),m,m,rfl,wx,(ol.lnw (jAZ (show j0+1<os.length by omega))).2.1,by omega,by omega,?_⟩
    refine jJi (fun c2=>?_) (fun c2=>?_)
    ·rw[if_pos ⟨by omega,c2⟩] at ej'
     rw[ej']
     rfl
    ·rw[if_neg (fun z=>z.2 c2)] at ej'
     rw[ej']
     rfl
   ·rw[List.length_map] at c1
    rw[if_neg (fun z=>c1 (by omega))] at ej'
    rw[ej']
    rfl
  rintro τ rfl
  have st:=sb.step uP uO (tm:=tm) (x:=x) (i':=i') (j':=j') wx (by rw[ei0];exact x1) (by rw[ej0];exact x2) (by rw[ei0,ej0];exact x3) (by rw[ei0];exact ei') (by rw[ej0];exact ej')
  have hl':(rw0++[(tm,i',j')]).length-1=rw0.length:=by simp
  have ii:=jRZ (rw:=rw0) (r:=(tm,i',j'))
  have iP':=st.iP rw0.length (by simp)
  have jO':=st.jO rw0.length (by simp)
  rw[ii.2.1] at iP'
  rw[ii.2.2.1] at jO'
  have iP':i'<P.length:=iP'
  have jO':j'<O.length:=jO'
  have st':=st.cnt
  rw[hl',ii.2.1,ii.2.2.1] at st'
  have st':(rw0++[(tm,i',j')]).length+iF' (rw0++[(tm,i',j')]) 0≤i'+j'+1+iF' (rw0++[(tm,i',j')]) 0:=st'
  have dec:i0+j0<i'+j':=by
   rcases x3 with⟨z1,z2⟩|⟨z1,z2⟩
   ·rw[if_pos ⟨z1,by rw[z2];exact Rat.lt_irrefl⟩] at ei'
    split at ej'<;>omega
   ·rw[if_pos ⟨z1,by rw[z2];exact Rat.lt_irrefl⟩] at ej'
    split at ei'<;>omega
  refine atR (jEv (ps:=ps) i' rfl (by omega)) ?_
  refine atR (jEv (ps:=os) j' rfl (by omega)) ?_
  rw[List.length_append] at st'
  have st':rw0.length+1+iF' (rw0++[(tm,i',j')]) 0≤i'+j'+1+iF' (rw0++[(tm,i',j')]) 0:=st'
  refine⟨by show 3≤1000;decide,by rw[List.length_map];omega,?_⟩
  refine⟨(P.length-i')+(O.length-j'),by omega,rw0++[(tm,i',j')],i',j',_,by rw[List.map_append];rfl,st,by rw[hl'];exact ii.2.1,by rw[hl'];exact ii.2.2.1,rfl⟩
 ·rw[List.length_map] at c2
  have hc:i0+1<P.length∨j0+1<O.length:=.inr (by omega)
  obtain⟨p,q0,s,t,x,tm,x0,hp,hq,w1,w2,et,wx,x1,x2,x3⟩:=jSH pl ol (i:=i0) (j:=j0) hc
  refine⟨by rw[jDH (xs:=ps) (j:=i0) (by omega) (by omega),jDH (xs:=os) (j:=j0) (by omega) (by omega),List.length_map,List.length_map,List.length_take,List.length_take];omega,?_⟩
  refine⟨(ps.drop (i0+1)).take 1++(os.drop (j0+1)).take 1,p,q0,s,t,m,by rw[jDH (xs:=ps) (j:=i0) (by omega) (by omega),jDH (xs:=os) (j:=j0) (by omega) (by omega),←List.map_append];rfl,x0,hp,hq,w1,w2,hm,?_⟩
  rw[et]
  obtain⟨i',ei'⟩:∃i',i'=if i0+1<P.length∧¬x<bg P (i0+1) then i0+1 else i0:=⟨_,rfl⟩
  obtain⟨j',ej'⟩:∃j',j'=if j0+1<O.length∧¬x<bg O (j0+1) then j0+1 else j0:=⟨_,rfl⟩
  refine⟨fun τ=>τ=[some (.r (ps.map rpD)),some (.d (.lst (os.map rpD))),some (.d (tp (os.getD 0 dfR).1.1 (os.getD 0 dfR).1.2)),I (i':Int),I (j0:Int),some (.l (rw0.map (jM5 ps os))),some (.d (tp tm.1 tm.2))],?_,?_⟩
  ·refine jBA (fun c1=>?_) (fun c1=>iF ?_)
   ·rw[List.length_map] at c1
    refine atR (jEv (ps:=ps) (i0+1) (by omega) (by omega)) ?_
    refine⟨_,_,_,_,x,bg P (i0+1),m,m,rfl,wx,(pl.lnw (jAZ (show i0+1<ps.length by omega))).2.1,by omega,by omega,?_⟩
    refine jJi (fun c2=>?_) (fun c2=>?_)
    ·rw[if_pos ⟨by omega,c2⟩] at ei'
     rw[ei']
     rfl
    ·rw[if_neg (fun z=>z.2 c2)] at ei'
     rw[ei']
     rfl
   ·rw[List.length_map] at c1
    rw[if_neg (fun z=>c1 (by omega))] at ei'
    rw[ei']
    rfl
  rintro τ rfl
  refine⟨fun τ=>τ=[some (.r (ps.map rpD)),some (.d (.lst (os.map rpD))),some (.d (tp (os.getD 0 dfR).1.1 (os.getD 0 dfR).1.2)),I (i':Int),I (j':Int),some (.l (rw0.map (jM5 ps os))),some (.d (tp tm.1 tm.2))],?_,?_⟩
  ·refine jBA (fun c1=>?_) (fun c1=>iF ?_)
   ·rw[List.length_map] at c1
    refine atR (jEv (ps:=os) (j0+1) (by omega) (by omega)) ?_
    refine⟨_,_,_,_,x,bg O (j0+1),m,m,rfl,wx,(ol.lnw (jAZ (show j0+1<os.length by omega))).2.1,by omega,by omega,?_⟩
    refine jJi (fun c2=>?_) (fun c2=>?_)
    ·rw[if_pos ⟨by omega,c2⟩] at ej'
     rw[ej']
     rfl
    ·rw[if_neg (fun z=>z.2 c2)] at ej'
     rw[ej']
     rfl
   ·rw[List.length_map] at c1
    rw[if_neg (fun z=>c1 (by omega))] at ej'
    rw[ej']
    rfl
  rintro τ rfl
  have st:=sb.step uP uO (tm:=tm) (x:=x) (i':=i') (j':=j') wx (by rw[ei0];exact x1) (by rw[ej0];exact x2) (by rw[ei0,ej0];exact x3) (by rw[ei0];exact ei') (by rw[ej0];exact ej')
  have hl':(rw0++[(tm,i',j')]).length-1=rw0.length:=by simp
  have ii:=jRZ (rw:=rw0) (r:=(tm,i',j'))
  have iP':=st.iP rw0.length (by simp)
  have jO':=st.jO rw0.length (by simp)
  rw[ii.2.1] at iP'
  rw[ii.2.2.1] at jO'
  have iP':i'<P.length:=iP'
  have jO':j'<O.length:=jO'
  have st':=st.cnt
  rw[hl',ii.2.1,ii.2.2.1] at st'
  have st':(rw0++[(tm,i',j')]).length+iF' (rw0++[(tm,i',j')]) 0≤i'+j'+1+iF' (rw0++[(tm,i',j')]) 0:=st'
  have dec:i0+j0<i'+j':=by
   rcases x3 with⟨z1,z2⟩|⟨z1,z2⟩
   ·rw[if_pos ⟨z1,by rw[z2];exact Rat.lt_irrefl⟩] at ei'
    split at ej'<;>omega
   ·rw[if_pos ⟨z1,by rw[z2];exact Rat.lt_irrefl⟩] at ej'
    split at ei'<;>omega
  refine atR (jEv (ps:=ps) i' rfl (by omega)) ?_
  refine atR (jEv (ps:=os) j' rfl (by omega)) ?_
  rw[List.length_append] at st'
  have st':rw0.length+1+iF' (rw0++[(tm,i',j')]) 0≤i'+j'+1+iF' (rw0++[(tm,i',j')]) 0:=st'
  refine⟨by show 3≤1000;decide,by rw[List.length_map];omega,?_⟩
  refine⟨(P.length-i')+(O.length-j'),by omega,rw0++[(tm,i',j')],i',j',_,by rw[List.map_append];rfl,st,by rw[hl'];exact ii.2.1,by rw[hl'];exact ii.2.2.1,rfl⟩
 ·rw[List.length_map] at c1 c2
  exact q rw0 sb (by rw[ei0];omega) (by rw[ej0];omega)
variable (jB1:Cal P w K mg base (CXU P w) 6 "side_by_side" ["pieces","others"] jDw)
theorem jO2:jAe ["number"] ["number"] (jAc jLw):=scN
theorem jOV (F:Fun K "sign" "sign" jLw f fd):jAz P w K mg base CX0 1 f fd ["number"] (jAj K mg jLi):=by
 refine fn3 F jO2 (fun ss R U h=>?_) (fun cdv A outer s H E ss R U hr h=>?_)
 ·obtain⟨a,rfl,_⟩:=h;rfl
 obtain⟨a,rfl,q⟩:=h
 refine⟨_,(jAb (jBN (jCf jHL (vN 0) jAa) (jBc (jEG jAa)) jAr)
  (jAb (jBN (jCf jQc (vN 0) jAa) (jBc jAa) jAr)
  (jBc jAa))),?_⟩
 refine jBA (fun c=>?_) (fun c=>?_)
 ·rw[Int.sign_eq_neg_one_of_neg c] at q
  exact q
 refine jBA (fun c2=>?_) (fun c2=>?_)
 ·rw[Int.sign_eq_one_of_pos c2] at q
  exact q
 ·have:a=0:=by omega
  subst this
  exact q
variable (jGk:Cal P w K mg base (CXU P w) 1 "sign" ["number"] jLi)
theorem jOM:jAe ["one","other","t"] ["one","other","t"] (jAc jLc):=scN
include jGk in
theorem jPb (F:Fun K "side" "side" jLc f fd):jAz P w K mg base CX0 2 f fd ["one","other","t"] (jAj K mg jLW):=by
 refine fn3 F jOM (fun ss R U h=>?_) (fun cdv A outer s H E ss R U hr h=>?_)
 ·obtain⟨l1,l2,tn,td,q1,q2,t,k,m,rfl,_⟩:=h;rfl
 obtain⟨l1,l2,tn,td,q1,q2,t,k,m,rfl,h1,h2,w,hk,hm,q⟩:=h
 refine⟨_,(jBc (jAA hr jGk (a1 (jAi jC0 (jAi jAv (jAi jAR (jAi jAv (jAd (vN 0) jAa) (jAd (vN 2) jAa)) (jAi jAv (jAd (vN 0) jAa) (jAd (vN 2) jAa))) (jAd (vN 1) jAa)) (jAi jAv (jAi jAR (jAi jAv (jAd (vN 1) jAa) (jAd (vN 2) jAa)) (jAi jAv (jAd (vN 1) jAa) (jAd (vN 2) jAa))) (jAd (vN 0) jAa)))))),?_⟩
 have a1:=jEX (jAh h1.s.la w.la) (jAh h1.c.la w.lb)
 have a2:=jEX (jAh h2.s.la w.la) (jAh h2.c.la w.lb)
 refine⟨jAt h1.s.la w.la (by omega),jAt h1.c.la w.lb (by omega),jAt a1 h2.s.lb (by omega),jAt h2.s.la w.la (by omega),jAt h2.c.la w.lb (by omega),jAt a2 h1.s.lb (by omega),_,rfl,?_⟩
 rw[jOx h1 h2 w]
 exact q
variable (jJF:Cal P w K mg base (CXU P w) 2 "side" ["one","other","t"] jLW)
theorem jPv:jAe ["one","other"] ["one","other"] (jAc jLU):=scN
include jGk in
theorem jN6 (F:Fun K "lean" "lean" jLU f fd):jAz P w K mg base CX0 2 f fd ["one","other"] (jAj K mg jKP):=by
 refine fn3 F jPv (fun ss R U h=>?_) (fun cdv A outer s H E ss R U hr h=>?_)
 ·obtain⟨l1,l2,q1,q2,k,rfl,_⟩:=h;rfl
 obtain⟨l1,l2,q1,q2,k,rfl,h1,h2,hk,q⟩:=h
 refine⟨_,(jBc (jAA hr jGk (a1 (jAi jC0 (jAi jAv (jAd (vN 0) jAa) (jAd (vN 1) jAa)) (jAi jAv (jAd (vN 1) jAa) (jAd (vN 0) jAa)))))),?_⟩
 refine⟨jAt h1.s.la h2.s.lb (by omega),jAt h2.s.la h1.s.lb (by omega),_,rfl,?_⟩
 rw[jOu h1 h2]
 exact q
variable (jJd:Cal P w K mg base (CXU P w) 2 "lean" ["one","other"] jKP)
theorem jHZ:jAe ["told","begin","line"] ["told","begin","line"] (jAc jEp):=scN
theorem jIt (F:Fun K "add_piece" "add_piece" jEp f fd):jAz P w K mg base CX0 1 f fd ["told","begin","line"] (jKh K jCJ):=by
 refine fnM F jHZ (fun xs ds R h=>?_) (fun cdv A outer s H E a xs ds R hr h=>?_)
 ·obtain⟨ps,p,rfl,rfl,_⟩:=h;rfl
 obtain⟨ps,p,rfl,rfl,hl,q⟩:=h
 refine⟨_,(jAl (jBN (PW3.pt (jIS (w_not (jRv (pv 0))) (jHz (jCf (jOY 1 (hu_ hr (by decide))) (jAd (jAd (vN 0) (jEG jAa)) jAa) (vN 2))))) (jAl (jGD (jCc (jGF PySem.F.plainAttrs_list PySem.F.slot_list_append PySem.F.type_list_append jA7 (pv 0) (jA2 (PE3.out (jA8 (a2 (vN 1) (vN 2)))) jB9))))) jAr)),?_⟩
 rcases Nat.eq_zero_or_pos ps.length with z|z
 ·have z:=List.eq_nil_of_length_eq_zero z
  subst z
  exact⟨by show 2≤1000;decide,by decide,_,rfl,q _ (Or.inl ⟨rfl,fun q' h=>by cases h⟩)⟩
 have hg:ps[ps.length-1]? = some (ps[ps.length-1]'(by omega)):=List.getElem?_eq_getElem _
 have e:(List.map rpD ps).isEmpty=false:=by
  cases ps with
  |nil=>cases z
  |cons _ _=>rfl
 refine iF ?_ (congrArg (fun b=>!(!b)) e)
 refine atR (jHq hg) ?_
 refine⟨rfl,rfl,?_⟩
 refine jTe (fun c=>?_) (fun c=>?_)
 ·have:=q _ (Or.inl ⟨rfl,fun q' h=>by rw[hg] at h;cases h;exact c⟩)
  rw[List.map_append] at this
  exact⟨by show 2≤1000;decide,by rw[List.length_map];omega,_,rfl,this⟩
 ·exact⟨_,rfl,q _ (Or.inr ⟨rfl,_,hg,c⟩)⟩
variable (jBu:jRg P w K mg base 1 "add_piece" ["told","begin","line"] jCJ)
theorem jIK:jAe ["one","other"] ["one","other"] (jAc jFg):=scN
include jAW in
theorem jIH (F:Fun K "crossing" "crossing" jFg f fd):jAz P w K mg base CX0 3 f fd ["one","other"] (jAj K mg jGi):=by
 refine fn3 F jIK (fun ss R U h=>?_) (fun cdv A outer s H E ss R U hr h=>?_)
 ·obtain⟨l1,l2,q1,q2,k,rfl,_⟩:=h;rfl
 obtain⟨l1,l2,q1,q2,k,rfl,h1,h2,hk,ne,q⟩:=h
 refine⟨_,(jBc (jAA hr jAW (a2 (jAi jC0 (jAi jAv (jAd (vN 1) jAa) (jAd (vN 0) jAa)) (jAi jAv (jAd (vN 0) jAa) (jAd (vN 1) jAa))) (jAi jC0 (jAi jAv (jAd (vN 0) jAa) (jAd (vN 1) jAa)) (jAi jAv (jAd (vN 1) jAa) (jAd (vN 0) jAa)))))),?_⟩
 obtain⟨n,e⟩:=jJs h1 h2 ne
 refine⟨jAt h2.c.la h1.s.lb (by omega),jAt h1.c.la h2.s.lb (by omega),jAt h1.s.la h2.s.lb (by omega),jAt h2.s.la h1.s.lb (by omega),_,_,rfl,n,jAw (jCF (jAh h2.c.la h1.s.lb) (jAh h1.c.la h2.s.lb)) (by omega),jAw (jCF (jAh h1.s.la h2.s.lb) (jAh h2.s.la h1.s.lb)) (by omega),?_⟩
 rw[e]
 exact q
variable (jCV:Cal P w K mg base (CXU P w) 3 "crossing" ["one","other"] jGi)
theorem jDS:jAe ["told","row","now","then","one","other"] ["told","row","now","then"] (jAc jEC):=scN
include jBu jCV in
theorem jHP (F:Fun K "add_lower" "add_lower" jEC f fd):jAz P w K mg base CX0 4 f fd ["told","row","now","then"] (jKh K jFt):=by
 refine fnM F jDS (fun xs ds R h=>?_) (fun cdv A outer s H E a xs ds R hr h=>?_)
 ·obtain⟨ps,tm,l1,l2,now,thn,q1,q2,k,rfl,rfl,_⟩:=h;rfl
 obtain⟨ps,tm,l1,l2,now,thn,q1,q2,k,rfl,rfl,h1,h2,hk,hx,hl,q⟩:=h
 refine⟨_,(jAb (jAH 4 jDS (jAd (vN 1) jAa))
  (jAb (jAH 5 jDS (jAd (vN 1) jAa))
  (jCx (jBN (PW3.pt (jIS (jCf jHL (vN 2) jAa) (jHz (PW3.pt (jJ1 (jCf jHn (vN 2) jAa) (jGW (jCf jHL (vN 3) jAa))))))) (jAl (jGw jBu (hr.mono (by decide)) rfl (pv 0) (a2 (jAd (vN 1) jAa) (vN 4)))) (jAl (jGw jBu (hr.mono (by decide)) rfl (pv 0) (a2 (jAd (vN 1) jAa) (vN 5)))))
  (jCx (jBN (PW3.pt (jJ1 (jCf jHL (vN 2) jAa) (jGW (jCf jQc (vN 3) jAa)))) (jAl (jGw jBu (hr.mono (by decide)) rfl (pv 0) (a2 (jAA hr jCV (a2 (vN 4) (vN 5))) (vN 5)))) jAr)
  (jAl (jBN (PW3.pt (jJ1 (jCf jQc (vN 2) jAa) (jGW (jCf jHL (vN 3) jAa)))) (jAl (jGw jBu (hr.mono (by decide)) rfl (pv 0) (a2 (jAA hr jCV (a2 (vN 4) (vN 5))) (vN 4)))) jAr)))))),?_⟩
 refine⟨fun τ=>∃ps1:List RP,τ=[some (.l (ps1.map rpD)),some (.d (.tup [.tup [.int tm.1,.int tm.2],lnD l1,lnD l2])),I now,I thn,some (.d (lnD l1)),some (.d (lnD l2))]∧(if now<0∨(now=0∧thn<0) then jIv ps (tm,l1) ps1 else jIv ps (tm,l2) ps1),?_,?_⟩
 ·have one:(now<0∨(now=0∧thn<0))→jCJ (ps.map rpD) [.tup [.int tm.1,.int tm.2],lnD l1] fun ys=>∃ps1:List RP,[some (.l ys),some (.d (.tup [.tup [.int tm.1,.int tm.2],lnD l1,lnD l2])),I now,I thn,some (.d (lnD l1)),some (.d (lnD l2))]=[some (.l (ps1.map rpD)),some (.d (.tup [.tup [.int tm.1,.int tm.2],lnD l1,lnD l2])),I now,I thn,some (.d (lnD l1)),some (.d (lnD l2))]∧(if now<0∨(now=0∧thn<0) then jIv ps (tm,l1) ps1 else jIv ps (tm,l2) ps1):=fun c=>⟨ps,(tm,l1),rfl,rfl,by omega,fun ps' a=>⟨ps',rfl,by rw[if_pos c];exact a⟩⟩
  have two:¬(now<0∨(now=0∧thn<0))→jCJ (ps.map rpD) [.tup [.int tm.1,.int tm.2],lnD l2] fun ys=>∃ps1:List RP,[some (.l ys),some (.d (.tup [.tup [.int tm.1,.int tm.2],lnD l1,lnD l2])),I now,I thn,some (.d (lnD l1)),some (.d (lnD l2))]=[some (.l (ps1.map rpD)),some (.d (.tup [.tup [.int tm.1,.int tm.2],lnD l1,lnD l2])),I now,I thn,some (.d (lnD l1)),some (.d (lnD l2))]∧(if now<0∨(now=0∧thn<0) then jIv ps (tm,l1) ps1 else jIv ps (tm,l2) ps1):=fun c=>⟨ps,(tm,l2),rfl,rfl,by omega,fun ps' a=>⟨ps',rfl,by rw[if_neg c];exact a⟩⟩
  refine jBA (fun c=>one (.inl c)) (fun c=>?_)
  refine jBA (fun c2=>?_) (fun c2=>two (fun z=>z.elim c fun z=>c2 z.1))
  exact jBA (fun c3=>one (.inr ⟨c2,c3⟩)) (fun c3=>two (fun z=>z.elim c fun z=>c3 z.2))
 rintro τ ⟨ps1,rfl,a1⟩
 have hl1:ps1.length≤ps.length+1:=by split at a1<;>exact a1.len
 refine⟨fun τ=>∃ps2:List RP,τ=[some (.l (ps2.map rpD)),some (.d (.tup [.tup [.int tm.1,.int tm.2],lnD l1,lnD l2])),I now,I thn,some (.d (lnD l1)),some (.d (lnD l2))]∧(if now<0∧0<thn then jIv ps1 (((xg q1 q2).num,((xg q1 q2).den:Int)),l2) ps2 else ps2=ps1),?_,?_⟩
 ·refine jBA (fun c=>?_) (fun c=>⟨ps1,rfl,by rw[if_neg (fun z=>c z.1)]⟩)
  refine jBA (fun c2=>?_) (fun c2=>⟨ps1,rfl,by rw[if_neg (fun z=>c2 z.2)]⟩)
  refine⟨l1,l2,q1,q2,k,rfl,h1,h2,hk,hx (.inl ⟨c,c2⟩),?_⟩
  exact⟨ps1,(((xg q1 q2).num,((xg q1 q2).den:Int)),l2),rfl,rfl,by omega,fun ps' a=>⟨ps',rfl,by rw[if_pos ⟨c,c2⟩];exact a⟩⟩
 rintro τ ⟨ps2,rfl,a2⟩
 have hl2:ps2.length≤ps1.length+1:=by
  split at a2
  ·exact a2.len
  ·rw[a2];omega
 have fin:∀ps',(if 0<now∧thn<0 then jIv ps2 (((xg q1 q2).num,((xg q1 q2).den:Int)),l1) ps' else ps'=ps2)→jNb ps tm l1 l2 now thn (xg q1 q2) ps':=fun ps' a=>by
  refine⟨ps1,a1,?_⟩
  by_cases c:now<0∧0<thn
  ·rw[if_pos c] at a2 ⊢
   rw[if_neg (by omega)] at a
   rw[a]
   exact a2
  ·rw[if_neg c] at a2 ⊢
   rw[←a2]
   exact a
 refine jBA (fun c=>?_) (fun c=>⟨_,rfl,q _ (fin _ (by rw[if_neg (fun z=>c z.1)]))⟩)
 refine jBA (fun c2=>?_) (fun c2=>⟨_,rfl,q _ (fin _ (by rw[if_neg (fun z=>c2 z.2)]))⟩)
 refine⟨l1,l2,q1,q2,k,rfl,h1,h2,hk,hx (.inr ⟨c,c2⟩),?_⟩
 exact⟨ps2,(((xg q1 q2).num,((xg q1 q2).den:Int)),l1),rfl,rfl,by omega,fun ps' a=>⟨_,rfl,q _ (fin _ (by rw[if_pos ⟨c,c2⟩];exact a))⟩⟩
variable (jDb:jRg P w K mg base 4 "add_lower" ["told","row","now","then"] jFt)
theorem jBS:jAe ["pieces","others","begin","told","rows","sides","number","row"] ["pieces","others"] (jAc jDI):=scN
variable (jDj:mg "enumerate"=none)
include jAK jAy jB1 jJF jJd jDb jDj in
theorem jKj (F:Fun K "lowered" "lowered" jDI f fd){cA cT:Addr}(ht_:PySem.W.tabIn K "lowered"=some (cA,cT)) (hn_:rA K "lowered" f) (hp_:(PyProof.Rows.recsOf P).any (fun d=>d.name == "lowered")=true):jAz P w K mg base CX0 7 f fd ["pieces","others"] (jAj K mg jG2):=by
 refine jR8 ht_ hn_ F jBS (fun ss R U h=>?_) (fun cdv A outer s H E ss R U ec hr h=>?_)
 ·obtain⟨y,ps,os,P,O,B,S0,G,V,k,m,h,g,rfl,_⟩:=h;rfl
 subst ec
 obtain⟨y,ps,os,P,O,B,S0,G,V,k,m,h,g,rfl,hy,⟨rP,p0,ol,pO,o0,sO,gO,ux,hkm,hm,hb,hj,hl,hn0⟩,q⟩:=h
 refine⟨_,(jAb (jAH 2 jBS (jAd (jAd (vN 1) jAa) jAa))
  (jAb (jAH 3 jBS (jQi (vN 0) jRz (jIV (jFN (x:="piece") jAy (hr.mono (by decide)) rfl ht_ hp_ rfl (jAP.mk' (jAc jDI) ["pieces","others","begin","told","rows","sides","number","row"] rfl rfl (by decide +kernel) (N:=["piece","begin"]) (idx:=[2])) (vN 0) (fun cl nm a cdv A outer s H hr=>(jAA hr jAK (a2 (jAd (vN 0) jAa) (vN 1))))))))
  (jAb (jAH 4 jBS (jAA hr jB1 (a2 (vN 0) (vN 1))))
  (jAb (jIb (i:=5) (N:=["row"]) (idx:=[]) (jAP.mk' (jAc jDI) ["pieces","others","begin","told","rows","sides","number","row"] rfl rfl (by decide +kernel)) rfl (jB7 (PE3.out (vN 4))) jCt (fun cl C s₀ H₀ fp=>jBL) (fun cl C s₀ H₀ fp=>(jAA hr jJF (jAO (jAd (vN 0) jAa) (a2 (jAd (vN 0) jAa) (jAd (vN 0) jAa))))) jBS.nd rfl (Or.inl rfl))
  (jAb (jGD (jCc (jGF PySem.F.plainAttrs_list PySem.F.slot_list_append PySem.F.type_list_append jA7 (pv 5) (jA2 (PE3.out (jAA hr jJd (a2 (jAd (jAd (vN 4) (jEG jAa)) jAa) (jAd (jAd (vN 4) (jEG jAa)) jAa)))) jB9))))
  (jAb (jQF (jC2 PassesOwn.never rfl (jOm rfl jDj (pv 4)) (jNC rfl (jFT (jBn (i:=6) jBS.nd rfl (Or.inl rfl)) (jFT (jBn (i:=7) jBS.nd rfl (Or.inl rfl)) jLt))) (jDx.out (jAl (jGw jDb (hr.mono (by decide)) rfl (pv 3) (jAO (vN 7) (a2 (jAd (vN 5) (vN 6)) (jAd (vN 5) (jAi jAR (vN 6) jAa)))))))))
  (jAl (jDQ (pv 3))))))))),?_⟩
 have pl:=rP.pl
 have pP:=rP.pu
 have uP:=pP.up
 have uO:=pO.up
 have l1:=pl.len
 have l2:=ol.len
 have wP:∀i,i<ps.length→Wq m (ps.getD i dfR).1.1 (ps.getD i dfR).1.2 (bg P i):=fun i hi=>(pl.lnw (jAZ hi)).2.1
 have wO:∀i,i<os.length→Wq m (os.getD i dfR).1.1 (os.getD i dfR).1.2 (bg O i):=fun i hi=>(ol.lnw (jAZ hi)).2.1
 obtain⟨c,cA0,cA1,cA2⟩:=jNs uP (bg O 0)
 obtain⟨d,d1,dB1,dB2⟩:=jK3 uP (bg O 0)
 have cA3:c<P.length→bg O 0≤bg P c:=fun z=>cA2 c (Nat.le_refl _) z
 have d0:0<d:=by
  rcases Nat.eq_zero_or_pos d with z|z
  ·have:=dB2 0 (by omega) p0;grind
  ·exact z
 have hj0:0<c→h (bg O 0)≤g (bg O 0):=fun z=>hj (cA1 0 z)
 rcases hy with z|rfl
 ·exact z.elim
 refine atR (jEv (ps:=os) (i:=0) 0 rfl (by omega)) ?_
 refine⟨fun x=>∃i,i<ps.length∧x=rpD (ps.getD i dfR),fun x=>decide (jMf x<bg O 0),?_,?_⟩
 ·rintro x ⟨i,hi,rfl⟩
  refine⟨_,_,_,_,bg P i,bg O 0,m,m,rfl,wP i hi,wO 0 (by omega),by omega,by omega,?_⟩
  show S.d (.bl (decide (bg P i<bg O 0)))=.d (.bl (decide (jMf (rpD (ps.getD i dfR))<bg O 0)))
  rw[jFn (wP i hi)]
 intro a
 refine⟨_,ps.map rpD,c,rfl,Or.inr (Or.inl rfl),by rw[List.length_map];omega,by rw[List.length_map];omega,fun i x hx=>?_,?_⟩
 ·have hi:i<ps.length:=by have:=(List.getElem?_eq_some_iff.mp hx).1;rw[List.length_map] at this;exact this
  rw[List.getElem?_map,jAZ hi] at hx
  cases hx
  refine⟨⟨i,hi,rfl⟩,?_⟩
  show decide (jMf (rpD (ps.getD i dfR))<bg O 0)=_
  rw[jFn (wP i hi)]
  refine decide_eq_decide.mpr ⟨fun z=>?_,fun z=>cA1 i z⟩
  by_cases y:i<c
  ·exact y
  ·have:=cA2 i (by omega) (by omega);grind
 have ec:jGP (ps.map rpD) none (some (c:Int))=(ps.take c).map rpD:=jRF (by omega)
 refine⟨_,ps,os,P,O,k,m,d,rfl,Or.inr rfl,pl,ol,o0,uP,uO,by omega,by omega,d0,d1,dB1,dB2,fun rw0 sb e1 e2=>?_⟩
 have sA:=sb.all e1 e2
 have nw:=sb.n0
 have cn:=sb.cnt
 have iL:=sb.iP (rw0.length-1) (by omega)
 have jL:=sb.jO (rw0.length-1) (by omega)
 have lw1:∀n,n<rw0.length→LW k (ps.getD (iF' rw0 n) dfR).2 (ln P (iF' rw0 n)):=fun n hn=>(pl.lnw (jAZ (by have:=sb.iP n hn;omega))).1
 have lw2:∀n,n<rw0.length→LW k (os.getD (jF rw0 n) dfR).2 (ln O (jF rw0 n)):=fun n hn=>(ol.lnw (jAZ (by have:=sb.jO n hn;omega))).1
 refine⟨(List.range rw0.length).map fun n=>some (D.int (sg (ev (ln P (iF' rw0 n)) (aF rw0 n)-ev (ln O (jF rw0 n)) (aF rw0 n)))),?_,?_,?_,?_⟩
 ·rw[List.length_map,List.length_map,List.length_range]
 ·intro n x hx
  have hn:n<rw0.length:=by have:=(List.getElem?_eq_some_iff.mp hx).1;rw[List.length_map] at this;exact this
  rw[List.getElem?_map,jPx hn] at hx
  cases hx
  refine⟨_,_,_,_,_,_,aF rw0 n,k,m,rfl,lw1 n hn,lw2 n hn,sb.w n hn,by omega,by omega,?_⟩
  show((List.range rw0.length).map _)[n]? = _
  rw[List.getElem?_map,List.getElem?_range hn]
  rfl
 ·rw[List.length_map];omega
 have ef:((List.range rw0.length).map fun n=>some (D.int (sg (ev (ln P (iF' rw0 n)) (aF rw0 n)-ev (ln O (jF rw0 n)) (aF rw0 n))))).filterMap id=(List.range rw0.length).map fun n=>D.int (sg (ev (ln P (iF' rw0 n)) (aF rw0 n)-ev (ln O (jF rw0 n)) (aF rw0 n))):=jDi
 rw[ef]
 have eL:atI (rw0.map (jM5 ps os)) (-1)=some (jM5 ps os (tmF rw0 (rw0.length-1),iF' rw0 (rw0.length-1),jF rw0 (rw0.length-1))):=jHq (jPx (by omega))
 refine atR eL ?_
 refine atR eL ?_
 refine⟨_,_,_,_,k,rfl,lw1 _ (by omega),lw2 _ (by omega),by omega,?_⟩
 refine⟨by rw[List.length_map,List.length_range];omega,?_⟩
 generalize eS:(List.range rw0.length).map (fun n=>D.int (sg (ev (ln P (iF' rw0 n)) (aF rw0 n)-ev (ln O (jF rw0 n)) (aF rw0 n))))++[D.int (sg ((ln P (iF' rw0 (rw0.length-1))).1-(ln O (jF rw0 (rw0.length-1))).1))]=sd
 have sl:sd.length=rw0.length+1:=by rw[←eS];simp
 have sNow:∀n,n<rw0.length→atI sd (n:Int)=some (D.int (sg (ev (ln P (iF' rw0 n)) (aF rw0 n)-ev (ln O (jF rw0 n)) (aF rw0 n)))):=fun n hn=>by
  rw[CH.atI_nat (by omega),←eS,List.getElem?_append_left (by simp;exact hn),List.getElem?_map,List.getElem?_range hn]
  rfl
 have sThn:∀n,n<rw0.length→atI sd ((n:Int)+1)=some (D.int (sg (jC7 (ln P (iF' rw0 n)) (ln O (jF rw0 n)) (TmN rw0.length (aF rw0) (n+1))))):=fun n hn=>by
  by_cases z:n+1<rw0.length
  ·rw[sA.thn pP pO z,show(n:Int)+1=((n+1:Nat):Int) by omega]
   exact sNow (n+1) z
  ·have en:n=rw0.length-1:=by omega
   rw[show(n:Int)+1=((rw0.length:Nat):Int) by omega,CH.atI_nat (by omega),←eS,List.getElem?_append_right (by simp),en]
   have e9:TmN rw0.length (aF rw0) (rw0.length-1+1)=none:=if_neg (by omega)
   rw[e9]
   simp
   rfl
 refine⟨fun n τ=>∃(qs:List RP)(Q:Ps)(y6 y7:Option S),τ=[some (.r (ps.map rpD)),some (.d (.lst (os.map rpD))),some (.d (tp (os.getD 0 dfR).1.1 (os.getD 0 dfR).1.2)),some (.l (qs.map rpD)),some (.r (rw0.map (jM5 ps os))),some (.l sd),y6,y7]∧jOp B S0 G V k m ps os P O h g rw0.length (aF rw0) (iF' rw0) (jF rw0) n qs Q∧(n=0→qs=ps.take c),⟨ps.take c,P.take c,none,none,by rw[←ec];rfl,jOp.zero rP sA cA0 cA1 cA3 hj0,fun _=>rfl⟩,?_,?_⟩
 ·rintro n τ x hx ⟨qs,Q,y6,y7,rfl,li,z0⟩
  have hn:n<rw0.length:=by have:=(List.getElem?_eq_some_iff.mp hx).1;rw[List.length_map] at this;exact this
  rw[List.getElem?_map,jPx hn] at hx
  cases hx
  have ql:qs.length≤90000:=by
   have q1:=li.r.cn.len
   have q2:=li.r.pl.len
   rw[List.length_append] at q1
   have q3:(jO3 O).length=O.length:=List.length_map _
   rw[q3] at q1
   omega
  refine atR (sNow n hn) ?_
  refine atR (sThn n hn) ?_
  refine⟨qs,tmF rw0 n,(ps.getD (iF' rw0 n) dfR).2,(os.getD (jF rw0 n) dfR).2,_,_,ln P (iF' rw0 n),ln O (jF rw0 n),k,rfl,rfl,lw1 n hn,lw2 n hn,by omega,fun z=>?_,by omega,fun qs' ad=>?_⟩
  ·rcases z with⟨z1,z2⟩|⟨z1,z2⟩
   ·exact(jF6 (T:=TmN rw0.length (aF rw0) (n+1)) (a:=aF rw0 n) (by have:=jLh.mp z1;grind) (jKb (sA.lt hn) (jLk.mp z2))).1
   ·have:=(jF6 (l1:=ln O (jF rw0 n)) (l2:=ln P (iF' rw0 n)) (T:=TmN rw0.length (aF rw0) (n+1)) (a:=aF rw0 n) (by have:=jLk.mp z1;grind) (jKb (sA.lt hn) (by rw[jFe];have:=jLh.mp z2;grind))).1
    exact Ne.symm this
  obtain⟨Q',li'⟩:=li.step rP ol pO sO gO ux hkm sA hb hn (sb.w n hn) (jAZ (show iF' rw0 n<ps.length by have:=sb.iP n hn;omega)) (jAZ (show jF rw0 n<os.length by have:=sb.jO n hn;omega)) ad (fun z y=>by
   have t0:=z0 z
   rw[y] at t0
   have c0':c=0:=by
    have:(ps.take c).length=0:=by rw[←t0];rfl
    rw[List.length_take] at this
    omega
   have:=cA2 0 (by omega) p0
   grind)
  exact⟨qs',Q',_,_,rfl,li',fun z=>absurd z (by omega)⟩
 rintro τ ⟨qs,Q,y6,y7,rfl,li,_⟩
 rw[List.length_map] at li
 have r:=li.r
 have e9:TmN rw0.length (aF rw0) rw0.length=none:=if_neg (by omega)
 rw[e9] at r
 have lb:=li.b.2 nw
 exact q qs Q r (by rw[←r.pl.len];exact List.length_pos_iff.mpr lb.1) lb.2
variable (jDL:Cal P w K mg base (CXU P w) 7 "lowered" ["pieces","others"] jG2)
theorem jD9:jAe ["g"] ["g"] (jAc jBv):=scN
include jBl in
theorem jEa (F:Fun K "begin_and_steeper" "begin_and_steeper" jBv f fd):jAz P w K mg base CX0 7 f fd ["g"] (jAj K mg jCg):=by
 refine fn3 F jD9 (fun ss R U h=>?_) (fun cdv A outer s H E ss R U hr h=>?_)
 ·obtain⟨cs,m,a,b,c,rfl,_⟩:=h;rfl
 obtain⟨cs,m,a,b,c,rfl,o,z,hs,hl,q⟩:=h
 refine⟨_,(jBc (jKU jLM (jGh (a1 (jAd (jAd (vN 0) jAa) jAa))) (jAA hr jBl (a1 (vN 0))))),?_⟩
 have sl:(stI cs m).length≤cs.length:=by
  unfold CH.stI
  rw[List.length_map]
  have:=List.length_filter_le (fun n=>decide (slp cs m n<slp cs m (n+1))) (List.range (cs.length-1))
  rw[List.length_range] at this
  omega
 refine atR (jBI (cs:=cs) (i:=0) 0 rfl o.ne) ?_
 refine⟨by show 1≤1000;decide,?_⟩
 refine⟨cs,m,a,b,c,rfl,o,z,hs,hl,?_⟩
 refine⟨by rw[List.length_map];show 1+(stI cs m).length≤_;omega,?_⟩
 exact q
variable (jAG:Cal P w K mg base (CXU P w) 7 "begin_and_steeper" ["g"] jCg)
theorem jCa:jAe ["f","g","ones","others","found","corner"] ["f","g"] (jAc jHw):=scN
include jEk jAQ gc_NOUGHT jAJ jBQ jCy jD0 jH9 jDG jFP jBF jDL jAG in
theorem jKy (F:Fun K "undone" "undone" jHw f fd):jAz P w K mg base CX0 8 f fd ["f","g"] (jAj K mg jIh):=by
 refine fn3 F jCa (fun ss R U h=>?_) (fun cdv A outer s H E ss R U hr h=>?_)
 ·obtain⟨fc,fm,gc,gm,a,b,c,rfl,_⟩:=h;rfl
 obtain⟨fc,fm,gc,gm,a,b,c,rfl,⟨rf,rg,zf,zg,hb,hz,hn⟩,qn,q⟩:=h
 refine⟨_,(jAb (jBN (jBk (jAA hr jBQ (a2 (vN 0) (vN 1)))) (jBc jL5) jAr)
  (jAb (jAH 2 jCa (jAA hr jDG (a1 (jAA hr jCy (a1 (vN 0))))))
  (jAb (jAH 3 jCa (jAA hr jFP (a2 (jAA hr jCy (a1 (vN 1))) (jAA hr jEk (a2 (jAd (jAd (jAd (vN 0) jAa) (jEG jAa)) jAa) (jAd (jAd (jAd (vN 1) jAa) (jEG jAa)) jAa))))))
  (jAb (jAH 4 jCa (jGh (a1 (jA8 (a2 (jKd rfl gc_NOUGHT) (jA8 (jAO jAa (a2 jAa jAa))))))))
  (jAb (jJy (jC2 PassesOwn.never rfl (jB7 (PE3.out (jAA hr jAG (a1 (vN 1))))) (jBn (i:=5) jCa.nd rfl (Or.inl rfl)) (jDx.out (jAl (jAH 4 jCa (jAA hr jDL (a2 (vN 4) (jAA hr jBF (a1 (jAA hr jH9 (a2 (vN 2) (jA8 (a2 (jAA hr jAQ (a2 (jKd rfl gc_NOUGHT) (jAd (vN 5) jAa))) (jAd (vN 5) jAa))))))))))))))
  (jAb (jJy (jC2 PassesOwn.never rfl (jB7 (PE3.out (jAA hr jAJ (a1 (vN 0))))) (jBn (i:=5) jCa.nd rfl (Or.inl rfl)) (jDx.out (jAl (jAH 4 jCa (jAA hr jDL (a2 (vN 4) (jAA hr jBF (a1 (jAA hr jH9 (a2 (vN 3) (jA8 (a2 (jAd (vN 5) jAa) (jAA hr jAQ (a2 (jKd rfl gc_NOUGHT) (jAd (vN 5) jAa))))))))))))))))
  (jBc (jAA hr jD0 (a1 (jAA hr jDG (a1 (vN 4)))))))))))),?_⟩
 have of:=rf.o
 have og:=rg.o
 have f0:=of.ne
 have g0:=og.ne
 have zfm:=zf.m of
 have zgm:=zg.m og
 refine⟨fc,fm,gc,gm,rfl,zfm.mono (by omega),zgm.mono (by omega),?_⟩
 refine jBA (fun c1=>qn c1) (fun c1=>?_)
 have hm:fm≤gm:=by grind
 have q:=q hm
 have mul1:fc.length*1≤(2*(fc.length*gc.length)+2*fc.length+gc.length+3)*(fc.length+gc.length+1):=Nat.mul_le_mul (by omega) (by omega)
 have mul2:1*gc.length≤(2*(fc.length*gc.length)+2*fc.length+gc.length+3)*(fc.length+gc.length+1):=Nat.mul_le_mul (by omega) (by omega)
 have fl:fc.length≤4999:=by
  refine Nat.le_of_not_lt fun z=>?_
  have:10000*5≤(2*(fc.length*gc.length)+2*fc.length+gc.length+3)*(fc.length+gc.length+1):=Nat.mul_le_mul (by omega) (by omega)
  omega
 have gl:gc.length≤4999:=by
  refine Nat.le_of_not_lt fun z=>?_
  have:5000*10≤(2*(fc.length*gc.length)+2*fc.length+gc.length+3)*(fc.length+gc.length+1):=Nat.mul_le_mul (by omega) (by omega)
  omega
 refine⟨fc,fm,a,b,c,rfl,of,zf,by omega,by omega,?_⟩
 refine⟨_,jB5 fc fm,rfl,Or.inr rfl,by rw[jB4];omega,?_⟩
 refine⟨gc,gm,a,b,c,rfl,og,zg,by omega,by omega,?_⟩
 refine atR (jNN (cs:=fc) 1 (by decide) f0) ?_
 refine atR (jNN (cs:=gc) 1 (by decide) g0) ?_
 have tfl:=zf.tm (fc.length-1) (by omega)
 have tgl:=zg.tm (gc.length-1) (by omega)
 refine⟨_,_,a,a,rfl,tfl,tgl,by omega,?_⟩
 have zfar:Sz (2*a+1) (tt fc (fc.length-1)+tt gc (gc.length-1)):=(tfl.add tgl).mono (by omega)
 refine⟨gc,gm,_,2*a+2,rfl,g0,by omega,fun i hi=>(zg.tm i hi).mono (by omega),zfar.mono (by omega),by omega,?_⟩
 refine⟨by show 3≤1000;decide,by show 2≤1000;decide,by show 1≤1000;decide,?_⟩
 obtain⟨K,hK⟩:∃K,K=2*a+3*b+3*c+12:=⟨_,rfl⟩
 obtain⟨Z,hZ⟩:∃Z,Z=2*(a+b+c)+5:=⟨_,rfl⟩
 obtain⟨X,hX⟩:∃X,X=4*(a+b+c)+2*b+16:=⟨_,rfl⟩
 obtain⟨W,hW⟩:∃W,W=2*(fc.length*gc.length)+2*fc.length+gc.length+3:=⟨_,rfl⟩
 rw[←hZ,←hX,←hW] at q
 rw[←hW] at hn
 have sL:=jPz (fc:=fc) (gc:=gc) (fm:=fm) (gm:=gm)
 have cnt:∀x,x≤W→x*(slS fc fm gc gm).length≤40000:=fun x hx=>Nat.le_trans (by rw[sL];exact Nat.mul_le_mul_right _ hx) hn
 have plF:PL (b+c) a ((jB5 fc fm).map flR) ((jDv fc fm).map flP):=(jME of zf).flipped
 have plG:PL (b+c) (2*a+4) (trR gc gm (tt fc (fc.length-1)+tt gc (gc.length-1))) (jFh (jDv gc gm) (tt fc (fc.length-1)+tt gc (gc.length-1))):=jPH og zg (n:=2*a+2) (zfar.mono (by omega)) (by omega)
 have ux:=jRK (b:=b) (Z:=Z) (X:=X) (by omega)
 have stl:(stI gc gm).length+1≤gc.length:=by
  unfold CH.stI
  rw[List.length_map]
  have:=List.length_filter_le (fun n=>decide (slp gc gm n<slp gc gm (n+1))) (List.range (gc.length-1))
  rw[List.length_range] at this
  omega
 have fll:(flI fc fm).length+1≤fc.length:=by
  unfold flI
  rw[List.length_map]
  have:=List.length_filter_le (fun n=>decide (slp fc fm (n+1)<slp fc fm n)) (List.range (fc.length-1))
  rw[List.length_range] at this
  omega
 refine⟨gc,gm,a,b,c,rfl,og,zg,by omega,by omega,?_⟩
 refine⟨fun n τ=>∃(qs:List RP)(Q:Ps)(B:List Rat)(h:Rat→Rat)(y5:Option S),τ=[some (.d (crv fc fm)),some (.d (crv gc gm)),some (.l (((jB5 fc fm).map flR).map rpD)),some (.d (.lst ((trR gc gm (tt fc (fc.length-1)+tt gc (gc.length-1))).map rpD))),some (.l (qs.map rpD)),y5]∧jEr B (slS fc fm gc gm) (Gz b Z) (Sz X) K (2*K+1) h none qs Q∧0<Q.length∧bg Q 0=0∧jMg (((0::stI gc gm).take n).map (cA fc fm gc)) h∧B.length≤n*fc.length,⟨[((0,1),(0,0,1))],[(0,(0,0))],[],fun _=>0,none,rfl,jLs jQX hb (by omega) (by omega) (by omega) (by omega),by decide,rfl,jMg.nil,Nat.zero_le _⟩,?_,?_⟩
 ·rintro n τ x hx ⟨qs,Q,B,h,y5,rfl,r,ne,b0,mi,bl⟩
  obtain⟨k,hk,rfl⟩:=jCB hx
  have nl:n<(0::stI gc gm).length:=(List.getElem?_eq_some_iff.mp hk).1
  have nl:n<(stI gc gm).length+1:=nl
  have kl:k<gc.length:=by
   rcases List.mem_cons.mp (List.mem_of_getElem? hk) with rfl|z
   ·exact g0
   ·exact(jGn.mp z).1
  have tg:=zg.tm k kl
  have vg:Sz (b+a+c+1) (vv gc k):=by
   have:=zg.va (jDr og kl) tg
   rw[jEl og kl] at this
   exact this
  refine⟨0,tt gc k,1,a,rfl,Sz.zero,tg,by omega,?_⟩
  refine⟨by show 2≤1000;decide,?_⟩
  have w1:Wq (a+b+c+3) (0-tt gc k).num ((0-tt gc k).den:Int) (0-tt gc k):=Wq.of ((Sz.zero.sub tg).mono (by omega))
  have w2:Wq (a+b+c+3) (vv gc k).num ((vv gc k).den:Int) (vv gc k):=Wq.of (vg.mono (by omega))
  refine⟨_,(jB5 fc fm).map flR,(jDv fc fm).map flP,_,_,_,_,_,_,b+c,a,a+b+c+3,rfl,Or.inl rfl,plF,w1,w2,by omega,by omega,by omega,by rw[List.length_map,jB4];omega,?_⟩
  have plA:PL K (2*K+1) (((jB5 fc fm).map flR).map (mvR (0-tt gc k).num ((0-tt gc k).den:Int) (vv gc k).num ((vv gc k).den:Int))) (pA fc fm gc k):=(plF.moved w1 w2).mono (k':=K) (m':=2*K+1) (by omega) (by omega)
  have puA:=jRo (fm:=fm) (gc:=gc) of (k:=k)
  have lA:=jLH (fc:=fc) (fm:=fm) (gc:=gc) (k:=k)
  obtain⟨d,d1,d2,d3⟩:=jK3 puA.up 0
  have d0:0<d:=by
   rcases Nat.eq_zero_or_pos d with z|z
   ·have:=d3 0 (by omega) (by rw[lA];exact f0)
    rw[(jMJ f0).1,of.t0] at this
    have:=jDr og kl
    grind
   ·exact z
  have gA:=jR6 of og zf zg kl (Z:=Z) (X:=X) (by omega) (by omega)
  have oth:jON (slS fc fm gc gm) b Z X K (2*K+1) (frR (((jB5 fc fm).map flR).map (mvR (0-tt gc k).num ((0-tt gc k).den:Int) (vv gc k).num ((vv gc k).den:Int))) d) (frN (pA fc fm gc k) d) (cA fc fm gc k):=jNS (K:=K) (m:=2*K+1) plA puA (by omega) (by omega) d0 d1 d2 d3 gA.1 gA.2
  refine⟨_,pA fc fm gc k,K,2*K+1,d,rfl,plA,by rw[List.length_map,List.length_map,jB4];omega,by omega,d0,d1,d2,d3,?_⟩
  have oL:(frN (pA fc fm gc k) d).length≤fc.length:=by rw[jDX,lA];omega
  have ol':=oth.pl.len
  have nm:n*fc.length≤fc.length*gc.length:=by rw[Nat.mul_comm];exact Nat.mul_le_mul_left _ (by omega)
  have c1':=cnt (B.length+1) (by omega)
  have c2':=cnt (B.length+(frN (pA fc fm gc k) d).length+1) (by omega)
  have ql:qs.length≤40000:=by rw[r.pl.len];exact Nat.le_trans r.cn.len c1'
  refine⟨_,qs,frR (((jB5 fc fm).map flR).map (mvR (0-tt gc k).num ((0-tt gc k).den:Int) (vv gc k).num ((vv gc k).den:Int))) d,Q,frN (pA fc fm gc k) d,B,slS fc fm gc gm,Gz b Z,Sz X,K,2*K+1,h,cA fc fm gc k,rfl,Or.inr rfl,⟨r,ne,oth.pl,oth.pu,oth.ne,oth.sl,oth.gd,ux,by omega,by omega,by rw[b0,oth.b0];exact Rat.le_refl,fun z=>?_,by omega,by omega⟩,fun qs' Q' r' ne' b0'=>?_⟩
  ·rw[b0,oth.b0] at z;exact absurd z Rat.lt_irrefl
  rw[oth.b0] at r'
  refine⟨qs',Q',_,_,_,rfl,r',ne',b0'.trans b0,?_,?_⟩
  ·rw[List.take_add_one,hk,List.map_append]
   exact mi.add
  ·rw[List.length_append,show(jO3 (frN (pA fc fm gc k) d)).length=(frN (pA fc fm gc k) d).length from List.length_map _,Nat.add_mul]
   omega
 rintro τ ⟨qs,Q,B,h,y5,rfl,r,ne,b0,mi,bl⟩
 rw[List.length_map] at mi bl
 rw[List.take_of_length_le (Nat.le_refl _)] at mi
 replace bl:B.length≤fc.length*gc.length:=Nat.le_trans bl (by rw[Nat.mul_comm];exact Nat.mul_le_mul_left _ (by show(stI gc gm).length+1≤_;exact stl))
 refine⟨fc,fm,a,b,c,rfl,of,zf,by omega,by omega,?_⟩
 refine⟨fun n τ=>∃(qs:List RP)(Q:Ps)(B:List Rat)(h:Rat→Rat)(y5:Option S),τ=[some (.d (crv fc fm)),some (.d (crv gc gm)),some (.l (((jB5 fc fm).map flR).map rpD)),some (.d (.lst ((trR gc gm (tt fc (fc.length-1)+tt gc (gc.length-1))).map rpD))),some (.l (qs.map rpD)),y5]∧jEr B (slS fc fm gc gm) (Gz b Z) (Sz X) K (2*K+1) h none qs Q∧0<Q.length∧bg Q 0=0∧jMg ((0::stI gc gm).map (cA fc fm gc)++((flI fc fm).take n).map (cB fc gc gm)) h∧B.length≤fc.length*gc.length+n*(gc.length+1),⟨qs,Q,B,h,_,rfl,r,ne,b0,by rw[List.take_zero,List.map_nil,List.append_nil];exact mi,by omega⟩,?_,?_⟩
 ·clear r ne b0 mi bl
  clear qs Q B h y5
  rintro n τ x hx ⟨qs,Q,B,h,y5,rfl,r,ne,b0,mi,bl⟩
  obtain⟨k,hk,rfl⟩:=jCB hx
  have nl:n<(flI fc fm).length:=(List.getElem?_eq_some_iff.mp hk).1
  have hm':=jGf.mp (List.mem_of_getElem? hk)
  have kl:=hm'.1
  have tf:=zf.tm k kl
  have vf:Sz (b+a+c+1) (vv fc k):=by
   have:=zf.va (jDr of kl) tf
   rw[jEl of kl] at this
   exact this
  have tkl:tt fc k≤tt fc (fc.length-1):=jBz of.up (by omega) (by omega)
  have tk0:0<tt fc k:=by
   have h1:=of.up 0 (by omega)
   rw[of.t0] at h1
   have h2:=jBz of.up (i:=0+1) (j:=k) (by omega) kl
   grind
  have far1:tt gc (gc.length-1)<tt fc (fc.length-1)+tt gc (gc.length-1):=by grind
  refine⟨0,vv fc k,1,b+a+c+1,rfl,Sz.zero,vf,by omega,?_⟩
  refine⟨by show 2≤1000;decide,?_⟩
  have w1:Wq (a+b+c+3) (tt fc k).num ((tt fc k).den:Int) (tt fc k):=Wq.of (tf.mono (by omega))
  have w2:Wq (a+b+c+3) (0-vv fc k).num ((0-vv fc k).den:Int) (0-vv fc k):=Wq.of ((Sz.zero.sub vf).mono (by omega))
  have tl:(trR gc gm (tt fc (fc.length-1)+tt gc (gc.length-1))).length=gc.length+1:=by rw[plG.len,jEm,jAL]
  refine⟨_,trR gc gm (tt fc (fc.length-1)+tt gc (gc.length-1)),jFh (jDv gc gm) (tt fc (fc.length-1)+tt gc (gc.length-1)),_,_,_,_,_,_,b+c,2*a+4,a+b+c+3,rfl,Or.inr rfl,plG,w1,w2,by omega,by omega,by omega,by rw[tl];omega,?_⟩
  have plA:PL K (2*K+1) ((trR gc gm (tt fc (fc.length-1)+tt gc (gc.length-1))).map (mvR (tt fc k).num ((tt fc k).den:Int) (0-vv fc k).num ((0-vv fc k).den:Int))) (pB fc gc gm (tt fc (fc.length-1)+tt gc (gc.length-1)) k):=(plG.moved w1 w2).mono (k':=K) (m':=2*K+1) (by omega) (by omega)
  have puA:=jRl (fc:=fc) (gm:=gm) og (k:=k) far1
  have lA:=jKx (fc:=fc) (gc:=gc) (gm:=gm) (k:=k) (far:=tt fc (fc.length-1)+tt gc (gc.length-1))
  have b00:=jS9 (fc:=fc) (gm:=gm) og (k:=k) (far:=tt fc (fc.length-1)+tt gc (gc.length-1))
  obtain⟨d,d1,d2,d3⟩:=jK3 puA.up 0
  have d0:0<d:=by
   rcases Nat.eq_zero_or_pos d with z|z
   ·have:=d3 0 (by omega) (by rw[lA];omega)
    rw[b00] at this
    have:=jDr og (show gc.length-1<gc.length by omega)
    grind
   ·exact z
  have gA:=jRX of og zf zg kl zfar (Z:=Z) (X:=X) hb (by omega) (by omega)
  have oth:jON (slS fc fm gc gm) b Z X K (2*K+1) (frR ((trR gc gm (tt fc (fc.length-1)+tt gc (gc.length-1))).map (mvR (tt fc k).num ((tt fc k).den:Int) (0-vv fc k).num ((0-vv fc k).den:Int))) d) (frN (pB fc gc gm (tt fc (fc.length-1)+tt gc (gc.length-1)) k) d) (cB fc gc gm k):=jNS (K:=K) (m:=2*K+1) plA puA (by omega) (by omega) d0 d1 d2 d3 gA.1 gA.2
  refine⟨_,pB fc gc gm (tt fc (fc.length-1)+tt gc (gc.length-1)) k,K,2*K+1,d,rfl,plA,by rw[List.length_map,tl];omega,by omega,d0,d1,d2,d3,?_⟩
  have oL:(frN (pB fc gc gm (tt fc (fc.length-1)+tt gc (gc.length-1)) k) d).length≤gc.length+1:=by rw[jDX,lA];omega
  have ol':=oth.pl.len
  have nm:(n+1)*(gc.length+1)≤fc.length*(gc.length+1):=Nat.mul_le_mul_right _ (by omega)
  have n1:(n+1)*(gc.length+1)=n*(gc.length+1)+(gc.length+1):=Nat.succ_mul _ _
  have n2:fc.length*(gc.length+1)=fc.length*gc.length+fc.length:=Nat.mul_succ _ _
  have c1':=cnt (B.length+1) (by omega)
  have c2':=cnt (B.length+(frN (pB fc gc gm (tt fc (fc.length-1)+tt gc (gc.length-1)) k) d).length+1) (by omega)
  have ql:qs.length≤40000:=by rw[r.pl.len];exact Nat.le_trans r.cn.len c1'
  refine⟨_,qs,frR ((trR gc gm (tt fc (fc.length-1)+tt gc (gc.length-1))).map (mvR (tt fc k).num ((tt fc k).den:Int) (0-vv fc k).num ((0-vv fc k).den:Int))) d,Q,frN (pB fc gc gm (tt fc (fc.length-1)+tt gc (gc.length-1)) k) d,B,slS fc fm gc gm,Gz b Z,Sz X,K,2*K+1,h,cB fc gc gm k,rfl,Or.inr rfl,⟨r,ne,oth.pl,oth.pu,oth.ne,oth.sl,oth.gd,ux,by omega,by omega,by rw[b0,oth.b0];exact Rat.le_refl,fun z=>?_,by omega,by omega⟩,fun qs' Q' r' ne' b0'=>?_⟩
  ·rw[b0,oth.b0] at z;exact absurd z Rat.lt_irrefl
  rw[oth.b0] at r'
  refine⟨qs',Q',_,_,_,rfl,r',ne',b0'.trans b0,?_,?_⟩
  ·rw[List.take_add_one,hk,List.map_append,←List.append_assoc]
   exact mi.add
  ·rw[List.length_append,show(jO3 (frN (pB fc gc gm (tt fc (fc.length-1)+tt gc (gc.length-1)) k) d)).length=(frN (pB fc gc gm (tt fc (fc.length-1)+tt gc (gc.length-1)) k) d).length from List.length_map _]
   omega
 clear r ne b0 mi bl
 clear qs Q B h y5
 rintro τ ⟨qs,Q,B,h,y5,rfl,r,ne,b0,mi,bl⟩
 rw[List.length_map] at mi bl
 rw[List.take_of_length_le (Nat.le_refl _)] at mi
 have nm:(flI fc fm).length*(gc.length+1)≤fc.length*(gc.length+1):=Nat.mul_le_mul_right _ (by omega)
 have n2:fc.length*(gc.length+1)=fc.length*gc.length+fc.length:=Nat.mul_succ _ _
 have c1':=cnt (B.length+1) (by omega)
 have ql0:Q.length≤(B.length+1)*(slS fc fm gc gm).length:=r.cn.len
 have ql:qs.length≤40000:=by rw[r.pl.len];exact Nat.le_trans ql0 c1'
 obtain⟨o,m0,eM,iv,ls⟩:=jOZ rf rg hm r ne b0 mi
 refine⟨_,qs,rfl,Or.inl rfl,by omega,?_⟩
 have fl':(Q.map flP).length=Q.length:=List.length_map _
 have bev:∀i,i<(Q.map flP).length→Sz 2000 (bg (Q.map flP) i)∧Sz 2000 (ev (ln (Q.map flP) i) (bg (Q.map flP) i)):=fun i hi=>by
  rw[fl'] at hi
  have g:=r.gd i hi
  rw[(jBm hi).1,(jBm hi).2]
  refine⟨g.2.mono (by omega),?_⟩
  exact(((g.1.1.ngt).mul g.2).add g.1.2.ngt).mono (by omega)
 refine⟨qs.map flR,Q.map flP,K,2*K+1,rfl,r.pl.flipped,by rw[List.length_map,r.pl.len];exact ne,by rw[List.length_map];omega,by omega,bev,by rw[eM];exact zfm.mono (by omega),o,m0,?_⟩
 have ki:=jHm o m0
 have kv:=fun t=>jFr (m:=(ln (Q.map flP) ((Q.map flP).length-1)).1) o t
 have kl':=jIr (jGA (Q.map flP)) (ln (Q.map flP) ((Q.map flP).length-1)).1 ((jGA (Q.map flP)).length-1)
 have kls:=ls.kept o
 rw[jBf] at ki kv kl' kls
 rw[eM] at ki kv kl' kls iv ⊢
 refine q _ ki (fun t t0=>?_) kls ?_
 ·rw[(kv t).1];exact iv t t0
 ·have:(B.length+1)*(slS fc fm gc gm).length≤W*(fc.length+gc.length+1):=by rw[sL];exact Nat.mul_le_mul_right _ (by omega)
  omega
variable (jFI:Cal P w K mg base (CXU P w) 8 "undone" ["f","g"] jIh)
theorem jIW:jAe ["f","g","t","u"] ["f","g","t","u"] (jAc jFj):=scN
include jEk jAQ jC1 in
theorem jIE (F:Fun K "ahead_by" "ahead_by" jFj f fd):jAz P w K mg base CX0 8 f fd ["f","g","t","u"] (jAj K mg jGp):=by
 refine fn3 F jIW (fun ss R U h=>?_) (fun cdv A outer s H E ss R U hr h=>?_)
 ·obtain⟨fc,fm,gc,gm,t,u,a,b,c,n,rfl,_⟩:=h;rfl
 obtain⟨fc,fm,gc,gm,t,u,a,b,c,n,rfl,⟨of,og,zf,zg,hs,lf,lg⟩,t0,u0,zt,zu,hn,q⟩:=h
 refine⟨_,(jBc (jAA hr jAQ (a2 (jAA hr jC1 (a2 (vN 0) (jAA hr jEk (a2 (vN 2) (vN 3))))) (jAA hr jC1 (a2 (vN 1) (vN 3)))))),?_⟩
 have tu:0≤t+u:=by grind
 have zs:=zt.add zu
 refine⟨t,u,n,n,rfl,zt,zu,by omega,?_⟩
 refine⟨fc,fm,t+u,1800,rfl,of.ne,of.t0,of.up,by decide,zf.szk of (by omega) (by omega),zs.mono (by omega),fun _=>?_,fun z=>absurd tu z⟩
 refine⟨gc,gm,u,1800,rfl,og.ne,og.t0,og.up,by decide,zg.szk og (by omega) (by omega),zu.mono (by omega),fun _=>?_,fun z=>absurd u0 z⟩
 refine⟨_,_,_,_,rfl,zf.va tu zs,zg.va u0 zu,by omega,q⟩
variable (jCX:Cal P w K mg base (CXU P w) 8 "ahead_by" ["f","g","t","u"] jGp)
theorem jBT:jAe ["f","g","t","told","corner"] ["f","g","t"] (jAc jBs):=scN
include jAQ jAC jAJ jAG in
theorem jFd (F:Fun K "possible_leads" "possible_leads" jBs f fd):jAz P w K mg base CX0 8 f fd ["f","g","t"] (jAj K mg jC3):=by
 refine fn3 F jBT (fun ss R U h=>?_) (fun cdv A outer s H E ss R U hr h=>?_)
 ·obtain⟨fc,fm,gc,gm,t,a,b,c,n,rfl,_⟩:=h;rfl
 obtain⟨fc,fm,gc,gm,t,a,b,c,n,rfl,⟨of,og,zf,zg,hs,lf,lg⟩,zt,hn,q⟩:=h
 refine⟨_,(jAb (jIb (i:=3) (N:=["corner"]) (idx:=[]) (jAP.mk' (jAc jBs) ["f","g","t","told","corner"] rfl rfl (by decide +kernel)) rfl (jB7 (PE3.out (jAA hr jAG (a1 (vN 1))))) jCt (fun cl C s₀ H₀ fp=>jBL) (fun cl C s₀ H₀ fp=>(jAd (vN 0) jAa)) jBT.nd rfl (Or.inl rfl))
  (jAb (jJy (jC2 PassesOwn.never rfl (jB7 (PE3.out (jAA hr jAJ (a1 (vN 0))))) (jBn (i:=4) jBT.nd rfl (Or.inl rfl)) (jDx.out (jAl (jBN (jBk (jAA hr jAC (a2 (vN 2) (jAd (vN 4) jAa)))) (jAl (jGD (jCc (jGF PySem.F.plainAttrs_list PySem.F.slot_list_append PySem.F.type_list_append jA7 (pv 3) (jA2 (PE3.out (jAA hr jAQ (a2 (jAd (vN 4) jAa) (vN 2)))) jB9))))) jAr)))))
  (jAl (jDQ (pv 3))))),?_⟩
 have sl:(stI gc gm).length≤gc.length:=by
  unfold CH.stI
  rw[List.length_map]
  have:=List.length_filter_le (fun n=>decide (slp gc gm n<slp gc gm (n+1))) (List.range (gc.length-1))
  rw[List.length_range] at this
  omega
 have fl:(flI fc fm).length≤fc.length:=by
  unfold CH.flI
  rw[List.length_map]
  have:=List.length_filter_le (fun n=>decide (slp fc fm (n+1)<slp fc fm n)) (List.range (fc.length-1))
  rw[List.length_range] at this
  omega
 refine⟨gc,gm,a,b,c,rfl,og,zg,by omega,lg,?_⟩
 refine⟨(0::stI gc gm).map fun k=>some (qd (tt gc k)),by rw[List.length_map,List.length_map],?_,?_,?_⟩
 ·intro i x hx
  obtain⟨k,hk,rfl⟩:=jCB hx
  show((0::stI gc gm).map _)[i]? = _
  rw[List.getElem?_map,hk]
  rfl
 ·rw[List.length_map];show(stI gc gm).length+1≤_;omega
 rw[jCZ (0::stI gc gm) (fun k=>qd (tt gc k))]
 refine⟨fc,fm,a,b,c,rfl,of,zf,by omega,lf,?_⟩
 refine⟨fun n' τ=>∃(us:List Rat)(y4:Option S),τ=[some (.d (crv fc fm)),some (.d (crv gc gm)),some (.d (qd t)),some (.l (us.map qd)),y4]∧us.length≤5001+n'∧n'≤5000∧(∀u∈us,0≤u∧Sz (a+n+1) u)∧(∀k∈stI gc gm,tt gc k∈us)∧(∀j k,j<n'→(flI fc fm)[j]? = some k→t<tt fc k→tt fc k-t∈us),⟨(0::stI gc gm).map (tt gc),none,by rw[List.map_map];rfl,by rw[List.length_map];show(stI gc gm).length+1≤_;omega,by omega,fun u hu=>?_,fun k hk=>List.mem_map.mpr ⟨k,List.mem_cons.mpr (.inr hk),rfl⟩,fun j k hj=>absurd hj (Nat.not_lt_zero j)⟩,?_,?_⟩
 ·obtain⟨k,hk,rfl⟩:=List.mem_map.mp hu
  have kl:k<gc.length:=by
   rcases List.mem_cons.mp hk with rfl|hk
   ·exact og.ne
   ·exact(jGn.mp hk).1
  exact⟨jDr og kl,(zg.tm k kl).mono (by omega)⟩
 ·rintro i τ x hx ⟨us,y4,rfl,ul,i0,good,g1,g2⟩
  have il:=(List.getElem?_eq_some_iff.mp hx).1
  rw[List.length_map] at il
  obtain⟨k,hk,rfl⟩:=jCB hx
  have kf:=jGf.mp (List.mem_of_getElem? hk)
  have zk:=zf.tm k kf.1
  refine⟨t,tt fc k,_,_,rfl,zt,zk,by omega,?_⟩
  have ext:∀us':List Rat,(∀u∈us,u∈us')→(t<tt fc k→tt fc k-t∈us')→∀j k',j<i+1→(flI fc fm)[j]? = some k'→t<tt fc k'→tt fc k'-t∈us':=fun us' h1 h2 j k' hj hk' ht=>by
   by_cases e:j<i
   ·exact h1 _ (g2 j k' e hk' ht)
   ·have:j=i:=by omega
    subst this
    rw[hk] at hk'
    cases hk'
    exact h2 ht
  refine jBA (fun c=>?_) (fun c=>?_)
  ·refine⟨tt fc k,t,_,_,rfl,zk,zt,by omega,?_⟩
   refine⟨by rw[List.length_map];omega,us++[tt fc k-t],_,by rw[List.map_append];rfl,by rw[List.length_append];show us.length+1≤_;omega,by omega,fun u hu=>?_,fun k hk=>List.mem_append.mpr (.inl (g1 k hk)),ext _ (fun u hu=>List.mem_append.mpr (.inl hu)) (fun _=>List.mem_append.mpr (.inr (List.mem_singleton.mpr rfl)))⟩
   rcases List.mem_append.mp hu with h|h
   ·exact good u h
   ·rw[List.mem_singleton.mp h]
    exact⟨by grind,(zk.sub zt).mono (by omega)⟩
  ·exact⟨us,_,rfl,by omega,by omega,good,g1,ext us (fun _ h=>h) (fun h=>absurd h c)⟩
 rintro τ ⟨us,y4,rfl,ul,_,good,g1,g2⟩
 refine q us (by rw[List.length_map] at ul;omega) good g1 (fun k hk ht=>?_)
 obtain⟨j,hj⟩:=List.mem_iff_getElem?.mp hk
 exact g2 j k (by rw[List.length_map];exact(List.getElem?_eq_some_iff.mp hj).1) hj ht
variable (jBq:Cal P w K mg base (CXU P w) 8 "possible_leads" ["f","g","t"] jC3)
theorem jEs:jAe ["f","g","t","best","worth","u","value"] ["f","g","t"] (jAc jMa):=scN
include jAC gc_NOUGHT jBh jBQ jCX jBq in
theorem jPh (F:Fun K "lead" "lead" jMa f fd):jAz P w K mg base (CXU P w) 9 f fd ["f","g","t"] (jAj K mg jLa):=by
 refine fnU F jEs (fun ss R U h=>?_) (fun cdv A outer s H E ss R U hr h xo=>?_)
 ·obtain⟨fc,fm,gc,gm,t,a,b,c,n,rfl,_⟩:=h;rfl
 obtain⟨fc,fm,gc,gm,t,a,b,c,n,rfl,⟨of,og,zf,zg,hs,lf,lg⟩,zt,hn,q1,q2,qu⟩:=h
 refine⟨_,(jAb (jJc (jGZ xo hr jBh (a1 (vN 2))))
  (jAb (jBN (jBk (jGZ xo hr jBQ (a2 (vN 0) (vN 1)))) (jBc jL5) jAr)
  (jAb (jAH 3 jEs (jKd rfl gc_NOUGHT))
  (jAb (jAH 4 jEs (jGZ xo hr jCX (jAO (vN 0) (jAO (vN 1) (a2 (vN 2) (vN 3))))))
  (jAb (jJy (jC2 PassesOwn.leaving rfl (jB7 (PE3.out (jGZ xo hr jBq (jAO (vN 0) (a2 (vN 1) (vN 2)))))) (jBn (i:=5) jEs.nd rfl (Or.inl rfl)) (jDx.out (jAb (jAH 6 jEs (jGZ xo hr jCX (jAO (vN 0) (jAO (vN 1) (a2 (vN 2) (vN 5))))))
  (jAl (jBN (jBk (jGZ xo hr jAC (a2 (vN 4) (vN 6)))) (jAb (jAH 3 jEs (vN 5))
  (jAl (jAH 4 jEs (vN 6)))) jAr))))))
  (jAl (jDQ (pv 3)))))))),?_⟩
 refine⟨t,n,rfl,by omega,zt,fun t0=>?_,fun z=>qu z⟩
 have zt':=zt.mono (show n≤a+n+1 by omega)
 refine⟨fc,fm,gc,gm,rfl,(zf.m of).mono (by omega),(zg.m og).mono (by omega),?_⟩
 refine jBA (fun lt=>q1 t0 lt) (fun ge=>?_)
 have le:fm≤gm:=Rat.not_lt.mp ge
 refine⟨fc,fm,gc,gm,t,0,a,b,c,a+n+1,rfl,⟨of,og,zf,zg,hs,lf,lg⟩,t0,Rat.le_refl,zt',Sz.zero.mono (by omega),by omega,?_⟩
 refine⟨fc,fm,gc,gm,t,a,b,c,n,rfl,⟨of,og,zf,zg,hs,lf,lg⟩,zt,by omega,fun us ul good g1 g2=>?_⟩
 have zgap:∀{u:Rat},0≤u→Sz (a+n+1) u→Sz 7000 (gap fc fm gc gm t u):=fun {u} u0 zu=>by
  have tu:0≤t+u:=by grind
  unfold gap
  exact((zf.va tu (zt.add zu)).sub (zg.va u0 zu)).mono (by omega)
 refine⟨fun i τ=>∃(b':Rat)(y5 y6:Option S),τ=[some (.d (crv fc fm)),some (.d (crv gc gm)),some (.d (qd t)),some (.d (qd b')),some (.d (qd (gap fc fm gc gm t b'))),y5,y6]∧0≤b'∧Sz (a+n+1) b'∧gap fc fm gc gm t 0≤gap fc fm gc gm t b'∧∀j u,j<i→us[j]? = some u→gap fc fm gc gm t u≤gap fc fm gc gm t b',⟨0,none,none,rfl,Rat.le_refl,Sz.zero.mono (by omega),Rat.le_refl,fun j u hj=>absurd hj (Nat.not_lt_zero j)⟩,?_,?_⟩
 ·rintro i τ x hx ⟨b',y5,y6,rfl,b0,zb,h0,hb⟩
  obtain⟨u,hu,rfl⟩:=jCB hx
  obtain⟨u0,zu⟩:=good u (List.mem_of_getElem? hu)
  refine⟨fc,fm,gc,gm,t,u,a,b,c,a+n+1,rfl,⟨of,og,zf,zg,hs,lf,lg⟩,t0,u0,zt',zu,by omega,?_⟩
  refine⟨_,_,7000,7000,rfl,zgap b0 zb,zgap u0 zu,by omega,?_⟩
  have ext:∀w:Rat,gap fc fm gc gm t b'≤gap fc fm gc gm t w→gap fc fm gc gm t u≤gap fc fm gc gm t w→∀j v,j<i+1→us[j]? = some v→gap fc fm gc gm t v≤gap fc fm gc gm t w:=fun w h1 h2 j v hj hv=>by
   by_cases e:j<i
   ·exact Rat.le_trans (hb j v e hv) h1
   ·have:j=i:=by omega
    subst this
    rw[hu] at hv
    cases hv
    exact h2
  refine jBA (fun c=>?_) (fun c=>?_)
  ·exact⟨u,_,_,rfl,u0,zu,Rat.le_trans h0 (Rat.le_of_lt c),ext u (Rat.le_of_lt c) Rat.le_refl⟩
  ·exact⟨b',_,_,rfl,b0,zb,h0,ext b' Rat.le_refl (Rat.not_lt.mp c)⟩
 rintro τ ⟨b',y5,y6,rfl,b0,zb,h0,hb⟩
 rw[List.length_map] at hb
 have all:∀u∈us,gap fc fm gc gm t u≤gap fc fm gc gm t b':=fun u hu=>by
  obtain⟨j,hj⟩:=List.mem_iff_getElem?.mp hu
  exact hb j u (List.getElem?_eq_some_iff.mp hj).1 hj
 refine q2 t0 le b' b0 zb (fun v v0=>?_)
 obtain⟨w,w0,cw,best⟩:=jJq of og le t0
 refine Rat.le_trans (best v v0) ?_
 show gap fc fm gc gm t w≤_
 rcases cw with rfl|⟨k,k0,kl,e,s⟩|⟨k,k0,kl,e,s⟩
 ·exact h0
 ·rw[←e];exact all _ (g1 k (jGn.mpr ⟨kl,k0,s⟩))
 ·by_cases z:w=0
  ·rw[z];exact h0
  ·have:=g2 k (jGf.mpr ⟨kl,k0,s⟩) (by grind)
   rw[e,show t+w-t=w by grind] at this
   exact all _ this
variable (jGs:Cal P w K mg base (CXU P w) 9 "lead" ["f","g","t"] jLa)
theorem jFV:jAe ["_law_script","_law_k"] ["_law_script","_law_k"] (jAc jCQ):=scN
include jAM in
theorem jF1 (F:Fun K "_law_cell_at" "_law_cell_at" jCQ f fd):jAz P w K mg base CX0 1 f fd ["_law_script","_law_k"] (jAj K mg jDK):=by
 refine fn3 F jFV (fun ss R U h=>?_) (fun cdv A outer s H E ss R U hr h=>?_)
 ·obtain⟨ns,k,rfl,_⟩:=h;rfl
 obtain⟨ns,k,rfl,h0,q⟩:=h
 refine⟨_,(jAb (jBN (jCf jHL (vN 1) (jCR jAM (vN 0))) (jBc (jAd (vN 0) (vN 1))) jAr)
  (jBc jAa)),?_⟩
 refine jBA (fun c=>?_) (fun c=>?_)
 ·rw[List.length_map] at c
  show(match atI (ns.map D.int) k with|some d=>R (.d d)|none=>False)
  rw[jJh h0 c]
  exact q
 ·rw[List.length_map] at c
  rw[jNi h0 c] at q
  exact q
variable (jAo:Cal P w K mg base (CXU P w) 1 "_law_cell_at" ["_law_script","_law_k"] jDK)
theorem jA9:jAe ["_law_top","_law_bottom","_law_one","_law_other","_law_rest"] ["_law_top","_law_bottom"] (jAc jDh):=scN
include jIn in
theorem jGH (F:Fun K "_law_lowest" "_law_lowest" jDh f fd):jAz P w K mg base CX0 1 f fd ["_law_top","_law_bottom"] (jAj K mg jEj):=by
 refine fn3 F jA9 (fun ss R U h=>?_) (fun cdv A outer s H E ss R U hr h=>?_)
 ·obtain⟨a,b,rfl,_⟩:=h;rfl
 obtain⟨a,b,rfl,hb,h1,h2,q⟩:=h
 refine⟨_,(jAb (jAH 2 jA9 (jE7 jOO rfl jIn PyProof.Rows.boot_abs (a1 (vN 0))))
  (jAb (jAH 3 jA9 (vN 1))
  (jAb (jHB PassesOwn.never (jCf jQC (vN 3) jAa) (jAb (jAH 4 jA9 (jAi jAV (vN 2) (vN 3)))
  (jAb (jAH 2 jA9 (vN 3))
  (jAl (jAH 3 jA9 (vN 4))))))
  (jBc (jA8 (a2 (jAi jAY (vN 0) (vN 2)) (jAi jAY (vN 1) (vN 2)))))))),?_⟩
 have hb0:b≠0:=by clear h1 h2;omega
 have hp:=jF9 (a:=a) hb0
 have hc:=jKo (a:=a) hb0
 have e:cm a b=g a b:=if_neg (by clear h1 h2;omega)
 rw[e] at hp hc
 have ga:=jPO a b
 rw[if_neg (show ¬b<0 by clear h1 h2;omega)] at ga
 refine⟨fun m τ=>∃x y z,τ=[I a,I b,I x,I y,z]∧0≤x∧0≤y∧g x y=g a b∧m=y.toNat,⟨_,_,_,_,rfl,jLK a,Int.le_of_lt hb,ga,rfl⟩,?_⟩
 rintro m τ ⟨x,y,z,rfl,k1,k2,k3,rfl⟩
 refine jJi (fun c=>?_) (fun c=>?_)
 ·clear h1 h2
  refine⟨c,(x.fmod y).toNat,?_,_,_,_,rfl,k2,?_,?_,rfl⟩
  ·have:=Int.fmod_lt_of_pos x (show 0<y by omega)
   omega
  ·exact Int.fmod_nonneg_of_pos x (by omega)
  ·rw[←k3,Int.fmod_eq_emod_of_nonneg x k2]
   exact jNR (by omega)
 ·subst c
  rw[jQq k1] at k3
  subst k3
  refine⟨⟨hc,jRh h1⟩,⟨hc,jRh h2⟩,(by show 2≤1000;decide),?_⟩
  show R (.d (.tup [.int (a.fdiv (g a b)),.int (b.fdiv (g a b))]))
  rw[hp.1,hp.2]
  exact q
variable (jAf:Cal P w K mg base (CXU P w) 1 "_law_lowest" ["_law_top","_law_bottom"] jEj)
theorem jH1:jAe ["_law_one","_law_other"] ["_law_one","_law_other"] (jAc jEn):=scN
theorem jIa (F:Fun K "_law_less" "_law_less" jEn f fd):jAz P w K mg base CX0 1 f fd ["_law_one","_law_other"] (jAj K mg jFz):=by
 refine fn3 F jH1 (fun ss R U h=>?_) (fun cdv A outer s H E ss R U hr h=>?_)
 ·obtain⟨a,b,c,d,rfl,_⟩:=h;rfl
 obtain⟨a,b,c,d,rfl,⟨h1,h2,h3,h4⟩,q⟩:=h
 refine⟨_,(jBc (jLj jHL (jAi jAv (jAd (vN 0) jAa) (jAd (vN 1) jAa)) (jAi jAv (jAd (vN 1) jAa) (jAd (vN 0) jAa)) (jG3 _))),?_⟩
 exact⟨jAt h1 h4 (by decide),jAt h3 h2 (by decide),q⟩
variable (jA4:Cal P w K mg base (CXU P w) 1 "_law_less" ["_law_one","_law_other"] jFz)
theorem jHd:jAe ["_law_one","_law_other"] ["_law_one","_law_other"] (jAc jDy):=scN
theorem jHo (F:Fun K "_law_minus" "_law_minus" jDy f fd):jAz P w K mg base CX0 1 f fd ["_law_one","_law_other"] (jAj K mg jEM):=by
 refine fn3 F jHd (fun ss R U h=>?_) (fun cdv A outer s H E ss R U hr h=>?_)
 ·obtain⟨a,b,c,d,rfl,_⟩:=h;rfl
 obtain⟨a,b,c,d,rfl,⟨h1,h2,h3,h4⟩,q⟩:=h
 refine⟨_,(jBc (jA8 (a2 (jAi jC0 (jAi jAv (jAd (vN 0) jAa) (jAd (vN 1) jAa)) (jAi jAv (jAd (vN 1) jAa) (jAd (vN 0) jAa))) (jAi jAv (jAd (vN 0) jAa) (jAd (vN 1) jAa))))),?_⟩
 exact⟨jAt h1 h4 (by decide),jAt h3 h2 (by decide),jAt h2 h4 (by decide),(by show 2≤1000;decide),q⟩
variable (jAI:Cal P w K mg base (CXU P w) 1 "_law_minus" ["_law_one","_law_other"] jEM)
theorem jIe:jAe ["_law_one","_law_other"] ["_law_one","_law_other"] (jAc jEq):=scN
theorem jIi (F:Fun K "_law_plus" "_law_plus" jEq f fd):jAz P w K mg base CX0 1 f fd ["_law_one","_law_other"] (jAj K mg jFu):=by
 refine fn3 F jIe (fun ss R U h=>?_) (fun cdv A outer s H E ss R U hr h=>?_)
 ·obtain⟨a,b,c,d,rfl,_⟩:=h;rfl
 obtain⟨a,b,c,d,rfl,⟨h1,h2,h3,h4⟩,q⟩:=h
 refine⟨_,(jBc (jA8 (a2 (jAi jAR (jAi jAv (jAd (vN 0) jAa) (jAd (vN 1) jAa)) (jAi jAv (jAd (vN 1) jAa) (jAd (vN 0) jAa))) (jAi jAv (jAd (vN 0) jAa) (jAd (vN 1) jAa))))),?_⟩
 exact⟨jAt h1 h4 (by decide),jAt h3 h2 (by decide),jAt h2 h4 (by decide),(by show 2≤1000;decide),q⟩
variable (jDn:Cal P w K mg base (CXU P w) 1 "_law_plus" ["_law_one","_law_other"] jFu)
theorem jFB:jAe ["_law_cell","_law_low"] ["_law_cell","_law_low"] (jAc jCp):=scN
include jAf in
theorem jFE (F:Fun K "_law_slope_by" "_law_slope_by" jCp f fd):jAz P w K mg base CX0 2 f fd ["_law_cell","_law_low"] (jAj K mg jDs):=by
 refine fn3 F jFB (fun ss R U h=>?_) (fun cdv A outer s H E ss R U hr h=>?_)
 ·obtain⟨c,lo,rfl,_⟩:=h;rfl
 obtain⟨c,lo,rfl,l0,l1,q⟩:=h
 refine⟨_,(jAb (jBN (jCf jHn (jAi jAV (vN 0) jAa) jAa) (jBc (jA8 (a2 jAa jAa))) jAr)
  (jAb (jBN (jCf jHn (jAi jAV (vN 0) jAa) jAa) (jBc (jA8 (a2 (jAi jAV (jAi jAY (vN 0) jAa) jAa) jAa))) jAr)
  (jAb (jBN (jCf jHn (jAi jAV (vN 0) jAa) jAa) (jBc (jAA hr jAf (a2 (jAi jAV (jAi jAY (vN 0) jAa) jAa) (vN 1)))) jAr)
  (jBc (jAA hr jAf (a2 (jAi jAV (jAi jAY (vN 0) jAa) (jAi jHQ jAa jAa)) (vN 1))))))),?_⟩
 have f3:=fm (a:=c.fdiv 4) (show(0:Int)<3 by decide)
 have f20:=fm (a:=c.fdiv 4) (show(0:Int)<20 by decide)
 have f18:=fm (a:=c.fdiv 4) (show(0:Int)<10^(18:Int).toNat by decide)
 rw[p18] at f18
 have one:∀x:Int,0≤x→x<1000000000000000000→R (.d (tp x 1)):=fun x x0 x1=>by
  have:=q x 1 x0 x1 (by decide) (by decide)
  rw[jOw,jQ3] at this
  exact this
 refine⟨by decide,?_⟩
 refine jBA (fun _=>⟨(by show 2≤1000;decide),one 0 (by decide) (by decide)⟩) (fun _=>?_)
 refine⟨by decide,?_⟩
 refine jBA (fun _=>⟨⟨by decide,jBV (by decide)⟩,by decide,(by show 2≤1000;decide),one _ f3.1 (by omega)⟩) (fun _=>?_)
 refine⟨by decide,?_⟩
 refine jBA (fun _=>?_) (fun _=>?_)
 ·exact⟨⟨by decide,jBV (by decide)⟩,by decide,_,_,rfl,l0,jAw (k:=60) (by omega) (by decide),jAw (k:=4) (by omega) (by decide),q _ _ f20.1 (by omega) l0 l1⟩
 ·exact⟨⟨by decide,jBV (by decide)⟩,⟨by decide,by decide,by decide⟩,by decide,_,_,rfl,l0,jAw (k:=60) (by rw[p18];omega) (by decide),jAw (k:=4) (by omega) (by decide),q _ _ (by rw[p18];exact f18.1) (by rw[p18];exact f18.2) l0 l1⟩
variable (jBC:Cal P w K mg base (CXU P w) 2 "_law_slope_by" ["_law_cell","_law_low"] jDs)
theorem jAg:jAe ["_law_cells_here","_law_many","_law_low","_law_high","_law_at","_law_value_here","_law_corners","_law_k","_law_cell","_law_other","_law_gap_here","_law_rise"] ["_law_cells_here","_law_many"] (jAc jCq):=scN
include jAu jAf jBC in
theorem jFF (F:Fun K "_law_curve_by" "_law_curve_by" jCq f fd):jAz P w K mg base CX0 3 f fd ["_law_cells_here","_law_many"] (jAj K mg jDt):=by
 refine fn3 F jAg (fun ss R U h=>?_) (fun cdv A outer s H E ss R U hr h=>?_)
 ·obtain⟨ms,n,rfl,_⟩:=h;rfl
 obtain⟨ms,n,rfl,n0,n1,hl,q⟩:=h
 refine⟨_,(jAb (jAH 2 jAg (jAi jAR jAa (jAi jAV (jAd (vN 0) jAa) jAa)))
  (jAb (jAH 3 jAg (jAi jAR jAa (jAi jAV (jAi jAY (jAd (vN 0) jAa) jAa) jAa)))
  (jAb (jAH 4 jAg jAa)
  (jAb (jAH 5 jAg jAa)
  (jCx (jBN (jCf jQC (jAi jAV (jAd (vN 0) jAa) jAa) jAa) (jAl (jAH 5 jAg (jAi jAV (jAi jAY (jAd (vN 0) jAa) jAa) (jAi jHQ jAa jAa)))) jAr)
  (jAb (jAH 6 jAg (jGh (a1 (jA8 (a2 (jA8 (a2 jAa jAa)) (jAA hr jAf (a2 (vN 5) (vN 3))))))))
  (jAb (jKI (jC2 PassesOwn.never rfl (jDA rfl jAu (PA3.out (a1 (vN 1)))) (jBn (i:=7) jAg.nd rfl (Or.inl rfl)) (jDx.out (jAb (jAH 8 jAg (jAd (vN 0) (jAi jAR jAa (jAi jAv jAa (vN 7)))))
  (jAb (jAH 9 jAg (jAd (vN 0) (jAi jAR jAa (jAi jAv jAa (vN 7)))))
  (jAb (jAH 10 jAg (jAi jAR jAa (jAi jAV (jAi jAY (vN 8) jAa) jAa)))
  (jCx (jBN (jCf jHn (jAi jAV (vN 8) jAa) jAa) (jAl (jAH 10 jAg (jAi jAR jAa (jAi jAV (jAi jAY (vN 8) jAa) (jAi jHQ jAa jAa))))) jAr)
  (jAb (jAH 11 jAg (jAi jAv (vN 10) (jAi jAV (jAi jAY (vN 9) jAa) jAa)))
  (jCx (jBN (jCf jHn (jAi jAV (vN 9) jAa) jAa) (jAl (jAH 11 jAg jAa)) jAr)
  (jCx (jBN (jCf jHn (jAi jAV (vN 9) jAa) jAa) (jAl (jAH 11 jAg (jAi jAV (jAi jAY (vN 9) jAa) jAa))) jAr)
  (jCx (jBN (jCf jHn (jAi jAV (vN 9) jAa) jAa) (jAl (jAH 11 jAg (jAi jAV (jAi jAY (vN 9) jAa) (jAi jHQ jAa jAa)))) jAr)
  (jAb (jAH 4 jAg (jAi jAR (vN 4) (vN 10)))
  (jAb (jAH 5 jAg (jAi jAR (vN 5) (vN 11)))
  (jAl (jGD (jCc (jGF PySem.F.plainAttrs_list PySem.F.slot_list_append PySem.F.type_list_append jA7 (pv 6) (jA2 (PE3.out (jA8 (a2 (jAA hr jAf (a2 (vN 4) (vN 2))) (jAA hr jAf (a2 (vN 5) (vN 3)))))) jB9))))))))))))))))))
  (jNu 6 (jBc (jA8 (a2 (vN 6) (jAA hr jBC (a2 (jAd (vN 0) jAa) (vN 2)))))))))))))),?_⟩
 have b0:=jD1 (ms:=ms) (i:=0) 0 rfl (by omega)
 have b1:=jD1 (ms:=ms) (i:=1) 1 rfl (by omega)
 have b2:=jD1 (ms:=ms) (i:=2) 2 rfl (by omega)
 have g1:=fm (a:=cell ms 0) (show(0:Int)<12 by decide)
 have g2:=fm (a:=(cell ms 0).fdiv 12) (show(0:Int)<12 by decide)
 refine atR b0 ?_
 refine⟨by decide,?_⟩
 refine atR b0 ?_
 refine⟨⟨by decide,jBV (by decide)⟩,by decide,?_⟩
 obtain⟨lo,elo⟩:∃lo,lo=1+(cell ms 0).fmod 12:=⟨_,rfl⟩
 obtain⟨hi,ehi⟩:∃hi,hi=1+((cell ms 0).fdiv 12).fmod 12:=⟨_,rfl⟩
 have lo0:0<lo∧lo≤12:=by omega
 have hi0:0<hi∧hi≤12:=by omega
 have elo':1+(cell ms ((0:Nat):Int)).fmod 12=lo:=elo.symm
 have ehi':1+((cell ms ((0:Nat):Int)).fdiv 12).fmod 12=hi:=ehi.symm
 have u13:∀{x:Nat},x<2^66→x<2^13000:=fun h=>jAw h (by decide)
 refine⟨fun τ=>∃v:Int,τ=[some (.d (.lst (ms.map D.int))),I n,I lo,I hi,I 0,I v,none,none,none,none,none,none]∧0≤v∧v<1000000000000000000,?_,?_⟩
 ·refine atR b1 ?_
  refine⟨by decide,?_⟩
  have f18:=fm (a:=(cell ms ((1:Nat):Int)).fdiv 3) (show(0:Int)<10^(18:Int).toNat by decide)
  rw[p18] at f18
  refine jJi (fun _=>?_) (fun _=>⟨0,by rw[←elo',←ehi'];rfl,by decide,by decide⟩)
  refine atR b1 ?_
  exact⟨⟨by decide,jBV (by decide)⟩,⟨by decide,by decide,by decide⟩,by decide,_,by rw[←elo',←ehi'];rfl,by rw[p18];exact f18.1,by rw[p18];exact f18.2⟩
 rintro τ ⟨v0,rfl,v00,v01⟩
 refine⟨(by show 2≤1000;decide),v0,hi,rfl,hi0.1,u13 (by omega),u13 (by omega),(by show 2≤1000;decide),(by show 1≤1000;decide),?_⟩
 refine⟨⟨by omega,by omega⟩,?_⟩
 refine⟨fun j τ=>∃(l:List (Int×Int))(at' v:Int)(y7 y8 y9 y10 y11:Option S),τ=[some (.d (.lst (ms.map D.int))),I n,I lo,I hi,I at',I v,some (.l ((rcs l lo hi).map cd)),y7,y8,y9,y10,y11]∧jJK 65 l∧l.length=j+1∧ia l j=at'∧iv l j=v∧0≤at'∧at'≤j*1000000000000000001∧0≤v∧v≤1000000000000000000+j*2000000000000000002,⟨[(0,v0)],0,v0,none,none,none,none,none,?_,jJK.one v00 (by omega),rfl,rfl,rfl,by decide,by decide,v00,by omega⟩,?_,?_⟩
 ·have:(rcs [(0,v0)] lo hi).map cd=[.tup [tp 0 1,qd (Rat.divInt v0 hi)]]:=by
   unfold rcs
   rw[List.map_cons,List.map_nil,List.map_cons,List.map_nil,Rat.zero_divInt]
   rfl
  rw[this]
  rfl
 ·rintro j τ hj ⟨l,at',v,y7,y8,y9,y10,y11,rfl,hr,hll,ea,ev,a0,a1,v0',v1⟩
  have j12:(j:Int)<n:=by omega
  have c3:=jD1 (ms:=ms) (i:=3+2*(0+(j:Int)*1)) (3+2*j) (by omega) (by omega)
  have c4:=jD1 (ms:=ms) (i:=4+2*(0+(j:Int)*1)) (4+2*j) (by omega) (by omega)
  refine⟨jAt (m:=10) (n:=10) (by decide) (by omega) (by decide),?_⟩
  refine atR c3 ?_
  refine⟨jAt (m:=10) (n:=10) (by decide) (by omega) (by decide),?_⟩
  refine atR c4 ?_
  generalize cell ms ((3+2*j:Nat):Int)=x
  generalize cell ms ((4+2*j:Nat):Int)=y
  have f5:=fm (a:=x.fdiv 2) (show(0:Int)<5 by decide)
  have f18:=fm (a:=x.fdiv 2) (show(0:Int)<10^(18:Int).toNat by decide)
  have h3:=fm (a:=y.fdiv 4) (show(0:Int)<3 by decide)
  have h10:=fm (a:=y.fdiv 4) (show(0:Int)<10 by decide)
  have h18:=fm (a:=y.fdiv 4) (show(0:Int)<10^(18:Int).toNat by decide)
  rw[p18] at f18 h18
  refine⟨⟨by decide,jBV (by decide)⟩,by decide,?_⟩
  refine⟨fun τ=>∃g:Int,τ=[some (.d (.lst (ms.map D.int))),I n,I lo,I hi,I at',I v,some (.l ((rcs l lo hi).map cd)),I (0+(j:Int)*1),I x,I y,I g,y11]∧1≤g∧g≤1000000000000000001,?_,?_⟩
  ·refine⟨by decide,?_⟩
   exact jBA (fun _=>⟨⟨by decide,jBV (by decide)⟩,⟨by decide,by decide,by decide⟩,by decide,_,rfl,by rw[p18];omega,by rw[p18];omega⟩) (fun _=>⟨_,rfl,by omega,by omega⟩)
  rintro τ ⟨g,rfl,g0,g1⟩
  have gr0:0≤g*(y.fdiv 4).fmod 3:=Int.mul_nonneg (by omega) h3.1
  have gr1:g*(y.fdiv 4).fmod 3≤1000000000000000001*2:=Int.mul_le_mul g1 (by omega) h3.1 (by decide)
  refine⟨⟨by decide,jBV (by decide)⟩,by decide,jAt (m:=62) (n:=4) (by omega) (by omega) (by decide),?_⟩
  refine⟨fun τ=>∃r:Int,τ=[some (.d (.lst (ms.map D.int))),I n,I lo,I hi,I at',I v,some (.l ((rcs l lo hi).map cd)),I (0+(j:Int)*1),I x,I y,I g,I r]∧0≤r∧r≤2000000000000000002,?_,?_⟩
  ·refine⟨by decide,?_⟩
   exact jBA (fun _=>⟨0,rfl,by decide,by decide⟩) (fun _=>⟨_,rfl,gr0,by omega⟩)
  rintro τ ⟨r1,rfl,r10,r11⟩
  refine⟨fun τ=>∃r:Int,τ=[some (.d (.lst (ms.map D.int))),I n,I lo,I hi,I at',I v,some (.l ((rcs l lo hi).map cd)),I (0+(j:Int)*1),I x,I y,I g,I r]∧0≤r∧r≤2000000000000000002,?_,?_⟩
  ·refine⟨by decide,?_⟩
   exact jBA (fun _=>⟨⟨by decide,jBV (by decide)⟩,by decide,_,rfl,by omega,by omega⟩) (fun _=>⟨_,rfl,r10,r11⟩)
  rintro τ ⟨r2,rfl,r20,r21⟩
  refine⟨fun τ=>∃r:Int,τ=[some (.d (.lst (ms.map D.int))),I n,I lo,I hi,I at',I v,some (.l ((rcs l lo hi).map cd)),I (0+(j:Int)*1),I x,I y,I g,I r]∧0≤r∧r≤2000000000000000002,?_,?_⟩
  ·refine⟨by decide,?_⟩
   exact jBA (fun _=>⟨⟨by decide,jBV (by decide)⟩,⟨by decide,by decide,by decide⟩,by decide,_,rfl,by rw[p18];omega,by rw[p18];omega⟩) (fun _=>⟨_,rfl,r20,r21⟩)
  rintro τ ⟨r,rfl,r0,r1⟩
  have jj:(j:Int)≤11:=by omega
  have zb:(at'+g).natAbs<2^65:=by omega
  have zv:(v+r).natAbs<2^65:=by omega
  refine⟨at'+g,lo,rfl,lo0.1,u13 (jAw zb (by decide)),u13 (by omega),v+r,hi,rfl,hi0.1,u13 (jAw zv (by decide)),u13 (by omega),(by show 2≤1000;decide),by rw[List.length_map,jCb];omega,?_⟩
  have la:l.length-1=j:=by omega
  refine⟨l++[(at'+g,v+r)],at'+g,v+r,_,_,_,_,_,by rw[jJT,List.map_append];rfl,hr.snoc (by omega) (by rw[la,ea];omega) (by rw[la,ev];omega) zb zv,by rw[List.length_append];simp;omega,?_,?_,by omega,by omega,by omega,by omega⟩
  ·rw[←hll];exact jNL.1
  ·rw[←hll];exact jNL.2
 rintro τ ⟨l,at',v,y7,y8,y9,y10,y11,rfl,hr,hll,_⟩
 refine atR b2 ?_
 refine⟨_,lo,rfl,lo0.1,lo0.2,fun p q0 p0 p1 q00 q01=>?_⟩
 refine⟨(by show 2≤1000;decide),?_⟩
 exact q _ _ ⟨l,lo,hi,p,q0,hr,lo0,hi0,⟨p0,by omega⟩,⟨q00,q01⟩,rfl,rfl,by omega⟩
variable (jA1:Cal P w K mg base (CXU P w) 3 "_law_curve_by" ["_law_cells_here","_law_many"] jDt)
theorem jHJ:jAe ["_law_script","_law_begin","_law_many"] ["_law_script","_law_begin","_law_many"] (jAc jCM):=scN
include jAu jAo in
theorem jHb (F:Fun K "_law_cells" "_law_cells" jCM f fd):jAz P w K mg base CX0 2 f fd ["_law_script","_law_begin","_law_many"] (jAj K mg jEI):=by
 refine fn3 F jHJ (fun ss R U h=>?_) (fun cdv A outer s H E ss R U hr h=>?_)
 ·obtain⟨ns,b,n,rfl,_⟩:=h;rfl
 obtain⟨ns,b,n,rfl,b0,b1,n0,n1,q⟩:=h
 refine⟨_,(jBc (jK7 (N:=["_law_k","_law_script","_law_begin"]) (idx:=[0,1]) (jAP.mk' (jAc jCM) ["_law_script","_law_begin","_law_many"] rfl rfl (by decide +kernel)) rfl (jDA rfl jAu (PA3.out (a1 (jAi jAR jAa (jAi jAv jAa (vN 2)))))) jI9 (fun cl C s₀ H₀ fp=>jBL) (fun cl C s₀ H₀ fp=>(jAA hr jAo (a2 (vN 1) (jAi jAR (vN 2) (vN 0))))))),?_⟩
 refine⟨jAt (m:=10) (n:=10) (by decide) (by omega) (by decide),⟨by omega,by omega⟩,?_⟩
 refine⟨fun j ds=>∃ms:List Int,ds=ms.map D.int∧ms.length=j,⟨[],rfl,rfl⟩,?_,?_,?_,?_⟩
 ·rintro j ds ⟨ms,rfl,l⟩
  rw[List.length_map];omega
 ·rintro j x ds hx ⟨ms,rfl,l⟩
  obtain⟨hn,rfl⟩:=jC6 hx
  refine⟨ns,_,rfl,by omega,?_⟩
  exact⟨ms++[_],by rw[List.map_append];rfl,by rw[List.length_append,l];rfl⟩
 ·rw[jAX];omega
 ·rintro ds ⟨ms,rfl,l⟩
  rw[jAX] at l
  exact q ms (by omega)
variable (jB3:Cal P w K mg base (CXU P w) 2 "_law_cells" ["_law_script","_law_begin","_law_many"] jEI)
theorem jEN:jAe ["_law_seed","_law_many","_law_some"] ["_law_seed","_law_many"] (jAc jB6):=scN
include jAu in
theorem jHi (F:Fun K "_law_mixed" "_law_mixed" jB6 f fd):jAz P w K mg base CX0 1 f fd ["_law_seed","_law_many"] (jAj K mg jEZ):=by
 refine fn3 F jEN (fun ss R U h=>?_) (fun cdv A outer s H E ss R U hr h=>?_)
 ·obtain⟨s,n,rfl,_⟩:=h;rfl
 obtain⟨s,n,rfl,n0,n1,q⟩:=h
 refine⟨_,(jAb (jO0 (i:=2) (N:=["_law_k","_law_seed"]) (idx:=[0]) (jAP.mk' (jAc jB6) ["_law_seed","_law_many","_law_some"] rfl rfl (by decide +kernel)) rfl (jDA rfl jAu (PA3.out (a1 (jAi jAR jAa (jAi jAv jAa (vN 1)))))) jI9 (fun cl C s₀ H₀ fp=>jBL) (fun cl C s₀ H₀ fp=>(jAi jAV (jAi jAv (jAi jAR (jAi jAR (jAi jAV (vN 1) (jAi jHQ jAa jAa)) (jAi jAv jAa (vN 0))) (jAi jAv (vN 0) (vN 0))) jAa) jAa)) jEN.nd rfl (Or.inl rfl))
  (jBc (jK7 (N:=["_law_one"]) (idx:=[]) (jAP.mk' (jAc jB6) ["_law_seed","_law_many","_law_some"] rfl rfl (by decide +kernel)) rfl (jB7 (PE3.out (vN 2))) jCt (fun cl C s₀ H₀ fp=>jBL) (fun cl C s₀ H₀ fp=>(jAi jAV (jAi jAv (vN 0) jAa) jAa))))),?_⟩
 refine⟨jAt (m:=10) (n:=10) (by decide) (by omega) (by decide),⟨by omega,by omega⟩,?_⟩
 refine⟨fun j ds=>∃ms:List Int,ds=ms.map D.int∧ms.length=j,⟨[],rfl,rfl⟩,?_,?_,?_,?_⟩
 ·rintro j ds ⟨ms,rfl,l⟩
  rw[List.length_map];omega
 ·rintro j x ds hx ⟨ms,rfl,l⟩
  obtain⟨hn,rfl⟩:=jC6 hx
  have j30:(j:Int)<30:=by omega
  refine⟨⟨by decide,by decide,by decide⟩,by decide,jAt (m:=10) (n:=10) (by decide) (by omega) (by decide),jAt (m:=10) (n:=10) (by omega) (by omega) (by decide),PySem.IntMulOk.of_right (by decide),by decide,?_⟩
  exact⟨ms++[_],by rw[List.map_append];rfl,by rw[List.length_append,l];rfl⟩
 ·rw[jAX];omega
 rintro ds ⟨ms,rfl,l⟩
 rw[jAX] at l
 refine⟨fun j ds=>∃ms:List Int,ds=ms.map D.int∧ms.length=j,⟨[],rfl,rfl⟩,?_,?_,?_,?_⟩
 ·rintro j ds ⟨ms,rfl,l⟩
  rw[List.length_map];omega
 ·rintro j x ds hx ⟨ms2,rfl,l2⟩
  obtain⟨c,_,rfl⟩:=jCB hx
  refine⟨PySem.IntMulOk.of_right (by decide),by decide,?_⟩
  exact⟨ms2++[_],by rw[List.map_append];rfl,by rw[List.length_append,l2];rfl⟩
 ·rw[List.length_map];omega
 ·rintro ds ⟨ms2,rfl,l2⟩
  rw[List.length_map] at l2
  exact q ms2 (by omega)
variable (jCC:Cal P w K mg base (CXU P w) 1 "_law_mixed" ["_law_seed","_law_many"] jEZ)
theorem jAk:jAe ["_law_cell","_law_room","_law_low","_law_high","_law_value_here","_law_many","_law_at","_law_corners","_law_k"] ["_law_cell","_law_room"] (jAc jBx):=scN
include jAu jAf in
theorem jEb (F:Fun K "_law_digits_curve" "_law_digits_curve" jBx f fd):jAz P w K mg base CX0 2 f fd ["_law_cell","_law_room"] (jAj K mg jCe):=by
 refine fn3 F jAk (fun ss R U h=>?_) (fun cdv A outer s H E ss R U hr h=>?_)
 ·obtain⟨c,r,rfl,_⟩:=h;rfl
 obtain⟨c0,r,rfl,r0,r1,q⟩:=h
 refine⟨_,(jAb (jAH 2 jAk (jAi jAR jAa (jAi jAV (vN 0) jAa)))
  (jAb (jAH 3 jAk (jAi jAR jAa (jAi jAV (jAi jAY (vN 0) jAa) jAa)))
  (jAb (jAH 4 jAk (jAi jAV (jAi jAY (vN 0) jAa) jAa))
  (jAb (jAH 5 jAk (jAi jAV (jAi jAY (vN 0) jAa) (vN 1)))
  (jAb (jAH 0 jAk (jAi jAY (jAi jAY (vN 0) jAa) (vN 1)))
  (jAb (jAH 6 jAk jAa)
  (jAb (jAH 7 jAk (jGh (a1 (jA8 (a2 (jA8 (a2 jAa jAa)) (jAA hr jAf (a2 (vN 4) (vN 3))))))))
  (jAb (jKI (jC2 PassesOwn.never rfl (jDA rfl jAu (PA3.out (a1 (vN 5)))) (jBn (i:=8) jAk.nd rfl (Or.inl rfl)) (jDx.out (jAb (jAH 6 jAk (jAi jAR (jAi jAR (vN 6) jAa) (jAi jAV (vN 0) jAa)))
  (jAb (jAH 4 jAk (jAi jAR (vN 4) (jAi jAV (jAi jAY (vN 0) jAa) jAa)))
  (jAb (jAH 0 jAk (jAi jAY (vN 0) jAa))
  (jAl (jGD (jCc (jGF PySem.F.plainAttrs_list PySem.F.slot_list_append PySem.F.type_list_append jA7 (pv 7) (jA2 (PE3.out (jA8 (a2 (jAA hr jAf (a2 (vN 6) (vN 2))) (jAA hr jAf (a2 (vN 4) (vN 3)))))) jB9)))))))))))
  (jNu 7 (jBc (jA8 (a2 (vN 7) (jAA hr jAf (a2 (jAi jAV (vN 0) jAa) (jAi jAR jAa (jAi jAV (jAi jAY (vN 0) jAa) jAa)))))))))))))))),?_⟩
 have g1:=fm (a:=c0) (show(0:Int)<12 by decide)
 have g2:=fm (a:=c0.fdiv 12) (show(0:Int)<12 by decide)
 have g3:=fm (a:=c0.fdiv 144) (show(0:Int)<1000 by decide)
 have g4:=fm (a:=c0.fdiv 144000) r0
 refine⟨by decide,⟨by decide,jBV (by decide)⟩,by decide,⟨by decide,jBV (by decide)⟩,by decide,⟨by decide,jBV (by decide)⟩,Int.ne_of_gt r0,⟨by decide,jBV (by decide)⟩,⟨Int.ne_of_gt r0,jBV (by omega)⟩,?_⟩
 obtain⟨lo,elo⟩:∃lo,lo=1+c0.fmod 12:=⟨_,rfl⟩
 obtain⟨hi,ehi⟩:∃hi,hi=1+(c0.fdiv 12).fmod 12:=⟨_,rfl⟩
 obtain⟨n,en⟩:∃n,n=(c0.fdiv 144000).fmod r:=⟨_,rfl⟩
 obtain⟨v0,ev0⟩:∃v0,v0=(c0.fdiv 144).fmod 1000:=⟨_,rfl⟩
 have lo0:0<lo∧lo≤12:=by omega
 have hi0:0<hi∧hi≤12:=by omega
 have u13:∀{x:Nat},x<2^66→x<2^13000:=fun h=>jAw h (by decide)
 rw[←elo,←ehi,←en,←ev0]
 refine⟨(by show 2≤1000;decide),v0,hi,rfl,hi0.1,u13 (by omega),u13 (by omega),(by show 2≤1000;decide),(by show 1≤1000;decide),?_⟩
 refine⟨⟨by omega,by omega⟩,?_⟩
 refine⟨fun j τ=>∃(l:List (Int×Int))(c at' v:Int)(y8:Option S),τ=[I c,I r,I lo,I hi,I v,I n,I at',some (.l ((rcs l lo hi).map cd)),y8]∧jJK 65 l∧l.length=j+1∧ia l j=at'∧iv l j=v∧0≤at'∧at'≤j*100∧0≤v∧v≤1000+j*100,⟨[(0,v0)],(c0.fdiv 144000).fdiv r,0,v0,none,?_,jJK.one (by omega) (by omega),rfl,rfl,rfl,by decide,by decide,by omega,by omega⟩,?_,?_⟩
 ·have:(rcs [(0,v0)] lo hi).map cd=[.tup [tp 0 1,qd (Rat.divInt v0 hi)]]:=by
   unfold rcs
   rw[List.map_cons,List.map_nil,List.map_cons,List.map_nil,Rat.zero_divInt]
   rfl
  rw[this]
  rfl
 ·rintro j τ hj ⟨l,c,at',v,y8,rfl,hr,hll,ea,ev,a0,a1,v0',v1⟩
  have jn:(j:Int)<n:=by omega
  have f1:=fm (a:=c) (show(0:Int)<100 by decide)
  have f2:=fm (a:=c.fdiv 100) (show(0:Int)<100 by decide)
  have jj:(j:Int)≤12:=by omega
  have zb:(at'+1+c.fmod 100).natAbs<2^65:=by omega
  have zv:(v+(c.fdiv 100).fmod 100).natAbs<2^65:=by omega
  refine⟨by decide,⟨by decide,jBV (by decide)⟩,by decide,⟨by decide,jBV (by decide)⟩,?_⟩
  refine⟨at'+1+c.fmod 100,lo,rfl,lo0.1,u13 (jAw zb (by decide)),u13 (by omega),v+(c.fdiv 100).fmod 100,hi,rfl,hi0.1,u13 (jAw zv (by decide)),u13 (by omega),(by show 2≤1000;decide),by rw[List.length_map,jCb];omega,?_⟩
  have la:l.length-1=j:=by omega
  refine⟨l++[(at'+1+c.fmod 100,v+(c.fdiv 100).fmod 100)],_,_,_,_,by rw[jJT,List.map_append];rfl,hr.snoc (by omega) (by rw[la,ea];omega) (by rw[la,ev];omega) zb zv,by rw[List.length_append];simp;omega,?_,?_,by omega,by omega,by omega,by omega⟩
  ·rw[←hll];exact jNL.1
  ·rw[←hll];exact jNL.2
 rintro τ ⟨l,c,at',v,y8,rfl,hr,hll,_⟩
 have f1:=fm (a:=c) (show(0:Int)<100 by decide)
 have f2:=fm (a:=c.fdiv 100) (show(0:Int)<12 by decide)
 refine⟨by decide,⟨by decide,jBV (by decide)⟩,by decide,_,_,rfl,by omega,u13 (by omega),u13 (by omega),(by show 2≤1000;decide),?_⟩
 exact q _ _ ⟨l,lo,hi,_,_,hr,lo0,hi0,⟨f1.1,by omega⟩,⟨by omega,by omega⟩,rfl,rfl,by omega⟩
variable (jAT:Cal P w K mg base (CXU P w) 2 "_law_digits_curve" ["_law_cell","_law_room"] jCe)
theorem jBU:jAe ["_law_script","_law_some","_law_many","_law_f"] ["_law_script"] (jAc jFc):=scN
include jAo jA1 jB3 jCC jAT in
theorem jI1 (F:Fun K "_law_two" "_law_two" jFc f fd):jAz P w K mg base CX0 4 f fd ["_law_script"] (jAj K mg jGu):=by
 refine fn3 F jBU (fun ss R U h=>?_) (fun cdv A outer s H E ss R U hr h=>?_)
 ·obtain⟨ns,rfl,_⟩:=h;rfl
 obtain⟨ns,rfl,q⟩:=h
 refine⟨_,(jAb (jAH 1 jBU (jAi jAY (jAA hr jAo (a2 (vN 0) jAa)) jAa))
  (jAb (jBN (jCf jHn (jAi jAV (jAA hr jAo (a2 (vN 0) jAa)) jAa) jAa) (jBc (jGh (a2 (jAA hr jAT (a2 (jAA hr jAo (a2 (vN 0) jAa)) jAa)) (jAA hr jAT (a2 (jAA hr jAo (a2 (vN 0) jAa)) jAa))))) jAr)
  (jAb (jAH 2 jBU (jAi jAV (jAi jAY (vN 1) jAa) jAa))
  (jAb (jAH 3 jBU (jAA hr jA1 (a2 (jAA hr jB3 (jAO (vN 0) (a2 jAa (jAi jAV (vN 1) jAa)))) (jAi jAV (vN 1) jAa))))
  (jCx (jBN (jCf jHn (jAi jAV (jAi jAY (vN 1) jAa) jAa) jAa) (jAb (jAH 2 jBU (jAi jAV (vN 2) jAa))
  (jAl (jAH 3 jBU (jAA hr jA1 (a2 (jAA hr jCC (a2 (jAA hr jAo (a2 (vN 0) jAa)) jAa)) (jAi jAR jAa (jAi jAV (jAA hr jAo (a2 (vN 0) jAa)) jAa))))))) jAr)
  (jBc (jGh (a2 (vN 3) (jAA hr jA1 (a2 (jAA hr jB3 (jAO (vN 0) (a2 jAa (vN 2)))) (vN 2))))))))))),?_⟩
 refine⟨ns,0,rfl,by decide,⟨by decide,jBV (by decide)⟩,?_⟩
 generalize (cell ns 0).fdiv 2=s
 refine⟨ns,0,rfl,by decide,by decide,?_⟩
 refine jBA (fun _=>?_) (fun _=>?_)
 ·refine⟨ns,2,rfl,by decide,_,7,rfl,by decide,by decide,fun cs m h1=>?_⟩
  refine⟨ns,3,rfl,by decide,_,7,rfl,by decide,by decide,fun ds k h2=>?_⟩
  exact⟨(by show 2≤1000;decide),q cs m ds k h1 h2⟩
 have f4:=fm (a:=s.fdiv 4) (show(0:Int)<4 by decide)
 have g4:=fm (a:=s) (show(0:Int)<4 by decide)
 refine⟨⟨by decide,jBV (by decide)⟩,by decide,?_⟩
 refine⟨by decide,ns,2,_,rfl,by decide,by decide,by omega,by omega,fun ms hms=>?_⟩
 refine⟨by decide,ms,_,rfl,by omega,by omega,by omega,fun cs m h1=>?_⟩
 refine⟨fun τ=>∃(n:Int)(cs:Cs)(m:Rat),τ=[some (.r (ns.map D.int)),I s,I n,some (.d (.tup [.lst (cs.map cd),qd m]))]∧0≤n∧n<4∧CC cs m,?_,?_⟩
 ·refine⟨⟨by decide,jBV (by decide)⟩,by decide,?_⟩
  refine jBA (fun _=>?_) (fun _=>⟨_,cs,m,rfl,f4.1,f4.2,h1⟩)
  have f2:=fm (a:=(s.fdiv 4).fmod 4) (show(0:Int)<2 by decide)
  have f9:=fm (a:=cell ns 1) (show(0:Int)<9 by decide)
  refine⟨by decide,ns,1,rfl,by decide,_,12,rfl,by decide,by decide,fun ms2 h2=>?_⟩
  refine⟨ns,1,rfl,by decide,by decide,?_⟩
  refine⟨ms2,_,rfl,by omega,by omega,by omega,fun cs2 m2 h3=>?_⟩
  exact⟨_,cs2,m2,rfl,f2.1,by omega,h3⟩
 clear h1 hms
 clear cs m ms
 rintro τ ⟨n,cs,m,rfl,n0,n1,h1⟩
 refine⟨ns,11,_,rfl,by decide,by decide,by omega,by omega,fun ms hms=>?_⟩
 refine⟨ms,_,rfl,by omega,by omega,by omega,fun ds k h2=>?_⟩
 exact⟨(by show 2≤1000;decide),q cs m ds k h1 h2⟩
variable (jD8:Cal P w K mg base (CXU P w) 4 "_law_two" ["_law_script"] jGu)
theorem jAF:jAe ["_law_corners","_law_last","_law_t","_law_place","_law_k","_law_at","_law_gone","_law_rise","_law_span","_law_top","_law_bottom"] ["_law_corners","_law_last","_law_t"] (jAc jDB):=scN
include jAM jAu jA4 jAI in
theorem jHH (F:Fun K "_law_value" "_law_value" jDB f fd):jAz P w K mg base CX0 2 f fd ["_law_corners","_law_last","_law_t"] (jAj K mg jER):=by
 refine fn3 F jAF (fun ss R U h=>?_) (fun cdv A outer s H E ss R U hr h=>?_)
 ·obtain⟨x,cs,m,t,mn,md,tn,td,n,rfl,_⟩:=h;rfl
 obtain⟨x,cs,m,t,mn,md,tn,td,n,rfl,hx,c0,cl,hn,hz,hm,ht,up,q⟩:=h
 refine⟨_,(jAb (jAH 3 jAF jAa)
  (jAb (jKI (jC2 PassesOwn.never rfl (jDA rfl jAu (PA3.out (a1 (jCR jAM (vN 0))))) (jBn (i:=4) jAF.nd rfl (Or.inl rfl)) (jDx.out (jAl (jBN (w_not (jBk (jAA hr jA4 (a2 (vN 2) (jAd (jAd (vN 0) (vN 4)) jAa))))) (jAl (jAH 3 jAF (vN 4))) jAr)))))
  (jAb (jAH 5 jAF (jAd (vN 0) (vN 3)))
  (jAb (jAH 6 jAF (jAA hr jAI (a2 (vN 2) (jAd (vN 5) jAa))))
  (jAb (jAH 7 jAF (vN 1))
  (jAb (jAH 8 jAF (jA8 (a2 jAa jAa)))
  (jCx (jBN (jCf jHL (jAi jAR (vN 3) jAa) (jCR jAM (vN 0))) (jAb (jAH 7 jAF (jAA hr jAI (a2 (jAd (jAd (vN 0) (jAi jAR (vN 3) jAa)) jAa) (jAd (vN 5) jAa))))
  (jAl (jAH 8 jAF (jAA hr jAI (a2 (jAd (jAd (vN 0) (jAi jAR (vN 3) jAa)) jAa) (jAd (vN 5) jAa)))))) jAr)
  (jAb (jAH 9 jAF (jAi jAv (jAi jAv (jAd (vN 7) jAa) (jAd (vN 6) jAa)) (jAd (vN 8) jAa)))
  (jAb (jAH 10 jAF (jAi jAv (jAi jAv (jAd (vN 7) jAa) (jAd (vN 6) jAa)) (jAd (vN 8) jAa)))
  (jBc (jA8 (a2 (jAi jAR (jAi jAv (jAd (jAd (vN 5) jAa) jAa) (vN 10)) (jAi jAv (vN 9) (jAd (jAd (vN 5) jAa) jAa))) (jAi jAv (jAd (jAd (vN 5) jAa) jAa) (vN 10)))))))))))))),?_⟩
 have hl:plc cs t cs.length<cs.length:=jGO c0 _ (Nat.le_refl _)
 rcases hx with rfl|rfl|z
 ·refine⟨⟨by rw[List.length_map];omega,by rw[List.length_map];omega⟩,?_⟩
  refine⟨fun j τ=>∃(p:Int)(y:Option S),τ=[some (.d (.tup (cs.map cd))),some (.d (tp mn md)),some (.d (tp tn td)),I p,y,none,none,none,none,none,none]∧p=(plc cs t j:Nat),⟨0,_,rfl,rfl⟩,?_,?_⟩
  ·rintro j τ hj ⟨p,y,rfl,hp⟩
   rw[List.length_map] at hj
   have jl:j<cs.length:=by omega
   have b:=jBI (cs:=cs) (i:=0+j*1) j (jRi j) jl
   have zj:=hz j jl
   have wj:=Wq.of zj.1
   refine atR b ?_
   refine⟨_,_,_,_,rfl,ht.l4 wj (by omega),?_⟩
   refine jJi (fun c=>?_) (fun c=>?_)
   ·rw[ht.lt_iff wj] at c
    exact⟨_,_,rfl,by rw[jG4 c];exact jRi j⟩
   ·rw[ht.lt_iff wj] at c
    exact⟨_,_,rfl,by rw[jJg c];exact hp⟩
  rintro τ ⟨p,y,rfl,hp⟩
  rw[List.length_map,Int.toNat_natCast] at hp
  generalize ek:plc cs t cs.length=k at hp hl
  have b:=jBI (cs:=cs) (i:=p) k hp hl
  have zk:=hz k hl
  have wt:=Wq.of zk.1
  have wv:=Wq.of zk.2
  refine atR b ?_
  refine⟨_,_,_,_,rfl,ht.l4 wt (by omega),?_⟩
  have wg:=ht.minus wt
  generalize eg1:tn*((tt cs k).den:Int)-(tt cs k).num*td=gn at wg ⊢
  generalize eg2:td*((tt cs k).den:Int)=gd at wg ⊢
  refine⟨(by show 2≤1000;decide),?_⟩
  refine⟨fun τ=>∃(rn rd sn sd:Int)(r s:Rat),(∃y0 y1 y2 y3 y4,τ=[y0,y1,y2,y3,y4,some (.d (.tup [qd (tt cs k),qd (vv cs k)])),some (.d (tp gn gd)),some (.d (tp rn rd)),some (.d (tp sn sd)),none,none])∧Wq (n+n+1) rn rd r∧Wq (n+n+1) sn sd s∧0<s∧slp cs m k=r/s,?_,?_⟩
  ·refine jBA (fun c=>?_) (fun c=>?_)
   ·have c':k+1<cs.length:=by rw[List.length_map] at c;omega
    have b2:=jBI (cs:=cs) (i:=p+1) (k+1) (by omega) c'
    have z2:=hz (k+1) c'
    refine atR b2 ?_
    refine⟨_,_,_,_,rfl,(Wq.of z2.2).l4 wv (by omega),?_⟩
    refine atR b2 ?_
    refine⟨_,_,_,_,rfl,(Wq.of z2.1).l4 wt (by omega),?_⟩
    exact⟨_,_,_,_,_,_,⟨_,_,_,_,_,rfl⟩,(Wq.of z2.2).minus wv,(Wq.of z2.1).minus wt,jJH (up k c'),jCs c'⟩
   ·have c':¬k+1<cs.length:=by rw[List.length_map] at c;omega
    exact⟨_,_,1,1,m,1,⟨_,_,_,_,_,rfl⟩,hm.mono (by omega),Wq.one.mono (by omega),by decide,(jBo c').trans (jJR m)⟩
  rintro τ ⟨rn,rd,sn,sd,r,s,⟨y0,y1,y2,y3,y4,rfl⟩,wr,ws,s0,hs⟩
  have wi:=(ws.inv s0).2
  have w1:=wr.mul wg
  have w2:=w1.mul wi
  have w3:=(wv.plus w2).cast (jNW.trans (show _=val cs m t by unfold val;rw[ek,hs]))
  refine⟨jAt wr.la wg.la (by omega),jAt w1.la wi.la (by omega),jAt wr.lb wg.lb (by omega),jAt w1.lb wi.lb (by omega),?_⟩
  refine⟨jAt wv.la w2.lb (by omega),jAt w2.la wv.lb (by omega),jAt wv.lb w2.lb (by omega),(by show 2≤1000;decide),?_⟩
  exact q _ _ (w3.mono (by omega))
 ·refine⟨⟨by rw[List.length_map];omega,by rw[List.length_map];omega⟩,?_⟩
  refine⟨fun j τ=>∃(p:Int)(y:Option S),τ=[some (.d (.lst (cs.map cd))),some (.d (tp mn md)),some (.d (tp tn td)),I p,y,none,none,none,none,none,none]∧p=(plc cs t j:Nat),⟨0,_,rfl,rfl⟩,?_,?_⟩
  ·rintro j τ hj ⟨p,y,rfl,hp⟩
   rw[List.length_map] at hj
   have jl:j<cs.length:=by omega
   have b:=jBI (cs:=cs) (i:=0+j*1) j (jRi j) jl
   have zj:=hz j jl
   have wj:=Wq.of zj.1
   refine atR b ?_
   refine⟨_,_,_,_,rfl,ht.l4 wj (by omega),?_⟩
   refine jJi (fun c=>?_) (fun c=>?_)
   ·rw[ht.lt_iff wj] at c
    exact⟨_,_,rfl,by rw[jG4 c];exact jRi j⟩
   ·rw[ht.lt_iff wj] at c
    exact⟨_,_,rfl,by rw[jJg c];exact hp⟩
  rintro τ ⟨p,y,rfl,hp⟩
  rw[List.length_map,Int.toNat_natCast] at hp
  generalize ek:plc cs t cs.length=k at hp hl
  have b:=jBI (cs:=cs) (i:=p) k hp hl
  have zk:=hz k hl
  have wt:=Wq.of zk.1
  have wv:=Wq.of zk.2
  refine atR b ?_
  refine⟨_,_,_,_,rfl,ht.l4 wt (by omega),?_⟩
  have wg:=ht.minus wt
  generalize eg1:tn*((tt cs k).den:Int)-(tt cs k).num*td=gn at wg ⊢
  generalize eg2:td*((tt cs k).den:Int)=gd at wg ⊢
  refine⟨(by show 2≤1000;decide),?_⟩
  refine⟨fun τ=>∃(rn rd sn sd:Int)(r s:Rat),(∃y0 y1 y2 y3 y4,τ=[y0,y1,y2,y3,y4,some (.d (.tup [qd (tt cs k),qd (vv cs k)])),some (.d (tp gn gd)),some (.d (tp rn rd)),some (.d (tp sn sd)),none,none])∧Wq (n+n+1) rn rd r∧Wq (n+n+1) sn sd s∧0<s∧slp cs m k=r/s,?_,?_⟩
  ·refine jBA (fun c=>?_) (fun c=>?_)
   ·have c':k+1<cs.length:=by rw[List.length_map] at c;omega
    have b2:=jBI (cs:=cs) (i:=p+1) (k+1) (by omega) c'
    have z2:=hz (k+1) c'
    refine atR b2 ?_
    refine⟨_,_,_,_,rfl,(Wq.of z2.2).l4 wv (by omega),?_⟩
    refine atR b2 ?_
    refine⟨_,_,_,_,rfl,(Wq.of z2.1).l4 wt (by omega),?_⟩
    exact⟨_,_,_,_,_,_,⟨_,_,_,_,_,rfl⟩,(Wq.of z2.2).minus wv,(Wq.of z2.1).minus wt,jJH (up k c'),jCs c'⟩
   ·have c':¬k+1<cs.length:=by rw[List.length_map] at c;omega
    exact⟨_,_,1,1,m,1,⟨_,_,_,_,_,rfl⟩,hm.mono (by omega),Wq.one.mono (by omega),by decide,(jBo c').trans (jJR m)⟩
  rintro τ ⟨rn,rd,sn,sd,r,s,⟨y0,y1,y2,y3,y4,rfl⟩,wr,ws,s0,hs⟩
  have wi:=(ws.inv s0).2
  have w1:=wr.mul wg
  have w2:=w1.mul wi
  have w3:=(wv.plus w2).cast (jNW.trans (show _=val cs m t by unfold val;rw[ek,hs]))
  refine⟨jAt wr.la wg.la (by omega),jAt w1.la wi.la (by omega),jAt wr.lb wg.lb (by omega),jAt w1.lb wi.lb (by omega),?_⟩
  refine⟨jAt wv.la w2.lb (by omega),jAt w2.la wv.lb (by omega),jAt wv.lb w2.lb (by omega),(by show 2≤1000;decide),?_⟩
  exact q _ _ (w3.mono (by omega))
 ·exact z.elim
variable (jA3:Cal P w K mg base (CXU P w) 2 "_law_value" ["_law_corners","_law_last","_law_t"] jER)
theorem jDp:jAe ["_law_found","_law_number"] ["_law_found"] (jAc jCw):=scN
include jAm jIP jF5 jAM jEw jAf in
theorem jFA (F:Fun K "_law_is_ratio" "_law_is_ratio" jCw f fd):jAz P w K mg base CX0 2 f fd ["_law_found"] (jAj K mg jDu):=by
 refine fn3 F jDp (fun ss R U h=>?_) (fun cdv A outer s H E ss R U hr h=>?_)
 ·obtain⟨q0,rfl,_⟩:=h;rfl
 obtain⟨q0,rfl,hz,q⟩:=h
 refine⟨_,(jKi (jBN (PW3.pt (jIS (w_not (jBk (jKT .tuple (vN 0) rfl jAm rfl jEw PyProof.Rows.boot_tuple))) (jHz (jCf jQC (jCR jAM (vN 0)) jAa)))) (jBc jKv) jAr)
  (jAb (jNx (jC2 PassesOwn.never rfl (jB7 (pv 0)) (jBn (i:=1) jDp.nd rfl (Or.inl rfl)) (jDx.out (jAl (jBN (PW3.pt (jIS (w_not (jBk (jKT .int (vN 1) rfl jAm rfl jIP PyProof.Rows.boot_int))) (jHz (jBk (jKT .bool (vN 1) rfl jAm rfl jF5 PyProof.Rows.boot_bool))))) (jBc jKv) jAr)))))
  (jBc (jOn (jLj jQc (jAd (vN 0) jAa) jAa (jG3 _)) (jOv (jLj (jQx 1 (hu_ hr (by decide))) (jAA hr jAf (a2 (jAd (vN 0) jAa) (jAd (vN 0) jAa))) (vN 0) (jG3 _))))))),?_⟩
 have hd:=den_pos q0
 refine⟨⟨trivial,rfl⟩,?_⟩
 refine⟨fun n τ=>∃z,τ=[some (.d (qd q0)),z],⟨_,rfl⟩,?_,?_⟩
 ·rintro n τ x hx ⟨z,rfl⟩
  have ex:∃i,x=.int i:=by
   match n,hx with
   |0,hx=>exact⟨_,(Option.some.inj hx).symm⟩
   |1,hx=>exact⟨_,(Option.some.inj hx).symm⟩
  obtain⟨i,rfl⟩:=ex
  exact⟨trivial,⟨trivial,⟨_,rfl⟩⟩⟩
 rintro τ ⟨z,rfl⟩
 refine jBA (fun _=>?_) (fun c=>absurd (show(0:Int)<q0.den by omega) c)
 refine⟨q0.num,q0.den,rfl,by omega,hz.1,jAB hz,rfl,rfl,?_⟩
 rw[Rat.num_divInt_den]
 have e:eqN 1 (qd q0) (qd q0)=true:=jFM 1 _ rfl
 show R (.d (.bl (eqN 1 (qd q0) (qd q0))))
 rw[e]
 exact q
variable (jBE:Cal P w K mg base (CXU P w) 2 "_law_is_ratio" ["_law_found"] jDu)
theorem jHW:jAe ["_law_script","_law_k"] ["_law_script","_law_k"] (jAc jEA):=scN
include jAM in
theorem jIc (F:Fun K "_law_back" "_law_back" jEA f fd):jAz P w K mg base CX0 1 f fd ["_law_script","_law_k"] (jAj K mg jFp):=by
 refine fn3 F jHW (fun ss R U h=>?_) (fun cdv A outer s H E ss R U hr h=>?_)
 ·obtain⟨ns,k,rfl,_⟩:=h;rfl
 obtain⟨ns,k,rfl,k0,q⟩:=h
 refine⟨_,(jAb (jBN (jCf jHL (vN 1) (jCR jAM (vN 0))) (jBc (jAd (vN 0) (jAi jC0 (jAi jC0 (jCR jAM (vN 0)) jAa) (vN 1)))) jAr)
  (jBc jAa)),?_⟩
 refine jBA (fun c=>?_) (fun _=>q 0)
 rw[List.length_map] at c
 refine atR (jD1 (ms:=ns) (ns.length-1-k.toNat) (by rw[List.length_map];omega) (by omega)) ?_
 exact q _
variable (jBg:Cal P w K mg base (CXU P w) 1 "_law_back" ["_law_script","_law_k"] jFp)
theorem jBZ:jAe ["_law_cell","_law_other","_law_rows","_law_way","_law_at","_law_many"] ["_law_cell","_law_other","_law_rows"] (jAc jDe):=scN
include jAM jAf in
theorem jGJ (F:Fun K "_law_moment" "_law_moment" jDe f fd):jAz P w K mg base CX0 2 f fd ["_law_cell","_law_other","_law_rows"] (jAj K mg jEh):=by
 refine fn3 F jBZ (fun ss R U h=>?_) (fun cdv A outer s H E ss R U hr h=>?_)
 ·obtain⟨c,o,x,ps,n,rfl,_⟩:=h;rfl
 obtain⟨c,o,x,ps,n,rfl,hx,p0,p1,n0,n1,hp,q⟩:=h
 refine⟨_,(jAb (jAH 3 jBZ (jAi jAV (vN 0) jAa))
  (jAb (jAH 4 jBZ (jAd (vN 2) (jAi jAV (jAi jAY (vN 0) jAa) (jCR jAM (vN 2)))))
  (jAb (jBN (jCf jHn (vN 3) jAa) (jAl (jDQ (pv 4))) jAr)
  (jAb (jAH 5 jBZ (jAi jAR jAa (jAi jAV (jAi jAY (vN 1) jAa) (jAi jHQ jAa jAa))))
  (jKi (jBN (PW3.pt (jJ1 (jCf jHn (vN 3) jAa) (jGW (jCf jHn (jAi jAV (vN 1) jAa) jAa)))) (jBc (jAA hr jAf (a2 (jAi jAR (jAi jAv (jAd (vN 4) jAa) (vN 5)) (jAd (vN 4) jAa)) (jAi jAv (jAd (vN 4) jAa) (vN 5))))) jAr)
  (jAb (jBN (jCf jHn (vN 3) jAa) (jBc (jAA hr jAf (a2 (jAi jAv (jAd (vN 4) jAa) (jAi jAV (vN 5) jAa)) (jAi jAv (jAd (vN 4) jAa) jAa)))) jAr)
  (jBc (jAA hr jAf (a2 (jAi jAV (jAi jAY (vN 0) jAa) (jAi jHQ jAa jAa)) (vN 5)))))))))),?_⟩
 rcases hx with rfl|z
 rotate_left
 ·exact z.elim
 have lN:(((ps.map pD).length:Nat):Int)≠0:=by rw[List.length_map];omega
 have f:=fm (a:=c.fdiv 3) (m:=(((ps.map pD).length:Nat):Int)) (by rw[List.length_map];omega)
 obtain⟨x,ex,mx⟩:=jQd f.1 f.2
 obtain⟨p,pm,rfl⟩:=List.mem_map.mp mx
 obtain⟨wp,p00⟩:=hp p pm
 have pn:=wp.nn p00
 refine⟨by decide,⟨by decide,jBV (by decide)⟩,lN,?_⟩
 refine atR ex ?_
 refine jBA (fun _=>?_) (fun _=>?_)
 ·exact q p (wp.mono (by omega)) p00 (fun h=>h p pm)
 have h9:(0:Int)<10^(9:Int).toNat:=by decide
 have h91:(10:Int)^(9:Int).toNat<2^30:=by decide
 have h30:(0:Int)<10^(30:Int).toNat:=by decide
 have h31:(10:Int)^(30:Int).toNat<2^100:=by decide
 have f9:=fm (a:=o.fdiv 2) h9
 have f30:=fm (a:=c.fdiv 3) h30
 refine⟨⟨by decide,jBV (by decide)⟩,⟨by decide,by decide,by decide⟩,Int.ne_of_gt h9,?_⟩
 generalize (o.fdiv 2).fmod (10^(9:Int).toNat)=y at f9 ⊢
 have y0:0<1+y:=by omega
 have y1:(1+y).natAbs<2^31:=by omega
 have low:∀A B:Int,0<B→0≤A→A.natAbs<2^(n+40)→B.natAbs<2^(n+40)→R (.d (qd (Rat.divInt A B))):=fun A B b0 a0 a1 b1=>by
  have s:=jGL b0 a1 b1
  exact q ((Rat.divInt A B).num,((Rat.divInt A B).den:Int),Rat.divInt A B) (Wq.of s) (jGq b0 a0) (fun _=>rfl)
 have up13:∀{x:Nat},x<2^(n+40)→x<2^13000:=fun h=>jAw h (by omega)
 have m1:=jAh wp.la y1
 have m2:=jAh wp.lb y1
 have P0:=wp.pos
 refine⟨jBA (fun _=>⟨by decide,jBA (fun _=>?_) (fun _=>rfl)⟩) (fun _=>rfl),?_⟩
 ·have A0:0≤p.1*(1+y)+p.2.1:=Int.add_nonneg (Int.mul_nonneg pn (Int.le_of_lt y0)) (Int.le_of_lt P0)
  have A1:(p.1*(1+y)+p.2.1).natAbs<2^(n+40):=jAw (jEX m1 (jAw wp.lb (by omega))) (by omega)
  have B1:(p.2.1*(1+y)).natAbs<2^(n+40):=jAw m2 (by omega)
  exact⟨jAt wp.la y1 (by omega),jAt wp.lb y1 (by omega),_,_,rfl,Int.mul_pos P0 y0,up13 A1,up13 B1,low _ _ (Int.mul_pos P0 y0) A0 A1 B1⟩
 refine jBA (fun _=>?_) (fun _=>?_)
 ·have f100:=fm (a:=1+y) (show(0:Int)<100 by decide)
  have z1:((1+y).fmod 100).natAbs<2^31:=by omega
  have A1:(p.1*(1+y).fmod 100).natAbs<2^(n+40):=jAw (jAh wp.la z1) (by omega)
  have B1:(p.2.1*100).natAbs<2^(n+40):=jAw (jAh (m:=31) wp.lb (by decide)) (by omega)
  exact⟨by decide,jAt wp.la z1 (by omega),jAt (n:=31) wp.lb (by decide) (by omega),_,_,rfl,Int.mul_pos P0 (by decide),up13 A1,up13 B1,low _ _ (Int.mul_pos P0 (by decide)) (Int.mul_nonneg pn f100.1) A1 B1⟩
 have c1:((c.fdiv 3).fmod (10^(30:Int).toNat)).natAbs<2^101:=by omega
 have A1:((c.fdiv 3).fmod (10^(30:Int).toNat)).natAbs<2^(n+40):=jAw c1 (by omega)
 have B1:(1+y).natAbs<2^(n+40):=jAw y1 (by omega)
 exact⟨⟨by decide,jBV (by decide)⟩,⟨by decide,by decide,by decide⟩,Int.ne_of_gt h30,_,_,rfl,y0,up13 A1,up13 B1,low _ _ y0 f30.1 A1 B1⟩
variable (jBB:Cal P w K mg base (CXU P w) 2 "_law_moment" ["_law_cell","_law_other","_law_rows"] jEh)
theorem jDC:jAe ["_law_f","_law_g","_law_t","e"] ["_law_f","_law_g","_law_t"] (jAc jCU):=scN
variable (z_ValueError:mg "ValueError"=none)
variable (m_CurveError:mg "CurveError"=some (.ref K_CurveError))
variable (hn_CurveError:HnC K K_CurveError)
variable (mr_NoTime_CurveError:PySem.W.mroIn K K_NoTime (.ref K_CurveError)=some true)
variable (kT_NoTime_ValueError:PySem.W.kitOne K (.ref K_NoTime) (.type "ValueError")=some true)
variable (xi_NoTime:ExI K K_NoTime)
variable (kt_NoTime_NoTime:PySem.W.kitOne K (.ref K_NoTime) (.ref K_NoTime)=some true)
variable (m_NoRow:mg "NoRow"=some (.ref K_NoRow))
variable (kt_NoTime_NoRow:PySem.W.kitOne K (.ref K_NoTime) (.ref K_NoRow)=some false)
variable (m_NoEnd:mg "NoEnd"=some (.ref K_NoEnd))
variable (kt_NoTime_NoEnd:PySem.W.kitOne K (.ref K_NoTime) (.ref K_NoEnd)=some false)
variable (m_NoName:mg "NoName"=some (.ref K_NoName))
variable (kt_NoTime_NoName:PySem.W.kitOne K (.ref K_NoTime) (.ref K_NoName)=some false)
variable (m_NoText:mg "NoText"=some (.ref K_NoText))
variable (kt_NoTime_NoText:PySem.W.kitOne K (.ref K_NoTime) (.ref K_NoText)=some false)
variable (m_NoHouse:mg "NoHouse"=some (.ref K_NoHouse))
variable (kt_NoTime_NoHouse:PySem.W.kitOne K (.ref K_NoTime) (.ref K_NoHouse)=some false)
variable (m_NoRatio:mg "NoRatio"=some (.ref K_NoRatio))
variable (kt_NoTime_NoRatio:PySem.W.kitOne K (.ref K_NoTime) (.ref K_NoRatio)=some false)
variable (m_NoWay:mg "NoWay"=some (.ref K_NoWay))
variable (kt_NoTime_NoWay:PySem.W.kitOne K (.ref K_NoTime) (.ref K_NoWay)=some false)
variable (kt_NoTime_NoCurve:PySem.W.kitOne K (.ref K_NoTime) (.ref K_NoCurve)=some false)
include jAm m_NoCurve m_NoTime jGs z_ValueError m_CurveError hn_CurveError mr_NoTime_CurveError kT_NoTime_ValueError xi_NoTime kt_NoTime_NoTime m_NoRow kt_NoTime_NoRow m_NoEnd kt_NoTime_NoEnd m_NoName kt_NoTime_NoName m_NoText kt_NoTime_NoText m_NoHouse kt_NoTime_NoHouse m_NoRatio kt_NoTime_NoRatio m_NoWay kt_NoTime_NoWay kt_NoTime_NoCurve in
theorem jGo (F:Fun K "_law_refused" "_law_refused" jCU f fd):jAz P w K mg base CX0 10 f fd ["_law_f","_law_g","_law_t"] (jAj K mg jDW):=by
 refine fn3 F jDC (fun ss R U h=>?_) (fun cdv A outer s H E ss R U hr h=>?_)
 ·obtain⟨fc,fm,gc,gm,t,a,b,c,n,rfl,_⟩:=h;rfl
 obtain⟨fc,fm,gc,gm,t,a,b,c,n,rfl,bth,zt,hn,t0,q⟩:=h
 refine⟨_,(jCx (jOs (i:=3) (y0:="NoTime") rfl rfl (fun _ _ z=>z) jGs (hr.mono (by decide)) rfl (jAO (vN 0) (a2 (vN 1) (vN 2))) jDC.nd rfl (Or.inl rfl) rfl rfl m_CurveError hn_CurveError (jS2 m_NoTime mr_NoTime_CurveError) m_NoTime (fun ea oe hO=>(jKi (jBN (PW3.pt (jIS (jBk (jHj hO xi_NoTime kt_NoTime_NoCurve (pv 3) rfl m_NoCurve rfl jAm)) (jIS (jBk (jHj hO xi_NoTime kt_NoTime_NoWay (pv 3) rfl m_NoWay rfl jAm)) (jIS (jBk (jHj hO xi_NoTime kt_NoTime_NoRatio (pv 3) rfl m_NoRatio rfl jAm)) (jHz (jBk (jHj hO xi_NoTime kt_NoTime_NoHouse (pv 3) rfl m_NoHouse rfl jAm))))))) (jBc jKv) jAr)
  (jKi (jBN (PW3.pt (jIS (jBk (jHj hO xi_NoTime kt_NoTime_NoText (pv 3) rfl m_NoText rfl jAm)) (jIS (jBk (jHj hO xi_NoTime kt_NoTime_NoName (pv 3) rfl m_NoName rfl jAm)) (jIS (jBk (jHj hO xi_NoTime kt_NoTime_NoEnd (pv 3) rfl m_NoEnd rfl jAm)) (jHz (jBk (jHj hO xi_NoTime kt_NoTime_NoRow (pv 3) rfl m_NoRow rfl jAm))))))) (jBc jKv) jAr)
  (jBc (jOn (jHj hO xi_NoTime kt_NoTime_NoTime (pv 3) rfl m_NoTime rfl jAm) (jOv (jPQ (T:="ValueError") hO xi_NoTime kT_NoTime_ValueError (pv 3) rfl z_ValueError jF2 rfl jAm))))))))
  (jBc jKv)),?_⟩
 refine⟨fun _=>False,?_,fun _ z=>z.elim⟩
 refine⟨fc,fm,gc,gm,t,a,b,c,n,rfl,bth,zt,hn,fun z=>absurd t0 (Rat.not_lt.mpr z),fun z=>absurd t0 (Rat.not_lt.mpr z),fun _=>⟨rfl,fun ea=>?_⟩⟩
 refine⟨⟨rfl,rfl,rfl,rfl,rfl⟩,⟨rfl,rfl,rfl,rfl,rfl⟩,?_⟩
 exact⟨rfl,rfl,q⟩
variable (jB0:Cal P w K mg base (CXU P w) 10 "_law_refused" ["_law_f","_law_g","_law_t"] jDW)
theorem jI6:jAe ["_law_f","_law_g","_law_t","_law_u"] ["_law_f","_law_g","_law_t","_law_u"] (jAc jE8):=scN
include jAI jDn jA3 in
theorem jI3 (F:Fun K "_law_gap" "_law_gap" jE8 f fd):jAz P w K mg base CX0 3 f fd ["_law_f","_law_g","_law_t","_law_u"] (jAj K mg jGa):=by
 refine fn3 F jI6 (fun ss R U h=>?_) (fun cdv A outer s H E ss R U hr h=>?_)
 ·obtain⟨cs,m,ds,k,tn,td,un,ud,t,u,rfl,_⟩:=h;rfl
 obtain⟨cs,m,ds,k,tn,td,un,ud,t,u,rfl,h1,h2,wt,wu,q⟩:=h
 refine⟨_,(jBc (jAA hr jAI (a2 (jAA hr jA3 (jAO (jAd (vN 0) jAa) (a2 (jAd (vN 0) jAa) (jAA hr jDn (a2 (vN 2) (vN 3)))))) (jAA hr jA3 (jAO (jAd (vN 1) jAa) (a2 (jAd (vN 1) jAa) (vN 3))))))),?_⟩
 have c1:=h1.f
 have c2:=h2.f
 have oc:=c1.r.o
 have od:=c2.r.o
 have lc:=c1.n
 have ld:=c2.n
 refine⟨_,_,_,_,rfl,wt.l4 wu (by decide),?_⟩
 have w2:=wt.plus wu
 refine⟨_,cs,m,t+u,_,_,_,_,1400+1400+1,rfl,Or.inr (Or.inl rfl),oc.ne,by omega,by decide,c1.z.mono (by decide),(Wq.of c1.zm).mono (by decide),w2,oc.up,fun A2 B2 w3=>?_⟩
 refine⟨_,ds,k,u,_,_,_,_,1400+1400+1,rfl,Or.inr (Or.inl rfl),od.ne,by omega,by decide,c2.z.mono (by decide),(Wq.of c2.zm).mono (by decide),wu.mono (by decide),od.up,fun A3 B3 w4=>?_⟩
 have w3:=w3.mono (show 7*(1400+1400+1)+4≤20000 by decide)
 have w4:=w4.mono (show 7*(1400+1400+1)+4≤20000 by decide)
 refine⟨_,_,_,_,rfl,w3.l4 w4 (by decide),?_⟩
 exact q _ _ (w3.minus w4)
variable (jCY:Cal P w K mg base (CXU P w) 3 "_law_gap" ["_law_f","_law_g","_law_t","_law_u"] jGa)
theorem jB8:jAe ["_law_script","_law_both","_law_f","_law_g","_law_one","_law_other","_law_whole","_law_some","_law_k","_law_t","_law_u","_law_best","_law_rows","_law_v","_law_worth"] ["_law_script"] (jAc jFW):=scN
variable (jIk:mg "list"=none)
variable (jMN:mg "max"=none)
variable (jM9:mg "min"=none)
include jAM jAu jDU jFI jGs jAo jAf jA4 jAI jD8 jA3 jBE jBg jBB jB0 jCY jIk jMN jM9 in
theorem jQS (F:Fun K "law" "law" jFW f fd):jAz P w K mg base CX0 11 f fd ["_law_script"] (jAj K mg jP6):=by
 refine fn3 F jB8 (fun ss R U h=>?_) (fun cdv A outer s H E ss R U hr h=>?_)
 ·obtain⟨ns,rfl,_⟩:=h;rfl
 obtain⟨ns,rfl,hl,q⟩:=h
 refine⟨_,(jAb (jAH 1 jB8 (jAA hr jD8 (a1 (vN 0))))
  (jAb (jAH 2 jB8 (jAd (vN 1) jAa))
  (jAb (jAH 3 jB8 (jAd (vN 1) jAa))
  (jCx (jBN (jCf jHn (jAi jAV (jAA hr jAo (a2 (vN 0) jAa)) jAa) jAa) (jAl (jAH 3 jB8 (jA8 (a2 (jAd (vN 3) jAa) (jAd (vN 2) jAa))))) jAr)
  (jAb (jAH 4 jB8 (jAA hr jDU (a2 (jJn (jAd (vN 2) jAa) rfl jIk) (jAd (vN 2) jAa))))
  (jAb (jAH 5 jB8 (jAA hr jDU (a2 (jJn (jAd (vN 3) jAa) rfl jIk) (jAd (vN 3) jAa))))
  (jAb (jBN (w_not (jBk (jAA hr jB0 (jAO (vN 4) (a2 (vN 5) (jAA hr jAf (a2 (jAi jC0 (jEG jAa) (jAi jAV (jAA hr jBg (a2 (vN 0) jAa)) (jAi jHQ jAa jAa))) jAa))))))) (jBc jKv) jAr)
  (jAb (jAH 6 jB8 (jAA hr jFI (a2 (vN 4) (vN 5))))
  (jAb (jAH 7 jB8 (jNT (jE4 (N:=["_law_corner"]) (idx:=[]) (jAP.mk' (jAc jFW) ["_law_script","_law_both","_law_f","_law_g","_law_one","_law_other","_law_whole","_law_some","_law_k","_law_t","_law_u","_law_best","_law_rows","_law_v","_law_worth"] rfl rfl (by decide +kernel)) rfl (jB7 (PE3.out (jAd (vN 2) jAa))) jCt (fun cl C s₀ H₀ fp=>jBL) (fun cl C s₀ H₀ fp=>(jAd (vN 0) jAa))) (jE4 (N:=["_law_corner"]) (idx:=[]) (jAP.mk' (jAc jFW) ["_law_script","_law_both","_law_f","_law_g","_law_one","_law_other","_law_whole","_law_some","_law_k","_law_t","_law_u","_law_best","_law_rows","_law_v","_law_worth"] rfl rfl (by decide +kernel)) rfl (jB7 (PE3.out (jAd (vN 3) jAa))) jCt (fun cl C s₀ H₀ fp=>jBL) (fun cl C s₀ H₀ fp=>(jAd (vN 0) jAa)))))
  (jAb (jPS (jC2 PassesOwn.never rfl (jLR rfl jAu (PA3.out (jAO jAa (a2 (jE7 (jSn rfl) rfl jMN L3.boot_max (a2 jAa (jE7 (jRN rfl) rfl jM9 L3.boot_min (a2 (jCR jAM (vN 0)) jAa)))) jAa)))) (jBn (i:=8) jB8.nd rfl (Or.inl rfl)) (jDx.out (jAb (jAH 9 jB8 (jAA hr jBB (jAO (jAA hr jBg (a2 (vN 0) (jAi jAR (vN 8) jAa))) (a2 (jAA hr jBg (a2 (vN 0) (vN 8))) (vN 7)))))
  (jAb (jAH 10 jB8 (jAA hr jGs (jAO (vN 4) (a2 (vN 5) (vN 9)))))
  (jAl (jBN (jBk (jAA hr jA4 (a2 (jAd (vN 3) jAa) (jAd (vN 2) jAa)))) (jAl (jBN (jCf jQJ (vN 10) jL5) (jBc jKv) jAr)) (jKi (jBN (PW3.pt (jIS (jCf jQK (vN 10) jL5) (jIS (w_not (jBk (jAA hr jBE (a1 (vN 10))))) (jIS (jCf jHL (jAd (vN 10) jAa) jAa) (jHz (jCf jQK (vN 6) jL5)))))) (jBc jKv) jAr)
  (jAb (jAH 11 jB8 (jAA hr jCY (jAO (vN 2) (jAO (vN 3) (a2 (vN 9) (vN 10))))))
  (jAb (jIb (i:=12) (N:=["_law_corner"]) (idx:=[]) (jAP.mk' (jAc jFW) ["_law_script","_law_both","_law_f","_law_g","_law_one","_law_other","_law_whole","_law_some","_law_k","_law_t","_law_u","_law_best","_law_rows","_law_v","_law_worth"] rfl rfl (by decide +kernel)) rfl (jB7 (PE3.out (jAd (vN 3) jAa))) jCt (fun cl C s₀ H₀ fp=>jBL) (fun cl C s₀ H₀ fp=>(jAd (vN 0) jAa)) jB8.nd rfl (Or.inl rfl))
  (jAb (jAH 12 jB8 (jNT (vN 12) (jE4 (N:=["_law_corner","_law_t"]) (idx:=[9]) (jAP.mk' (jAc jFW) ["_law_script","_law_both","_law_f","_law_g","_law_one","_law_other","_law_whole","_law_some","_law_k","_law_t","_law_u","_law_best","_law_rows","_law_v","_law_worth"] rfl rfl (by decide +kernel)) rfl (jB7 (PE3.out (jAd (vN 2) jAa))) jCt (fun cl C s₀ H₀ fp=>(jI2 (w_not (jBk (jAA hr jA4 (a2 (jAd (vN 0) jAa) (vN 1))))))) (fun cl C s₀ H₀ fp=>(jAA hr jAI (a2 (jAd (vN 0) jAa) (vN 1)))))))
  (jAb (jGD (jCc (jGF PySem.F.plainAttrs_list PySem.F.slot_list_append PySem.F.type_list_append jA7 (pv 12) (jA2 (PE3.out (jAA hr jBB (jAO (jAA hr jBg (a2 (vN 0) (vN 8))) (a2 (jAA hr jBg (a2 (vN 0) (jAi jAR (vN 8) jAa))) (vN 7))))) jB9))))
  (jAb (jNx (jC2 PassesOwn.never rfl (jB7 (pv 12)) (jBn (i:=13) jB8.nd rfl (Or.inl rfl)) (jDx.out (jAl (jBN (jBk (jAA hr jA4 (a2 (vN 11) (jAA hr jCY (jAO (vN 2) (jAO (vN 3) (a2 (vN 9) (vN 13)))))))) (jBc jKv) jAr)))))
  (jAb (jAH 14 jB8 (jAA hr jA3 (jAO (jAd (vN 6) jAa) (a2 (jAd (vN 6) jAa) (vN 9)))))
  (jAl (jBN (jCf jHn (jAd (vN 14) jAa) jAa) (jAl (jBN (jCf jQc (jAd (vN 11) jAa) jAa) (jBc jKv) jAr)) (jAl (jBN (jCf jQC (jAi jAv (jAd (vN 11) jAa) (jAd (vN 14) jAa)) (jAi jAv (jAd (vN 14) jAa) (jAd (vN 11) jAa))) (jBc jKv) jAr))))))))))))))))))
  (jBc jKv))))))))))),?_⟩
 refine⟨ns,rfl,fun cs m ds k h1 h2=>?_⟩
 refine⟨fun τ=>∃(cs ds:Cs)(m k:Rat)(y1:Option S),τ=[some (.r (ns.map D.int)),y1,some (.d (.tup [.lst (cs.map cd),qd m])),some (.d (.tup [.lst (ds.map cd),qd k])),none,none,none,none,none,none,none,none,none,none,none]∧CC cs m∧CC ds k,?_,?_⟩
 ·refine⟨ns,1,rfl,by decide,by decide,?_⟩
  refine jBA (fun _=>?_) (fun _=>⟨cs,ds,m,k,_,rfl,h1,h2⟩)
  exact⟨(by show 2≤1000;decide),cs,ds,m,m,_,rfl,h1,h2.last h1⟩
 clear h1 h2
 clear cs ds m k
 rintro τ ⟨cs,ds,m,k,y1,rfl,h1,h2⟩
 have c1:=h1.f
 have c2:=h2.f
 have oc:=c1.r.o
 have od:=c2.r.o
 have lc:=c1.n
 have ld:=c2.n
 refine⟨_,cs,m,rfl,Or.inr rfl,⟨by omega,c1.z.mono (by decide),c1.zm.mono (by decide)⟩,fun _=>?_,fun z=>absurd ⟨oc,c1.r.m0⟩ z⟩
 refine⟨_,ds,k,rfl,Or.inr rfl,⟨by omega,c2.z.mono (by decide),c2.zm.mono (by decide)⟩,fun _=>?_,fun z=>absurd ⟨od,c2.r.m0⟩ z⟩
 have hc:=jHm oc c1.r.m0
 have hd:=jHm od c2.r.m0
 have n1:=jIr cs m (cs.length-1)
 have n2:=jIr ds k (ds.length-1)
 have n3:=oc.ne
 have n4:=od.ne
 have wm:Wq 60 m.num (m.den:Int) m:=Wq.of c1.zm
 have wk:Wq 60 k.num (k.den:Int) k:=Wq.of c2.zm
 have okc:Ord (kp cs m (cs.length-1)):=⟨hc.ne,hc.t0,hc.v0,hc.up,hc.vu⟩
 have okd:Ord (kp ds k (ds.length-1)):=⟨hd.ne,hd.t0,hd.v0,hd.up,hd.vu⟩
 have bnd:(2*((kp cs m (cs.length-1)).length*(kp ds k (ds.length-1)).length)+2*(kp cs m (cs.length-1)).length+(kp ds k (ds.length-1)).length+3)*((kp cs m (cs.length-1)).length+(kp ds k (ds.length-1)).length+1)≤40000:=by
  have:=Nat.mul_le_mul (show(kp cs m (cs.length-1)).length≤13 by omega) (show(kp ds k (ds.length-1)).length≤13 by omega)
  exact Nat.le_trans (Nat.mul_le_mul (show _≤400 by omega) (show _≤27 by omega)) (by decide)
 have h20:(0:Int)<10^(20:Int).toNat:=by decide
 have h21:(10:Int)^(20:Int).toNat<2^100:=by decide
 refine⟨ns,1,rfl,by decide,fun v=>?_⟩
 have fv:=fm (a:=v) h20
 have x1:(-1-v.fmod (10^(20:Int).toNat)).natAbs<2^101:=by omega
 have ng:Rat.divInt (-1-v.fmod (10^(20:Int).toNat)) 11<0:=by
  have:=jGc (a:=(-1-v.fmod (10^(20:Int).toNat))) (b:=0) (show(0:Int)<11 by decide) (by omega)
  rw[Rat.zero_divInt] at this
  exact this
 refine⟨⟨by decide,by decide,by decide⟩,Int.ne_of_gt h20,?_⟩
 refine⟨(-1-v.fmod (10^(20:Int).toNat)),11,rfl,by decide,jAw x1 (by decide),jAw (k:=4) (by decide) (by decide),?_⟩
 have zz:Sz 120 (Rat.divInt (-1-v.fmod (10^(20:Int).toNat)) 11):=jGL (by decide) (jAw x1 (by decide)) (jAw (k:=4) (by decide) (by decide))
 generalize Rat.divInt (-1-v.fmod (10^(20:Int).toNat)) 11=aa at zz ng ⊢
 have bth:Ord (kp cs m (cs.length-1))∧Ord (kp ds k (ds.length-1))∧LS 65 70 132 (kp cs m (cs.length-1)) m∧LS 65 70 132 (kp ds k (ds.length-1)) k∧65+70+132+1≤900∧(kp cs m (cs.length-1)).length≤5000∧(kp ds k (ds.length-1)).length≤5000:=⟨okc,okd,c1.ls.kept oc,c2.ls.kept od,by decide,by omega,by omega⟩
 refine⟨kp cs m (cs.length-1),m,kp ds k (ds.length-1),k,aa,65,70,132,120,rfl,bth,zz,by decide,ng,?_⟩
 clear zz ng x1
 clear aa
 have item:∀(cs:Cs)(i:Nat)(x:D),(cs.map cd)[i]? = some x→∃c:Rat×Rat,cs[i]? = some c∧x=cd c:=fun cs i x hx=>jCB hx
 have tqd:∀cs:Cs,(cs.map fun c=>qd c.1)=(tq cs).map pD:=fun cs=>by
  unfold tq
  rw[List.map_map]
  rfl
 have gq:∀(n:Nat)(cs:Cs),Ord cs→(∀i,i<cs.length→Sz n (tt cs i))→∀p∈tq cs,(Wq n p.1 p.2.1 p.2.2∧0≤p.2.2)∧pD p=qd p.2.2:=fun n cs o z p hp=>by
  obtain⟨c,hc,rfl⟩:=List.mem_map.mp hp
  obtain⟨k,hk,rfl⟩:=List.mem_iff_getElem.mp hc
  have:=jDr o hk
  have z:=z k hk
  rw[(jLl hk).1] at z this
  exact⟨⟨Wq.of z,this⟩,rfl⟩
 have tl:∀cs:Cs,(tq cs).length=cs.length:=fun cs=>by unfold tq;rw[List.length_map]
 have g0:∀p∈tq cs++tq ds,(Wq 110 p.1 p.2.1 p.2.2∧0≤p.2.2)∧pD p=qd p.2.2:=fun p hp=>by
  rcases List.mem_append.mp hp with hp|hp
  ·exact gq 110 cs oc (fun i hi=>(c1.z i hi).1.mono (by decide)) p hp
  ·exact gq 110 ds od (fun i hi=>(c2.z i hi).1.mono (by decide)) p hp
 have g1:=fun p hp=>(g0 p hp).1
 have g3:=fun p hp=>(g0 p hp).2
 refine⟨_,m,_,k,65,70,132,rfl,⟨⟨okc,c1.r.m0⟩,⟨okd,c2.r.m0⟩,c1.ls.kept oc,c2.ls.kept od,by decide,by decide,bnd⟩,fun lt=>?_,fun le C hC iC zC lC=>?_⟩
 ·refine⟨cs.map fun c=>some (qd c.1),by rw[List.length_map,List.length_map],?_,?_,?_⟩
  ·intro i x hx
   obtain⟨c,hc,rfl⟩:=item cs i x hx
   show(cs.map _)[i]? = _
   rw[List.getElem?_map,hc]
   rfl
  ·rw[List.length_map];omega
  refine⟨ds.map fun c=>some (qd c.1),by rw[List.length_map,List.length_map],?_,?_,?_⟩
  ·intro i x hx
   obtain⟨c,hc,rfl⟩:=item ds i x hx
   show(ds.map _)[i]? = _
   rw[List.getElem?_map,hc]
   rfl
  ·rw[List.length_map];omega
  rw[jCZ cs (fun c=>qd c.1),jCZ ds (fun c=>qd c.1)]
  refine⟨by rw[List.length_map,List.length_map];omega,?_⟩
  rw[tqd cs,tqd ds,←List.map_append]
  have rM:=jNG (M:=if (if (24:Int)<((ns.map D.int).length:Int) then 24 else ((ns.map D.int).length:Int))>2 then (if (24:Int)<((ns.map D.int).length:Int) then 24 else ((ns.map D.int).length:Int)) else 2) (by split<;>(try split)<;>omega) (by split<;>(try split)<;>omega)
  refine⟨rM.1,?_⟩
  refine⟨fun n τ=>∃(y8 y9 y10 y11 y12 y13 y14:Option S),τ=[some (.r (ns.map D.int)),y1,some (.d (.tup [.lst (cs.map cd),qd m])),some (.d (.tup [.lst (ds.map cd),qd k])),some (.d (crv (kp cs m (cs.length-1)) m)),some (.d (crv (kp ds k (ds.length-1)) k)),some (.d (.non)),some (.l ((tq cs++tq ds).map pD)),y8,y9,y10,y11,y12,y13,y14],⟨_,_,_,_,_,_,_,rfl⟩,?_,?_⟩
  ·rintro n τ hn ⟨y8,y9,y10,y11,y12,y13,y14,rfl⟩
   have hn:=rM.2 n hn
   refine⟨ns,0+n*2+1,rfl,by omega,fun v1=>?_⟩
   refine⟨ns,0+n*2,rfl,by omega,fun v2=>?_⟩
   refine⟨v1,v2,_,tq cs++tq ds,110,rfl,Or.inl rfl,by rw[List.length_append,tl,tl];omega,by rw[List.length_append,tl,tl];omega,by omega,by omega,g1,fun p wp p0 pq=>?_⟩
   have pq2:=pq g3
   rw[pq2]
   obtain⟨t,et⟩:∃t,t=p.2.2:=⟨_,rfl⟩
   rw[←et] at wp p0 ⊢
   have zt:Sz 150 t:=wp.sz
   refine⟨_,m,_,k,t,65,70,132,150,rfl,bth,zt,by decide,fun _ _=>?_,fun _ le=>absurd lt (Rat.not_lt.mpr le),fun z=>absurd p0 z⟩
   refine⟨_,_,_,_,rfl,wk.l4 wm (by decide),?_⟩
   refine jBA (fun _=>?_) (fun c=>?_)
   ·exact⟨_,_,_,_,_,_,_,rfl⟩
   ·rw[wk.lt_iff wm] at c
    exact absurd lt c
  rintro τ ⟨y8,y9,y10,y11,y12,y13,y14,rfl⟩
  exact q
 have lC:=Nat.le_trans lC bnd
 have oC:Ord C:=⟨hC.ne,hC.t0,hC.v0,hC.up,hC.vu⟩
 have zK:=zC.szk oC (by omega) (Nat.le_refl _)
 refine⟨cs.map fun c=>some (qd c.1),by rw[List.length_map,List.length_map],?_,?_,?_⟩
 ·intro i x hx
  obtain⟨c,hc,rfl⟩:=item cs i x hx
  show(cs.map _)[i]? = _
  rw[List.getElem?_map,hc]
  rfl
 ·rw[List.length_map];omega
 refine⟨ds.map fun c=>some (qd c.1),by rw[List.length_map,List.length_map],?_,?_,?_⟩
 ·intro i x hx
  obtain⟨c,hc,rfl⟩:=item ds i x hx
  show(ds.map _)[i]? = _
  rw[List.getElem?_map,hc]
  rfl
 ·rw[List.length_map];omega
 rw[jCZ cs (fun c=>qd c.1),jCZ ds (fun c=>qd c.1)]
 refine⟨by rw[List.length_map,List.length_map];omega,?_⟩
 rw[tqd cs,tqd ds,←List.map_append]
 have rM:=jNG (M:=if (if (24:Int)<((ns.map D.int).length:Int) then 24 else ((ns.map D.int).length:Int))>2 then (if (24:Int)<((ns.map D.int).length:Int) then 24 else ((ns.map D.int).length:Int)) else 2) (by split<;>(try split)<;>omega) (by split<;>(try split)<;>omega)
 refine⟨rM.1,?_⟩
 refine⟨fun n τ=>∃(y8 y9 y10 y11 y12 y13 y14:Option S),τ=[some (.r (ns.map D.int)),y1,some (.d (.tup [.lst (cs.map cd),qd m])),some (.d (.tup [.lst (ds.map cd),qd k])),some (.d (crv (kp cs m (cs.length-1)) m)),some (.d (crv (kp ds k (ds.length-1)) k)),some (.d (crv C m)),some (.l ((tq cs++tq ds).map pD)),y8,y9,y10,y11,y12,y13,y14],⟨_,_,_,_,_,_,_,rfl⟩,?_,?_⟩
 ·rintro n τ hn ⟨y8,y9,y10,y11,y12,y13,y14,rfl⟩
  have hn:=rM.2 n hn
  refine⟨ns,0+n*2+1,rfl,by omega,fun v1=>?_⟩
  refine⟨ns,0+n*2,rfl,by omega,fun v2=>?_⟩
  refine⟨v1,v2,_,tq cs++tq ds,110,rfl,Or.inl rfl,by rw[List.length_append,tl,tl];omega,by rw[List.length_append,tl,tl];omega,by omega,by omega,g1,fun p wp p0 pq=>?_⟩
  have pq2:=pq g3
  rw[pq2]
  obtain⟨t,et⟩:∃t,t=p.2.2:=⟨_,rfl⟩
  rw[←et] at wp p0 ⊢
  have zt:Sz 150 t:=wp.sz
  have kg:∀v,gap (kp cs m (cs.length-1)) m (kp ds k (ds.length-1)) k t v=gap cs m ds k t v:=fun v=>by
   unfold gap
   rw[(jFr oc _).1,(jFr od _).1]
  refine⟨_,m,_,k,t,65,70,132,150,rfl,bth,zt,by decide,fun _ lt=>absurd lt (Rat.not_lt.mpr le),fun _ _ u u0 zu mx=>?_,fun z=>absurd p0 z⟩
  have mx:∀v,0≤v→gap cs m ds k t v≤gap cs m ds k t u:=fun v v0=>by
   have:=mx v v0
   rw[kg,kg] at this
   exact this
  refine⟨_,_,_,_,rfl,wk.l4 wm (by decide),?_⟩
  refine jBA (fun c=>absurd ((wk.lt_iff wm).mp c) (Rat.not_lt.mpr le)) (fun _=>?_)
  have un:=Rat.num_nonneg.mpr u0
  refine⟨?_,?_⟩
  ·refine⟨u,rfl,zu.mono (by decide),?_⟩
   exact jBA (fun c=>absurd un (by omega)) (fun _=>rfl)
  have wt:Wq 1400 t.num (t.den:Int) t:=(Wq.of zt).mono (by decide)
  refine⟨cs,m,ds,k,_,_,_,_,t,u,rfl,h1,h2,wt,(Wq.of zu).mono (by decide),fun A B wb=>?_⟩
  refine⟨ds.map fun c=>some (qd c.1),by rw[List.length_map,List.length_map],?_,?_,?_⟩
  ·intro i x hx
   obtain⟨c,hc,rfl⟩:=item ds i x hx
   show(ds.map _)[i]? = _
   rw[List.getElem?_map,hc]
   rfl
  ·rw[List.length_map];omega
  rw[jCZ ds (fun c=>qd c.1)]
  refine⟨cs.map fun c=>if decide (c.1<t)=true then none else some (pD (c.1.num*(t.den:Int)-t.num*(c.1.den:Int),(c.1.den:Int)*(t.den:Int),c.1-t)),by rw[List.length_map,List.length_map],?_,?_,?_⟩
  ·intro i x hx
   obtain⟨c,hc,rfl⟩:=item cs i x hx
   have ci:=List.getElem?_eq_some_iff.mp hc
   have zi:=(c1.z i ci.1).1
   rw[(jLl ci.1).1,ci.2] at zi
   have wi:Wq 1400 c.1.num (c.1.den:Int) c.1:=(Wq.of zi).mono (by decide)
   have gi:(cs.map fun c=>if decide (c.1<t)=true then none else some (pD (c.1.num*(t.den:Int)-t.num*(c.1.den:Int),(c.1.den:Int)*(t.den:Int),c.1-t)))[i]? = some (if decide (c.1<t)=true then none else some (pD (c.1.num*(t.den:Int)-t.num*(c.1.den:Int),(c.1.den:Int)*(t.den:Int),c.1-t))):=by
    rw[List.getElem?_map,hc]
    rfl
   refine⟨_,_,_,_,rfl,wi.l4 wt (by decide),?_⟩
   refine jJi (fun z=>?_) (fun z=>?_)
   ·rw[wi.lt_iff wt] at z
    rw[if_neg (by simpa using z)] at gi
    exact⟨_,_,_,_,rfl,wi.l4 wt (by decide),gi⟩
   ·rw[wi.lt_iff wt] at z
    rw[if_pos (decide_eq_true z)] at gi
    exact gi
  ·rw[List.length_map];omega
  obtain⟨rs,ers,lrs,grs⟩:=jNv (fun c=>decide (c.1<t)) (fun c=>(c.1.num*(t.den:Int)-t.num*(c.1.den:Int),(c.1.den:Int)*(t.den:Int),c.1-t)) cs
  rw[ers,tqd ds]
  refine⟨by rw[List.length_map,List.length_map,tl];omega,?_⟩
  rw[←List.map_append]
  refine⟨ns,0+n*2,rfl,by omega,fun v3=>?_⟩
  refine⟨ns,0+n*2+2,rfl,by omega,fun v4=>?_⟩
  refine⟨v3,v4,_,tq cs++tq ds,110,rfl,Or.inl rfl,by rw[List.length_append,tl,tl];omega,by rw[List.length_append,tl,tl];omega,by omega,by omega,g1,fun p wp pp0 _=>?_⟩
  refine⟨by rw[List.length_map,List.length_append,tl];omega,?_⟩
  obtain⟨qs,eqs⟩:∃qs,qs=tq ds++rs++[p]:=⟨_,rfl⟩
  have good:∀p∈qs,Wq 1400 p.1 p.2.1 p.2.2∧0≤p.2.2:=fun p' hp=>by
   rw[eqs] at hp
   rcases List.mem_append.mp hp with hp|hp
   ·rcases List.mem_append.mp hp with hp|hp
    ·have:=(gq 110 ds od (fun i hi=>(c2.z i hi).1.mono (by decide)) p' hp).1
     exact⟨this.1.mono (by decide),this.2⟩
    ·obtain⟨c,hc,z,rfl⟩:=grs p' hp
     obtain⟨i,ci⟩:=List.mem_iff_getElem?.mp hc
     have ci:=List.getElem?_eq_some_iff.mp ci
     have zi:=(c1.z i ci.1).1
     rw[(jLl ci.1).1,ci.2] at zi
     have wi:Wq 150 c.1.num (c.1.den:Int) c.1:=(Wq.of zi).mono (by decide)
     have wt:Wq 150 t.num (t.den:Int) t:=Wq.of zt
     exact⟨(wi.minus wt).mono (by decide),by have:=of_decide_eq_false z;show 0≤c.1-t;grind⟩
   ·rw[List.mem_singleton.mp hp];exact⟨wp.mono (by decide),pp0⟩
  have eqm:(tq ds++rs).map pD++[pD p]=qs.map pD:=by rw[eqs,List.map_append (l₂:=[p])];rfl
  rw[eqm]
  clear eqm eqs wp pp0 g1
  refine⟨fun n' τ=>∃(z13:Option S),τ=[some (.r (ns.map D.int)),y1,some (.d (.tup [.lst (cs.map cd),qd m])),some (.d (.tup [.lst (ds.map cd),qd k])),some (.d (crv (kp cs m (cs.length-1)) m)),some (.d (crv (kp ds k (ds.length-1)) k)),some (.d (crv C m)),some (.l ((tq cs++tq ds).map pD)),I (0+(n:Int)*2),some (.d (qd t)),some (.d (qd u)),some (.d (tp A B)),some (.r (qs.map pD)),z13,y14],⟨_,rfl⟩,?_,?_⟩
  ·rintro n' τ x hx ⟨z13,rfl⟩
   obtain⟨p',hp',rfl⟩:=jCB hx
   obtain⟨wp',p0'⟩:=good p' (List.mem_of_getElem? hp')
   refine⟨cs,m,ds,k,_,_,_,_,t,p'.2.2,rfl,h1,h2,wt,wp',fun A2 B2 wb2=>?_⟩
   refine⟨_,_,_,_,rfl,wb.l4 wb2 (by decide),?_⟩
   exact jBA (fun c=>absurd ((wb.lt_iff wb2).mp c) (Rat.not_lt.mpr (mx _ p0'))) (fun _=>⟨_,rfl⟩)
  rintro τ ⟨z13,rfl⟩
  refine⟨_,C,m,t,_,_,_,_,2000,rfl,Or.inl rfl,hC.ne,by omega,by decide,zK.cs.mono (by decide),(Wq.of zK.m).mono (by decide),wt.mono (by decide),hC.up,fun A2 B2 w2=>?_⟩
  obtain⟨i0,i1,i2⟩:=(iC t p0).cong p0 (fun x _=>(jFr oc x).1) (fun x _=>(jFr od x).1)
  have w0:Wq 40001 0 1 0:=(show Wq 1 0 1 0 from Wq.of Sz.zero).mono (by decide)
  have w2:=w2.mono (show 7*2000+4≤40001 by decide)
  refine jBA (fun z=>?_) (fun z=>?_)
  ·have vz:val C m t=0:=by
    have n2:¬0<val C m t:=fun c=>by
     have:=(w0.lt_iff w2).mpr c
     rw[z] at this
     omega
    exact Rat.le_antisymm (Rat.not_lt.mp n2) i0
   refine jBA (fun c=>?_) (fun _=>⟨_,_,_,_,_,_,_,rfl⟩)
   have:=(w0.lt_iff wb).mp (by omega)
   have:=i2 u u0
   rw[vz] at this
   unfold gap at *
   exact absurd this (Rat.not_le.mpr (by assumption))
  ·refine⟨jAt wb.la w2.lb (by decide),jAt w2.la wb.lb (by decide),?_⟩
   have ev:val C m t=gap cs m ds k t u:=by
    rcases i1 with e|⟨x,x0,e⟩
    ·rw[e] at w2
     have:=w2.cross w0
     exact absurd (by omega) z
    ·refine Rat.le_antisymm ?_ (i2 u u0)
     rw[←e]
     exact mx x x0
   rw[ev] at w2
   exact jJi (fun ne=>absurd (wb.cross w2) ne) (fun _=>⟨_,_,_,_,_,_,_,rfl⟩)
 rintro τ ⟨y8,y9,y10,y11,y12,y13,y14,rfl⟩
 exact q
end
abbrev Due (l:PySem.W.OpenLaw)(w:World)(K:PySem.W.Frag)(mg:Str→Option Value)(fa:Addr):Prop:=∃fd:FuncData,(∀(s:Shared)(v:Value),BindsTo s fd ⟨[v],[]⟩ [("_law_script",v)])∧∀base:Heap,K.In base→base.Ns mainGlobals mg→∃mg',jAz l.prog w K mg base CX0 11 fa fd ["_law_script"] (jAj K mg' jJf)
theorem all_mk {l:PySem.W.OpenLaw}{w:World}{K:PySem.W.Frag}{h:Heap}{mg:Str→Option Value}{fa:Addr}(X:K.In h) (G:h.Ns mainGlobals mg) (hfa:mg "law"=some (.ref fa)) (fx:Facts l K):Due l w K mg fa:=by
 obtain @⟨kV,dc,pm,cd,ct,oc,od,an,sl,fL,K_CurveError,K_NoRatio,K_NoCurve,K_NoTime,K_NoHouse,K_NoWay,K_NoText,K_NoName,K_NoEnd,K_NoRow,gt_NOUGHT_0,gt_NOUGHT_1,ga_NOUGHT_2,gd_NOUGHT_3,gn_NOUGHT_3,gs_NOUGHT_3,r0,r1,r2,r3,r4,r5,r6,r7,r8,r9,r10,r11,r12,r13,r14,r15,r16,r17,r18,r19,r20,r21,r22,r23,r24,r25,r26,r27,r28,r29,r30,r31,r32,r33,r34,r35,r36,r37,r38,r39,r40,r41,r42,r43,r44,r45,r46,r47,r48,r49,r50,r51,r52,r53,r54,r55,r56,r57,r58,r59,r60,r61,aL,lL,cL,kL,z0,z1,z2,z3,z4,z5,z6,z7,z8,z9,z10,z11,z12,n_CurveError,n_NoRatio,n_NoCurve,n_NoTime,n_NoHouse,n_NoWay,n_NoText,n_NoName,n_NoEnd,n_NoRow,n_NOUGHT,n_gl_NOUGHT_6,x_NoCurve,x_NoTime,h0_CurveError,h1_CurveError,h2_CurveError,mr_NoTime_CurveError,kT_NoTime_ValueError,i0_NoTime,i1_NoTime,i2_NoTime,i3_NoTime,i4_NoTime,i5_NoTime,i6_NoTime,i7_NoTime,kt_NoTime_NoTime,kt_NoTime_NoRow,kt_NoTime_NoEnd,kt_NoTime_NoName,kt_NoTime_NoText,kt_NoTime_NoHouse,kt_NoTime_NoRatio,kt_NoTime_NoWay,kt_NoTime_NoCurve,ht_piece_at,hp_piece_at,ht_from_nought,hp_from_nought,ht_side_by_side,hp_side_by_side,ht_lowered,hp_lowered⟩:=fx
 have e:=hfa.symm.trans (PySem.W.mg_of X G aL)
 cases e
 have jAm:=PySem.W.mg_none_of X G z0
 have jIP:=PySem.W.mg_none_of X G z1
 have jF5:=PySem.W.mg_none_of X G z2
 have jIn:=PySem.W.mg_none_of X G z3
 have jAM:=PySem.W.mg_none_of X G z4
 have jAu:=PySem.W.mg_none_of X G z5
 have jEw:=PySem.W.mg_none_of X G z6
 have jIO:=PySem.W.mg_none_of X G z7
 have jDj:=PySem.W.mg_none_of X G z8
 have z_ValueError:=PySem.W.mg_none_of X G z9
 have jIk:=PySem.W.mg_none_of X G z10
 have jMN:=PySem.W.mg_none_of X G z11
 have jM9:=PySem.W.mg_none_of X G z12
 have gc_NOUGHT:GC K mg "NOUGHT" (.tup [(.int 0),(.int 1)]):=KD.of (PySem.W.mg_of X G n_NOUGHT) (KD.tup n_gl_NOUGHT_6 (Nat.le_of_ble_eq_true rfl) (.cons KD.int (.cons KD.int .nil)))
 have ec_NoCurve:ExC K "NoCurve" K_NoCurve:=⟨n_NoCurve,x_NoCurve⟩
 have m_NoCurve:=PySem.W.mg_of X G n_NoCurve
 have ec_NoTime:ExC K "NoTime" K_NoTime:=⟨n_NoTime,x_NoTime⟩
 have m_NoTime:=PySem.W.mg_of X G n_NoTime
 have m_CurveError:=PySem.W.mg_of X G n_CurveError
 have hn_CurveError:HnC K K_CurveError:=⟨h0_CurveError,h1_CurveError,h2_CurveError⟩
 have xi_NoTime:ExI K K_NoTime:=⟨i0_NoTime,i1_NoTime,i2_NoTime,i3_NoTime,i4_NoTime,i5_NoTime,i6_NoTime,i7_NoTime⟩
 have m_NoRow:=PySem.W.mg_of X G n_NoRow
 have m_NoEnd:=PySem.W.mg_of X G n_NoEnd
 have m_NoName:=PySem.W.mg_of X G n_NoName
 have m_NoText:=PySem.W.mg_of X G n_NoText
 have m_NoHouse:=PySem.W.mg_of X G n_NoHouse
 have m_NoRatio:=PySem.W.mg_of X G n_NoRatio
 have m_NoWay:=PySem.W.mg_of X G n_NoWay
 obtain⟨⟨cA_piece_at,cT_piece_at⟩,n_ht_piece_at⟩:=Option.isSome_iff_exists.mp ht_piece_at
 obtain⟨⟨cA_from_nought,cT_from_nought⟩,n_ht_from_nought⟩:=Option.isSome_iff_exists.mp ht_from_nought
 obtain⟨⟨cA_side_by_side,cT_side_by_side⟩,n_ht_side_by_side⟩:=Option.isSome_iff_exists.mp ht_side_by_side
 obtain⟨⟨cA_lowered,cT_lowered⟩,n_ht_lowered⟩:=Option.isSome_iff_exists.mp ht_lowered
 refine⟨PySem.W.fnOf "law" "law" (jEy jFW) (jBD jFW) (jAc jFW) .none kV dc pm an cd ct,fun s v=>.of_eq rfl,fun base _ _=>⟨mg,?_⟩⟩
 have M:=@mkC l.prog w K mg base h X G
 have jC9:=M r0 (fun F _=>jAz.anyCX (jIL jAm jIP jF5 F))
 have jEL:=M r1 (fun F _=>jAz.anyCX (jJY jIn F))
 have jAW:=M r2 (fun F _=>jAz.anyCX (jMR jC9 jEL F))
 have jEk:=M r3 (fun F _=>jAz.anyCX (jOh jAW F))
 have jAQ:=M r4 (fun F _=>jAz.anyCX (jNf jAW F))
 have jEz:=M r5 (fun F _=>jAz.anyCX (jMY jAW F))
 have jJA:=M r6 (fun F _=>jAz.anyCX (jOq jAW F))
 have jAC:=M r7 (fun F _=>jAz.anyCX (jMo F))
 have jAK:=M r7 (fun F _=>jAz.anyCX (jIY F))
 have jCh:=M r8 (fun F _=>jGB jAC jAM gc_NOUGHT ec_NoCurve m_NoCurve F)
 have jCE:=M r9 (fun F _=>jG9 jAC jAM ec_NoCurve m_NoCurve jAu F)
 have jAE:=M r10 (fun F _=>jAz.anyCX (jFH jAQ jJA F))
 have jBK:=M r11 (fun F _=>jAz.anyCX (jFC jAM jAu jAE F))
 have jAq:=M r11 (fun F _=>jAz.anyCX (jEx jAM jAu jAE F))
 have jDU:=M r12 (fun F _=>jMq jAC jAM gc_NOUGHT ec_NoCurve m_NoCurve jCh jAu jCE jBK jEw F)
 have jBh:=M r13 (fun F _=>jHf jAC gc_NOUGHT ec_NoTime m_NoTime F)
 have jAy:=mkL (P:=l.prog) (w:=w) (base:=base) X G r14 (fun F _=>jGC jAM F)
 have jD4:=M r15 (fun F a=>jIB jAC jBh jAy F n_ht_piece_at a hp_piece_at)
 have jBp:=M r16 (fun F _=>jAz.anyCX (jFl jAM jAE F))
 have jC1:=M r17 (fun F _=>jIU jEk jAQ jEz jD4 jBp F)
 have jBl:=M r18 (fun F _=>jAz.anyCX (jEU jAC jAM jAu jAq F))
 have jAJ:=M r19 (fun F _=>jAz.anyCX (jEF jAC jAM jAu jAq F))
 have jBQ:=M r20 (fun F _=>jAz.anyCX (jIT jAC F))
 have jBW:=M r21 (fun F _=>jAz.anyCX (jF7 jAQ jEz F))
 have jCy:=M r22 (fun F _=>jAz.anyCX (jHU jAq jBW jIO F))
 have jDd:=M r23 (fun F _=>jAz.anyCX (jH0 jAW F))
 have jD0:=M r24 (fun F _=>jAz.anyCX (jIA jAW jDU jDd F))
 have jCI:=M r25 (fun F _=>jAz.anyCX (jG8 F))
 have jCN:=M r26 (fun F _=>jAz.anyCX (jHI F))
 have jH9:=M r27 (fun F _=>jAz.anyCX (jPr jCI jCN F))
 have jDG:=M r28 (fun F _=>jAz.anyCX (jJ5 F))
 have jFP:=M r29 (fun F _=>jAz.anyCX (jK1 jAQ gc_NOUGHT jIO F))
 have jBF:=M r30 (fun F a=>jAz.anyCX (jGE jAK gc_NOUGHT jAy F n_ht_from_nought a hp_from_nought))
 have jBX:=M r31 (fun F _=>jAz.anyCX (jGj jAK F))
 have jB1:=M r32 (fun F a=>jAz.anyCX (jF0 jAK jAM jAy jBX F n_ht_side_by_side a hp_side_by_side))
 have jGk:=M r33 (fun F _=>jAz.anyCX (jOV F))
 have jJF:=M r34 (fun F _=>jAz.anyCX (jPb jGk F))
 have jJd:=M r35 (fun F _=>jAz.anyCX (jN6 jGk F))
 have jBu:=mkM (P:=l.prog) (w:=w) (base:=base) X G r36 (fun F _=>jIt F)
 have jCV:=M r37 (fun F _=>jAz.anyCX (jIH jAW F))
 have jDb:=mkM (P:=l.prog) (w:=w) (base:=base) X G r38 (fun F _=>jHP jBu jCV F)
 have jDL:=M r39 (fun F a=>jAz.anyCX (jKj jAK jAy jB1 jJF jJd jDb jDj F n_ht_lowered a hp_lowered))
 have jAG:=M r40 (fun F _=>jAz.anyCX (jEa jBl F))
 have jFI:=M r41 (fun F _=>jAz.anyCX (jKy jEk jAQ gc_NOUGHT jAJ jBQ jCy jD0 jH9 jDG jFP jBF jDL jAG F))
 have jCX:=M r42 (fun F _=>jAz.anyCX (jIE jEk jAQ jC1 F))
 have jBq:=M r43 (fun F _=>jAz.anyCX (jFd jAQ jAC jAJ jAG F))
 have jGs:=M r44 (fun F _=>jPh jAC gc_NOUGHT jBh jBQ jCX jBq F)
 have jAo:=M r45 (fun F _=>jAz.anyCX (jF1 jAM F))
 have jAf:=M r46 (fun F _=>jAz.anyCX (jGH jIn F))
 have jA4:=M r47 (fun F _=>jAz.anyCX (jIa F))
 have jAI:=M r48 (fun F _=>jAz.anyCX (jHo F))
 have jDn:=M r49 (fun F _=>jAz.anyCX (jIi F))
 have jBC:=M r50 (fun F _=>jAz.anyCX (jFE jAf F))
 have jA1:=M r51 (fun F _=>jAz.anyCX (jFF jAu jAf jBC F))
 have jB3:=M r52 (fun F _=>jAz.anyCX (jHb jAu jAo F))
 have jCC:=M r53 (fun F _=>jAz.anyCX (jHi jAu F))
 have jAT:=M r54 (fun F _=>jAz.anyCX (jEb jAu jAf F))
 have jD8:=M r55 (fun F _=>jAz.anyCX (jI1 jAo jA1 jB3 jCC jAT F))
 have jA3:=M r56 (fun F _=>jAz.anyCX (jHH jAM jAu jA4 jAI F))
 have jBE:=M r57 (fun F _=>jAz.anyCX (jFA jAm jIP jF5 jAM jEw jAf F))
 have jBg:=M r58 (fun F _=>jAz.anyCX (jIc jAM F))
 have jBB:=M r59 (fun F _=>jAz.anyCX (jGJ jAM jAf F))
 have jB0:=M r60 (fun F _=>jAz.anyCX (jGo jAm m_NoCurve m_NoTime jGs z_ValueError m_CurveError hn_CurveError mr_NoTime_CurveError kT_NoTime_ValueError xi_NoTime kt_NoTime_NoTime m_NoRow kt_NoTime_NoRow m_NoEnd kt_NoTime_NoEnd m_NoName kt_NoTime_NoName m_NoText kt_NoTime_NoText m_NoHouse kt_NoTime_NoHouse m_NoRatio kt_NoTime_NoRatio m_NoWay kt_NoTime_NoWay kt_NoTime_NoCurve F))
 have jCY:=M r61 (fun F _=>jAz.anyCX (jI3 jAI jDn jA3 F))
 exact jQS jAM jAu jDU jFI jGs jAo jAf jA4 jAI jD8 jA3 jBE jBg jBB jB0 jCY jIk jMN jM9 (jI7 (st:=jFW) lL cL kL)
end CL
theorem PySem.Challenge.cw_curvehouse_k22_leads_holds : PySem.Challenge.rw_curvehouse_k22_leads.Holds := by
 exact CL.front fun e1 e2 e3 e4 e5 fx=>L3.walk3 (l:=PySem.Challenge.rw_curvehouse_k22_leads) (k:=11) (x:="_law_script") rfl e1 ⟨rfl,by decide,by decide⟩ e2 e3 e4 fun w mg fa h X G hg=>CL.all_mk X G (e5 ▸ hg) (fx w)
