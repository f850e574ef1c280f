import PyProof.Rows.All
import Wide.All
import OpenK.AllK
import Wide.FinOn
import Lean
import PyProof.EqAt
import PyProof.EqKinds
import PyProof.TupleCall
import PySem.Challenge.RW_treewells_k82_what_is_asked
set_option Elab.async false
set_option linter.all false
set_option maxRecDepth 100000
set_option maxHeartbeats 4000000
namespace KH
open PySem PySem.W
def ej (tb:String->Option Builtin)(p:Program)(w:World)(n₀:Nat)(ann:Option Value):Nat->SharedT->Thread->Option SharedT
 | 0,_,_=>none
 | n+1,s,t=>match through t with
  | true=>some s
  | false=>match stepOk n₀ ann t with
   | false=>none
   | true=>match stepT (denote tb) p w s t with
    | some (s',t')=>ej tb p w n₀ ann n s' t'
    | none=>none
theorem gi {tb:String->Option Builtin}{p:Program}{w:World}{n₀:Nat}{ann:Option Value}:∀{n:Nat} {s s':SharedT} {t:Thread},ej tb p w n₀ ann n s t=some s'->topRun tb p w n₀ ann n s.abs t=some s'.abs
 | 0,_,_,_,h=>by cases h
 | n+1,s,s',t,h=>by
  unfold ej at h;unfold topRun;cases he:through t with
  | true=>rw[he]at h;cases h;rfl
  | false =>
   rw[he]at h;cases hk:stepOk n₀ ann t with
   | false=>rw[hk]at h;cases h
   | true =>
    rw[hk]at h;cases hs:stepT (denote tb) p w s t with
    | none=>rw[hs]at h;cases h
    | some r=>obtain⟨s₂,t₂⟩:=r;rw[hs]at h;dsimp only;rw[stepT_spec hs];exact gi h
def eW:List Obj->Nat->BT->Option BT
 | [],_,t=>some t
 | o::l,n,t=>match ((t.ins n o).get n).isSome with
  | true=>eW l (n+1) (t.ins n o)
  | false=>none
theorem gw {life:Life}:∀{l:List Obj} {n:Nat} {t t':BT},eW l n t=some t'->absHeap t' (n+l.length) life=⟨(absHeap t n life).objs++l.toArray,life⟩
 | [],n,t,t',h=>by cases h;simp[absHeap]
 | o::l,n,t,t',h=>by
  unfold eW at h;cases e:((t.ins n o).get n).isSome with
  | false=>rw[e]at h;cases h
  | true =>
   rw[e]at h;have:=gw (life:=life) h;rw[absHeap_ins e]at this;rw[List.length_cons,show n+(l.length+1)=n+1+l.length by omega,this]
   simp[Heap.push]
def ft (tb:String->Option Builtin)(p:Program)(w:World)(n₀:Nat)(ann:Option Value):Nat->SharedT->Thread->Option (SharedT×Thread)
 | 0,s,t=>some (s,t)
 | n+1,s,t=>match through t with
  | true=>none
  | false=>match stepOk n₀ ann t with
   | false=>none
   | true=>match stepT (denote tb) p w s t with
    | some (s',t')=>ft tb p w n₀ ann n s' t'
    | none=>none
theorem gW {tb:String->Option Builtin}{p:Program}{w:World}{n₀:Nat}{ann:Option Value}:∀{n:Nat} {s s':SharedT} {t t':Thread},ft tb p w n₀ ann n s t=some (s',t')->topGo tb p w n₀ ann n s.abs t=some (s'.abs,t')
 | 0,_,_,_,_,h=>by cases h;rfl
 | n+1,s,s',t,t',h=>by
  unfold ft at h;unfold topGo;cases he:through t with
  | true=>rw[he]at h;cases h
  | false =>
   rw[he]at h;cases hk:stepOk n₀ ann t with
   | false=>rw[hk]at h;cases h
   | true =>
    rw[hk]at h;cases hs:stepT (denote tb) p w s t with
    | none=>rw[hs]at h;cases h
    | some r=>obtain⟨s₂,t₂⟩:=r;rw[hs]at h;dsimp only;rw[stepT_spec hs];exact gW h
def kT (l:List Obj):BT:=(eW l 0 .nil).getD .nil
def Look2 (p:Program)(n:Nat)(S:World->OsState->SharedT)(t:Thread)(m₀:Nat)(ann:Option Value){α:Type}(g:World->Shared->α)(v:World->α):Prop:=
 ∀(w:World) (os:OsState),((ej treeTable p w m₀ ann n (S w os) t).map fun s=>g w s.abs)=some (v w)
theorem Look2.pair {p:Program}{n:Nat}{S:World->OsState->SharedT}{t:Thread}{m₀:Nat}{ann:Option Value}{α β:Type}{g:World->Shared->α}{v:World->α}{g':World->Shared->β}{v':World->β}(a:Look2 p n S t m₀ ann g v)(b:Look2 p n S t m₀ ann g' v'):Look2 p n S t m₀ ann (fun w s=>(g w s,g' w s)) (fun w=>(v w,v' w)):=fun w os=>by
 obtain⟨s,hs,e⟩:=Option.map_eq_some_iff.mp (a w os);obtain⟨s',hs',e'⟩:=Option.map_eq_some_iff.mp (b w os);rw[hs]at hs';cases hs';rw[hs];exact congrArg some (Prod.ext e e')
theorem Look2.app {p:Program}{n:Nat}{S:World->OsState->SharedT}{t:Thread}{m₀:Nat}{ann:Option Value}{α:Type}{g g':World->Shared->List α}{v v':World->List α}(a:Look2 p n S t m₀ ann g v)(b:Look2 p n S t m₀ ann g' v'):Look2 p n S t m₀ ann (fun w s=>g w s++g' w s) (fun w=>v w++v' w):=fun w os=>by
 obtain⟨s,hs,e⟩:=Option.map_eq_some_iff.mp (a w os);obtain⟨s',hs',e'⟩:=Option.map_eq_some_iff.mp (b w os);rw[hs]at hs';cases hs';rw[hs];exact congrArg some (congr (congrArg HAppend.hAppend e) e')
theorem left_of2 {p q:Program}{loose:List Str}{Xt:Shared->Bool}{α:Type}{Yf:Shared->α}{Ya:World->α}{N:Nat}{H₀:Params->Heap}{gs₀:Array GenState}{d₀:Drawn}{k₀ m₀:Nat}{ann:Option Value}{life:Life}
 {S0 S1 S2:World->OsState->SharedT} {l1 l2:List Stmt} {env:Env} {c:Code} {pos p1 p2 qf:Pos} {n0 n1 n2 n3:Nat}
 (open_:∀w:World,(fencedOpening treeTable p w N).map (fun s=>(s.heap,s.gens,s.drawn,s.toks))=some (H₀ w.params,gs₀,d₀,k₀))
 (size:∀w:World,((H₀ w.params).isNs mainGlobals&&gs₀.size == 0,(H₀ w.params).objs.size,(H₀ w.params).nsMap mainGlobals "__annotations__",(H₀ w.params).life)=(true,m₀,ann,life))
 (hN:n0+(1+(n1+(n2+n3)))=N)
 (hA:∀(w:World) (os:OsState),((eW (H₀ w.params).objs.toList 0 .nil).bind fun t=>ft treeTable p w m₀ ann n0 ⟨t,m₀,life,gs₀,d₀,k₀,os⟩ (topStub p))=some (S0 w os,⟨denote treeTable (.body (l1++(l2++[])) env),c,pos,[topFrame qf]⟩))
 (hB:∀(w:World) (os:OsState),segRunT treeTable p w m₀ ann 1 1 (S0 w os) (blockOf (l1++(l2++[])) env c pos [topFrame qf])=some (.next,S0 w os,c,pos))
 (hC:∀(w:World) (os:OsState),segRunT treeTable p w m₀ ann 1 n1 (S0 w os) (piecesOf l1 env c pos [topFrame qf])=some (.next,S1 w os,c,p1))
 (hD:∀(w:World) (os:OsState),segRunT treeTable p w m₀ ann 1 n2 (S1 w os) (piecesOf l2 env c p1 [topFrame qf])=some (.next,S2 w os,c,p2))
 (ha:Look2 p n3 S2 (restOf [] env c p2 [topFrame qf]) m₀ ann (fun w s=>staticsOk (importedModules p.main.body) (H₀ w.params) s.heap&&namesBound p s.heap&&gensDone s&&laidKept (H₀ w.params) s.heap) (fun _=>true))
 (hb:Look2 p n3 S2 (restOf [] env c p2 [topFrame qf]) m₀ ann (fun _ s=>openSeen q loose (importedModules p.main.body) Xt true s) (fun _=>openGood q loose))
 (hc:Look2 p n3 S2 (restOf [] env c p2 [topFrame qf]) m₀ ann (fun _ s=>Yf s) Ya) :
 LeftO p q loose Xt Yf Ya N:=fun w=>by
 obtain⟨⟨hp,gs,d,k,os⟩,e,e'⟩:=Option.map_eq_some_iff.mp (open_ w);obtain⟨rfl,rfl,rfl,rfl⟩:hp=H₀ w.params/\gs=gs₀/\d=d₀/\k=k₀:=by simpa using e'
 obtain⟨z1,z2,z3,z4⟩:_/\_/\_/\_:=by simpa only [Prod.mk.injEq] using size w
 obtain⟨t,ht,h0⟩:=Option.bind_eq_some_iff.mp (hA w os);obtain⟨s,hs,l1'⟩:=Option.map_eq_some_iff.mp (ha w os);change (staticsOk (importedModules p.main.body) (H₀ w.params) s.abs.heap&&namesBound p s.abs.heap&&gensDone s.abs&&laidKept (H₀ w.params) s.abs.heap)=true at l1';have l2':openSeen q loose (importedModules p.main.body) Xt true s.abs=openGood q loose:=by
  obtain⟨s',hs',l⟩:=Option.map_eq_some_iff.mp (hb w os);rw[hs]at hs';cases hs';exact l
 have l3:Yf s.abs=Ya w:=by
  obtain⟨s',hs',l⟩:=Option.map_eq_some_iff.mp (hc w os);rw[hs]at hs';cases hs';exact l
 have ab:(⟨t,m₀,life,gs,d,k,os⟩:SharedT).abs=⟨H₀ w.params,gs,d,k,os⟩:=by
  have:=gw (life:=life) ht;rw[Nat.zero_add,Array.length_toList,z2]at this;show Shared.mk (absHeap t m₀ life) gs d k os=_;rw[this,←z4];have e0:(absHeap BT.nil 0 (H₀ w.params).life).objs = #[]:=by simp[absHeap,BT.list]
  rw[e0];simp
 have r:=go_top (gW h0) (piece_block (segRun_of (hB w os)) (piece_app (segRun_of (hC w os)) (piece_app (segRun_of (hD w os)) (gi hs))));rw[ab,hN]at r;have T:topFrom treeTable p w N ⟨H₀ w.params,gs,d,k,os⟩=some s.abs:=by
  unfold topFrom;dsimp only;rw[z1,z2,z3,r];show(match staticsOk (importedModules p.main.body) (H₀ w.params) s.abs.heap&&namesBound p s.abs.heap&&gensDone s.abs&&laidKept (H₀ w.params) s.abs.heap with | true=>_ | false=>_)=_
  rw[l1']
 unfold openEnds;rw[e];show(topFrom treeTable p w N _).map _=_;rw[T];exact congrArg some (Prod.ext l2' l3)
end KH
namespace KH
open PySem PySem.W
def top (i:Nat):Stmt:=PySem.Challenge.pw_treewells_k82_what_is_asked.main.body.getD i (.Pass ⟨0,0,0,0⟩)
def kA (s:Stmt):Arguments:=match s with
 | .FunctionDef _ x _ _ _ _ _ _ _ _=>x
 | _=>⟨[],[],none,[],[],none,[]⟩
def kB (s:Stmt):List Stmt:=match s with
 | .FunctionDef _ _ x _ _ _ _ _ _ _=>x
 | _=>[]
def kS (s:Stmt):Scope:=match s with
 | .FunctionDef _ _ _ _ _ _ x _ _ _=>x
 | _=>{ kind:=.function,names:=[],isGenerator:=false,isCoroutine:=false }
def kM (s:Stmt)(j:Nat):Stmt:=match s with
 | .ClassDef _ _ _ x _ _ _ _ _ _ _=>x.getD j (.Pass ⟨0,0,0,0⟩)
 | _=>.Pass ⟨0,0,0,0⟩
def kE (P:Params)(x:Str)(t:Nat)(v:Value):DictEntry:=.mk (PyData.keyHash P x) (.str x t) v
noncomputable def bo (P:Params) (i:Nat):Obj:=(PySem.W.boot_heap P).objs.toList.getD i default
abbrev O:Type:=Params->Obj
noncomputable section
noncomputable def q0  : O:=fun P=>.mk (.type "tuple") none (.seq #[]) #[]
noncomputable def q1  : O:=fun P=>.mk .none none (.fields #[]) #[]
noncomputable def q2 (x0:Str) (x1:Nat) (x2:Nat) (x3:Nat) (x4:Int) (x5:Nat) (x6:Int) (x7:Nat) (x8:Int) (x9:Nat):O:=fun P=>.mk (.type "code") none (.fields #[.str x0 x1,.str x0 x2,.str "/claim/cut.py" x3,.int x4 0,.int 0 0,.int 0 0,.int 0 0,.int 0 0,.ref x5,.bool false,.int x6 0,.ref x7,.none,.none,.none,.none,.int x8 0,.int x4 0,.str "/claim/cut.py" x9]) #[]
noncomputable def q3 (x0:Nat) (x1:Nat) (x2:Str) (x3:Nat):O:=fun P=>.mk (.type "frame") none Data.plain #[some (.ref x0),some (.ref 3),some (.ref x1),none,some (.str x2 x3),none,some (.ref 0)]
noncomputable def q4 (x0:Str) (x1:Nat):O:=fun P=>.mk (.type "tuple") none (.seq #[.str x0 x1]) #[]
noncomputable def q5 (x0:Str) (x1:Nat):O:=fun P=>.mk .none none (.func (.mk x0 x0 (kA (top x1)) (.stmts (kB (top x1))) (kS (top x1)) 0 [] .none .none .none .none none .none .none 0)) #[]
noncomputable def q6 (x0:Str) (x1:Nat) (x2:Str) (x3:Nat) (x4:Nat) (x5:Int) (x6:Int) (x7:Nat) (x8:Nat) (x9:Nat) (x10:Nat) (x11:Nat) (x12:Int) (x13:Nat):O:=fun P=>.mk (.type "code") none (.fields #[.str x0 x1,.str x2 x3,.str "/claim/cut.py" x4,.int x5 0,.int x6 0,.int 0 0,.int 0 0,.int 3 0,.ref x7,.bool true,.int 181 0,.ref x8,.none,.ref x9,.ref x10,.ref x11,.int x12 0,.int x5 0,.str "/claim/cut.py" x13]) #[]
noncomputable def q7 (x0:Str) (x1:Nat) (x2:Str) (x3:Nat) (x4:Nat):O:=fun P=>.mk (.type "function") none (.func (.mk x0 x0 (kA (top x1)) (.stmts (kB (top x1))) (kS (top x1)) 3 [] .none .none .none (.str x2 x3) none (.ref x4) .none 0)) #[]
noncomputable def q8  : O:=fun P=>.mk (.type "builtin_function_or_method") none (.fields #[.builtin "type.__prepare__",.type "type"]) #[]
noncomputable def q9 (x0:Nat) (x1:Nat) (x2:Str) (x3:Nat) (x4:Nat) (x5:Int) (x6:Nat) (x7:Nat) (x8:Nat):O:=fun P=>.mk (.type "dict") none (.dict #[kE P "__module__" x0 (.str "treewells.errors" 194),kE P "__qualname__" x1 (.str x2 x3),kE P "__firstlineno__" x4 (.int x5 x6),kE P "__static_attributes__" x7 (.ref x8)] 4) #[]
noncomputable def q10 (x0:Nat):O:=fun P=>.mk (.type "super") none (.fields #[.ref x0,.ref x0,.ref x0]) #[]
noncomputable def q11 (x0:Nat):O:=fun P=>.mk (.type "builtin_function_or_method") none (.fields #[.builtin "object.__init_subclass__",.ref x0]) #[]
noncomputable def q12 (x0:Nat):O:=fun P=>.mk (.type "tuple") none (.seq #[.ref x0]) #[]
noncomputable def q13 (x0:Nat) (x1:Nat) (x2:Int) (x3:Nat) (x4:Nat) (x5:Nat) (x6:Nat):O:=fun P=>.mk (.type "dict") none (.dict #[kE P "__module__" x0 (.str "treewells.errors" 194),kE P "__firstlineno__" x1 (.int x2 x3),kE P "__static_attributes__" x4 (.ref x5),kE P "__doc__" x6 .none] 2) #[]
noncomputable def q14 (x0:Str) (x1:Nat) (x2:Nat) (x3:Nat) (x4:Nat) (x5:Nat):O:=fun P=>.mk (.type "type") none (Data.cls (ClassData.mk x0 [.ref 31] [.ref x1,.ref 31,.type "ValueError",.type "Exception",.type "BaseException",.type "object"] x2 x0 true [] [] false none false)) #[some (.ref x3),none,some (.str x0 x4),some (.str x0 x5),some (.builtin "ValueError.__new__"),some (.bool true)]
noncomputable def q15 (x0:Str) (x1:Nat) (x2:Str) (x3:Nat):O:=fun P=>.mk (.type "tuple") none (.seq #[.str x0 x1,.str x2 x3]) #[]
noncomputable def q16 (x0:Str) (x1:Nat) (x2:Str) (x3:Nat) (x4:Nat) (x5:Int) (x6:Int) (x7:Nat) (x8:Nat) (x9:Nat) (x10:Int) (x11:Nat):O:=fun P=>.mk (.type "code") none (.fields #[.str x0 x1,.str x2 x3,.str "/claim/cut.py" x4,.int x5 0,.int x6 0,.int 0 0,.int 0 0,.int 3 0,.ref x7,.bool true,.int 181 0,.ref x8,.none,.none,.none,.ref x9,.int x10 0,.int x5 0,.str "/claim/cut.py" x11]) #[]
noncomputable def q17 (x0:Str) (x1:Nat) (x2:Str) (x3:Nat) (x4:Str) (x5:Nat) (x6:Str) (x7:Nat) (x8:Str) (x9:Nat) (x10:Str) (x11:Nat) (x12:Str) (x13:Nat):O:=fun P=>.mk (.type "tuple") none (.seq #[.str x0 x1,.str x2 x3,.str x4 x5,.str x6 x7,.str x8 x9,.str x10 x11,.str x12 x13]) #[]
noncomputable def q18 (x0:Str) (x1:Nat) (x2:Str) (x3:Nat) (x4:Str) (x5:Nat) (x6:Str) (x7:Nat) (x8:Str) (x9:Nat):O:=fun P=>.mk (.type "tuple") none (.seq #[.str x0 x1,.str x2 x3,.str x4 x5,.str x6 x7,.str x8 x9]) #[]
noncomputable def q19 (x0:Str) (x1:Nat) (x2:Str) (x3:Nat) (x4:Str) (x5:Nat) (x6:Str) (x7:Nat):O:=fun P=>.mk (.type "tuple") none (.seq #[.str x0 x1,.str x2 x3,.str x4 x5,.str x6 x7]) #[]
noncomputable def q20 (x0:Str) (x1:Nat) (x2:Str) (x3:Nat) (x4:Str) (x5:Nat):O:=fun P=>.mk (.type "tuple") none (.seq #[.str x0 x1,.str x2 x3,.str x4 x5]) #[]
noncomputable def q21 (x0:Str) (x1:Str) (x2:Nat) (x3:Nat):O:=fun P=>.mk .none none (.func (.mk x0 x1 (kA (kM (top x2) x3)) (.stmts (kB (kM (top x2) x3))) (kS (kM (top x2) x3)) 0 [] .none .none .none .none none .none .none 0)) #[]
noncomputable def q22 (x0:Str) (x1:Str) (x2:Nat) (x3:Nat) (x4:Str) (x5:Nat) (x6:Nat):O:=fun P=>.mk (.type "function") none (.func (.mk x0 x1 (kA (kM (top x2) x3)) (.stmts (kB (kM (top x2) x3))) (kS (kM (top x2) x3)) 3 [] .none .none .none (.str x4 x5) none (.ref x6) .none 0)) #[]
noncomputable def q23 (x0:Nat) (x1:Nat) (x2:Nat) (x3:Str) (x4:Nat) (x5:Str) (x6:Nat) (x7:Str) (x8:Nat):O:=fun P=>.mk (.type "tuple") none (.seq #[.str "self" x0,.str "many" x1,.str "roads" x2,.str x3 x4,.str x5 x6,.str x7 x8]) #[]
noncomputable def q24 (x0:Nat) (x1:Str) (x2:Nat) (x3:Nat) (x4:Str) (x5:Nat) (x6:Nat) (x7:Int) (x8:Nat) (x9:Nat) (x10:Nat) (x11:Nat) (x12:Nat) (x13:Nat) (x14:Nat) (x15:Nat) (x16:Nat) (x17:Nat) (x18:Nat) (x19:Str) (x20:Nat) (x21:Nat) (x22:Str) (x23:Nat) (x24:Nat) (x25:Nat) (x26:Nat):O:=fun P=>.mk (.type "dict") none (.dict #[kE P "__module__" x0 (.str x1 x2),kE P "__qualname__" x3 (.str x4 x5),kE P "__firstlineno__" x6 (.int x7 x8),kE P "word" x9 (.ref x10),kE P "fits" x11 (.ref x12),kE P "answer" x13 (.ref x14),kE P "paper" x15 (.ref x16),kE P "worth" x17 (.ref x18),kE P x19 x20 (.ref x21),kE P x22 x23 (.ref x24),kE P "__static_attributes__" x25 (.ref x26)] 11) #[]
noncomputable def q25 (x0:Int) (x1:Nat) (x2:Int) (x3:Nat) (x4:Int) (x5:Nat) (x6:Int) (x7:Nat) (x8:Int) (x9:Nat) (x10:Int) (x11:Nat) (x12:Int) (x13:Nat):O:=fun P=>.mk .none none (.fields #[.int x0 0,.int 4 0,.ref x1,.int x2 0,.int 4 0,.ref x3,.int x4 0,.int 4 0,.ref x5,.int x6 0,.int 4 0,.ref x7,.int x8 0,.int 4 0,.ref x9,.int x10 0,.int 4 0,.ref x11,.int x12 0,.int 4 0,.ref x13]) #[]
noncomputable def q26 (x0:Nat) (x1:Str) (x2:Nat) (x3:Nat) (x4:Int) (x5:Nat) (x6:Nat) (x7:Nat) (x8:Nat) (x9:Nat) (x10:Nat) (x11:Nat) (x12:Nat) (x13:Nat) (x14:Nat) (x15:Nat) (x16:Str) (x17:Nat) (x18:Nat) (x19:Str) (x20:Nat) (x21:Nat) (x22:Nat) (x23:Nat) (x24:Nat):O:=fun P=>.mk (.type "dict") none (.dict #[kE P "__module__" x0 (.str x1 x2),kE P "__firstlineno__" x3 (.int x4 x5),kE P "word" x6 (.ref x7),kE P "fits" x8 (.ref x9),kE P "answer" x10 (.ref x11),kE P "paper" x12 (.ref x13),kE P "worth" x14 (.ref x15),kE P x16 x17 (.ref x18),kE P x19 x20 (.ref x21),kE P "__static_attributes__" x22 (.ref x23),kE P "__doc__" x24 .none] 2) #[]
noncomputable def q27 (x0:Str) (x1:Nat) (x2:Nat) (x3:Nat) (x4:Nat) (x5:Nat):O:=fun P=>.mk (.type "type") none (Data.cls (ClassData.mk x0 [.ref 435] [.ref x1,.ref 435,.type "object"] x2 x0 true [] [] false none false)) #[some (.ref x3),none,some (.str x0 x4),some (.str x0 x5),some (.builtin "object.__new__"),some (.bool true)]
noncomputable def q28 (x0:Str) (x1:Nat) (x2:Nat) (x3:Nat) (x4:Nat) (x5:Nat) (x6:Nat):O:=fun P=>.mk (.type "type") none (Data.cls (ClassData.mk x0 [.ref x1] [.ref x2,.ref x1,.ref 435,.type "object"] x3 x0 true [] [] false none false)) #[some (.ref x4),none,some (.str x0 x5),some (.str x0 x6),some (.builtin "object.__new__"),some (.bool true)]
noncomputable def o0:O:=fun P=>bo P 0
noncomputable def o1:O:=fun P=>.mk (.type "dict") none (.dict #[kE P "builtins" 162 (.ref 4),kE P "__main__" 163 (.ref 5)] 2) #[]
noncomputable def o2:O:=fun P=>.mk .none none (.dict #[]) #[]
noncomputable def o3:O:=fun P=>.mk (.type "dict") none (.dict #[kE P "__name__" 165 (.str "law_treewells_k82_what_is_asked" 2046),kE P "__doc__" 166 .none,kE P "__package__" 167 .none,kE P "__loader__" 168 (.builtin "__main__.__loader__#opaque"),kE P "__spec__" 169 .none,kE P "__annotations__" 170 (.ref 6),kE P "__builtins__" 171 (.ref 4),kE P "__file__" 173 (.str "/claim/cut.py" 172),kE P "__cached__" 174 .none,kE P "_wall" 193 (.ref 21),kE P "TreeError" 213 (.ref 31),kE P "NoTree" 229 (.ref 44),kE P "NoPlace" 245 (.ref 56),kE P "NoRoad" 261 (.ref 68),kE P "NoSite" 277 (.ref 80),kE P "NoYard" 293 (.ref 92),kE P "NoWorth" 309 (.ref 104),kE P "NoGift" 325 (.ref 116),kE P "MOST_PLACES" 329 (.int 12 328),kE P "is_whole" 336 (.ref 125),kE P "is_place" 344 (.ref 132),kE P "are_places" 350 (.ref 137),kE P "are_unlike" 357 (.ref 144),kE P "is_road" 365 (.ref 151),kE P "is_tree" 371 (.ref 156),kE P "check_tree" 379 (.ref 163),kE P "check_places" 387 (.ref 170),kE P "neighbours" 393 (.ref 175),kE P "steps_to" 406 (.ref 182),kE P "fars_from" 412 (.ref 187),kE P "way_between" 423 (.ref 194),kE P "far" 433 (.ref 201),kE P "places_beyond" 439 (.ref 206),kE P "is_lump" 445 (.ref 211),kE P "leaves" 451 (.ref 216),kE P "odd_places" 457 (.ref 221),kE P "are_gives" 465 (.ref 226),kE P "check_gives" 473 (.ref 233),kE P "loads" 479 (.ref 238),kE P "least_cost" 485 (.ref 243),kE P "farthest" 496 (.ref 250),kE P "end_pair" 504 (.ref 257),kE P "ends" 512 (.ref 264),kE P "are_wants" 518 (.ref 269),kE P "check_wants" 526 (.ref 276),kE P "sum_at" 532 (.ref 281),kE P "sum_from" 542 (.ref 288),kE P "balance" 548 (.ref 293),kE P "check_sites" 559 (.ref 300),kE P "sites_serving" 565 (.ref 305),kE P "dig" 571 (.ref 310),kE P "dig_for" 577 (.ref 315),kE P "wells" 587 (.ref 322),kE P "check_asked" 600 (.ref 329),kE P "houses_of" 606 (.ref 334),kE P "steps_of_reach" 619 (.ref 341),kE P "find_reach" 632 (.ref 348),
kE P "least_reach" 643 (.ref 355),kE P "Question" 769 (.ref 435),kE P "Middle" 855 (.ref 498),kE P "Balance" 940 (.ref 559),kE P "are_sites" 948 (.ref 568),kE P "is_house" 956 (.ref 575),kE P "Digging" 1008 (.ref 606),kE P "Wells" 1101 (.ref 672),kE P "Reach" 1188 (.ref 733),kE P "Goods" 1273 (.ref 794),kE P "walk_off" 1286 (.ref 803),kE P "walks" 1297 (.ref 810),kE P "sweeps" 1303 (.ref 815),kE P "line_from" 1309 (.ref 820),kE P "round_by" 1320 (.ref 827),kE P "length_of" 1333 (.ref 834),kE P "check_yards" 1341 (.ref 839),kE P "gates_of" 1347 (.ref 844),kE P "outer_first" 1357 (.ref 851),kE P "meet" 1363 (.ref 856),kE P "spots" 1372 (.ref 863),kE P "least_unused" 1380 (.ref 870),kE P "colours" 1386 (.ref 875),kE P "are_worths" 1394 (.ref 880),kE P "check_worths" 1402 (.ref 887),kE P "raise_prices" 1408 (.ref 892),kE P "prices" 1418 (.ref 899),kE P "Yards" 1451 (.ref 921),kE P "Spots" 1536 (.ref 982),kE P "count_colours" 1543 (.ref 991),kE P "Colours" 1628 (.ref 1050),kE P "Worths" 1737 (.ref 1125),kE P "Sweeping" 1772 (.ref 1151),kE P "Walks" 1857 (.ref 1212),kE P "Sweeps" 1942 (.ref 1273),kE P "Round" 2037 (.ref 1341),kE P "kinds" 2045 (.ref 1350),kE P "_law_mix" 2056 (.ref 1357),kE P "_law_whole" 2063 (.ref 1364),kE P "_law_cell_at" 2071 (.ref 1371),kE P "_law_left" 2079 (.ref 1378),kE P "_law_draw" 2088 (.ref 1385),kE P "_law_size" 2098 (.ref 1392),kE P "_law_hung" 2104 (.ref 1397),kE P "_law_tree" 2123 (.ref 1404),kE P "_law_fars" 2129 (.ref 1409),kE P "_law_lump" 2144 (.ref 1416),kE P "_law_sites" 2155 (.ref 1423),kE P "_law_amount" 2163 (.ref 1430),kE P "_law_asked" 2169 (.ref 1435),kE P "_law_bent" 2186 (.ref 1442),kE P "_law_places" 2196 (.ref 1449),kE P "_law_are_lumps" 2202 (.ref 1454),kE P "_law_due" 2213 (.ref 1461),kE P "law" 2219 (.ref 1466)] 112) #[]
noncomputable def o4:O:=fun P=>.mk (.type "module") (some 0) Data.plain #[]
noncomputable def o5:O:=fun P=>.mk (.type "module") (some 3) Data.plain #[]
noncomputable def o6:O:=fun P=>.mk (.type "dict") none (.dict #[]) #[]
noncomputable def o9:O:=q2 "<module>" 176 177 178 1 7 175 8 179 180
noncomputable def o10:O:=q3 9 3 "__main__" 164
noncomputable def o12:O:=fun P=>.mk .none none (.fields #[.int 1 0,.int 0 0,.ref 20,.int 5 0,.int 0 0,.ref 27,.int 7 0,.int 0 0,.ref 40,.int 9 0,.int 0 0,.ref 52,.int 11 0,.int 0 0,.ref 64,.int 13 0,.int 0 0,.ref 76,.int 15 0,.int 0 0,.ref 88,.int 17 0,.int 0 0,.ref 100,.int 19 0,.int 0 0,.ref 112,.int 23 0,.int 0 0,.ref 124,.int 25 0,.int 0 0,.ref 131,.int 27 0,.int 0 0,.ref 136,.int 29 0,.int 0 0,.ref 143,.int 31 0,.int 0 0,.ref 150,.int 35 0,.int 0 0,.ref 155,.int 41 0,.int 0 0,.ref 162,.int 44 0,.int 0 0,.ref 169,.int 47 0,.int 0 0,.ref 174,.int 53 0,.int 0 0,.ref 181,.int 65 0,.int 0 0,.ref 186,.int 72 0,.int 0 0,.ref 193,.int 78 0,.int 0 0,.ref 200,.int 82 0,.int 0 0,.ref 205,.int 86 0,.int 0 0,.ref 210,.int 92 0,.int 0 0,.ref 215,.int 96 0,.int 0 0,.ref 220,.int 101 0,.int 0 0,.ref 225,.int 103 0,.int 0 0,.ref 232,.int 106 0,.int 0 0,.ref 237,.int 114 0,.int 0 0,.ref 242,.int 117 0,.int 0 0,.ref 249,.int 120 0,.int 0 0,.ref 256,.int 123 0,.int 0 0,.ref 263,.int 126 0,.int 0 0,.ref 268,.int 128 0,.int 0 0,.ref 275,.int 131 0,.int 0 0,.ref 280,.int 133 0,.int 0 0,.ref 287,.int 138 0,.int 0 0,.ref 292,.int 145 0,.int 0 0,.ref 299,.int 150 0,.int 0 0,.ref 304,.int 153 0,.int 0 0,.ref 309,.int 168 0,.int 0 0,.ref 314,.int 172 0,.int 0 0,.ref 321,.int 175 0,.int 0 0,.ref 328,.int 180 0,.int 0 0,.ref 333,.int 182 0,.int 0 0,.ref 340,.int 189 0,.int 0 0,.ref 347,.int 196 0,.int 0 0,.ref 354,.int 200 0,.int 0 0,.ref 361,.int 231 0,.int 0 0,.ref 445,.int 254 0,.int 0 0,.ref 506,.int 276 0,.int 0 0,.ref 567,.int 278 0,.int 0 0,.ref 574,.int 280 0,.int 0 0,.ref 581,.int 290 0,.int 0 0,.ref 614,.int 318 0,.int 0 0,.ref 680,.int 342 0,.int 0 0,.ref 741,.int 365 0,.int 0 0,.ref 802,.int 374 0,.int 0 0,.ref 809,.int 382 0,.int 0 0,.ref 814,.int 388 0,.int 0 0,.ref 819,.int 399 0,.int 0 0,.ref 826,.int 407 0,.int 0 0,.ref 833,.int 418 0,.int 0 0,.ref 838,.int 422 0,.int 0 0,.ref 843,.int 425 0,.int 0 0,.ref 850,.int 428 0,.int 0 0,.ref 855,.int 439 0,.int 0 0,.ref 862,.int 441 0,.int 0 0,.ref 869,.int 446 0,.int 0 0,.ref 874,.int 456 0,.int 0 0,.ref 879,.int 458 0,.int 0 0,.ref 886,.int 461 0,.int 0 0,.ref 891,.int 474 0,.int 0 0,.ref 898,.int 477 0,.int 0 0,.ref 905,.int 484 0,.int 0 0,.ref 929,.int 506 0,.int 0 0,.ref 990,.int 508 0,.int 0 0,.ref 997,.int 530 0,.int 0 0,.ref 1058,.int 558 0,.int 0 0,.ref 1133,.int 565 0,.int 0 0,.ref 1159,.int 587 0,.int 0 0,.ref 1220,.int 609 0,.int 0 0,.ref 1281,.int 635 0,.int 0 0,.ref 1349,.int 638 0,.int 0 0,.ref 1356,.int 641 0,.int 0 0,.ref 1363,.int 643 0,.int 0 0,.ref 1370,.int 647 0,.int 0 0,.ref 1377,.int 649 0,.int 0 0,.ref 1384,.int 656 0,.int 0 0,.ref 1391,.int 660 0,.int 0 0,.ref 1396,.int 668 0,.int 0 0,.ref 1403,.int 695 0,.int 0 0,.ref 1408,.int 703 0,.int 0 0,.ref 1415,.int 714 0,.int 0 0,.ref 1422,.int 720 0,.int 0 0,.ref 1429,.int 724 0,.int 0 0,.ref 1434,.int 752 0,.int 0 0,.ref 1441,.int 768 0,.int 0 0,.ref 1448,.int 773 0,.int 0 0,.ref 1453,.int 781 0,.int 0 0,.ref 1460,.int 806 0,.int 0 0,.ref 1465]) #[]
noncomputable def o13:O:=q2 "<module>" 182 183 184 1 11 181 12 185 186
noncomputable def o14:O:=q3 13 3 "__main__" 164
noncomputable def o17:O:=q4 "k" 190
noncomputable def o19:O:=q5 "_wall" 0
noncomputable def o20:O:=q6 "_wall" 187 "_wall" 188 189 1 1 15 16 17 18 19 191 192
noncomputable def o21:O:=q7 "_wall" 0 "__main__" 164 20
noncomputable def o22:O:=fun P=>.mk (.type "tuple") none (.seq #[.type "ValueError"]) #[]
noncomputable def o24:O:=q9 203 205 "TreeError" 204 207 5 206 208 29
noncomputable def o27:O:=q2 "TreeError" 198 199 200 5 25 181 26 201 202
noncomputable def o28:O:=q3 27 24 "treewells.errors" 194
noncomputable def o30:O:=fun P=>.mk (.type "dict") none (.dict #[kE P "__module__" 203 (.str "treewells.errors" 194),kE P "__firstlineno__" 207 (.int 5 206),kE P "__static_attributes__" 208 (.ref 29),kE P "__weakref__" 210 (.ref 32),kE P "__doc__" 211 .none] 3) #[]
noncomputable def o31:O:=fun P=>.mk (.type "type") none (Data.cls (ClassData.mk "TreeError" [.type "ValueError"] [.ref 31,.type "ValueError",.type "Exception",.type "BaseException",.type "object"] 30 "TreeError" true [] [.ref 44,.ref 56,.ref 68,.ref 80,.ref 92,.ref 104,.ref 116] false none false)) #[some (.ref 22),none,some (.str "TreeError" 196),some (.str "TreeError" 204),some (.builtin "ValueError.__new__"),some (.bool true)]
noncomputable def o32:O:=fun P=>.mk (.type "getset_descriptor") none (.fields #[.str "__weakref__" 209,.ref 31,.builtin "ExceptionGroup.__weakref__",.none]) #[]
noncomputable def o33:O:=q10 31
noncomputable def o34:O:=q11 31
noncomputable def o35:O:=q12 31
noncomputable def o37:O:=q9 221 223 "NoTree" 222 225 7 224 226 42
noncomputable def o40:O:=q2 "NoTree" 216 217 218 7 38 181 39 219 220
noncomputable def o41:O:=q3 40 37 "treewells.errors" 194
noncomputable def o43:O:=q13 221 225 7 224 226 42 227
noncomputable def o44:O:=q14 "NoTree" 44 43 35 214 222
noncomputable def o45:O:=q10 44
noncomputable def o46:O:=q11 44
noncomputable def o47:O:=q12 31
noncomputable def o49:O:=q9 237 239 "NoPlace" 238 241 9 240 242 54
noncomputable def o52:O:=q2 "NoPlace" 232 233 234 9 50 181 51 235 236
noncomputable def o53:O:=q3 52 49 "treewells.errors" 194
noncomputable def o55:O:=q13 237 241 9 240 242 54 243
noncomputable def o56:O:=q14 "NoPlace" 56 55 47 230 238
noncomputable def o57:O:=q10 56
noncomputable def o58:O:=q11 56
noncomputable def o59:O:=q12 31
noncomputable def o61:O:=q9 253 255 "NoRoad" 254 257 11 256 258 66
noncomputable def o64:O:=q2 "NoRoad" 248 249 250 11 62 181 63 251 252
noncomputable def o65:O:=q3 64 61 "treewells.errors" 194
noncomputable def o67:O:=q13 253 257 11 256 258 66 259
noncomputable def o68:O:=q14 "NoRoad" 68 67 59 246 254
noncomputable def o69:O:=q10 68
noncomputable def o70:O:=q11 68
noncomputable def o71:O:=q12 31
noncomputable def o73:O:=q9 269 271 "NoSite" 270 273 13 272 274 78
noncomputable def o76:O:=q2 "NoSite" 264 265 266 13 74 181 75 267 268
noncomputable def o77:O:=q3 76 73 "treewells.errors" 194
noncomputable def o79:O:=q13 269 273 13 272 274 78 275
noncomputable def o80:O:=q14 "NoSite" 80 79 71 262 270
noncomputable def o81:O:=q10 80
noncomputable def o82:O:=q11 80
noncomputable def o83:O:=q12 31
noncomputable def o85:O:=q9 285 287 "NoYard" 286 289 15 288 290 90
noncomputable def o88:O:=q2 "NoYard" 280 281 282 15 86 181 87 283 284
noncomputable def o89:O:=q3 88 85 "treewells.errors" 194
noncomputable def o91:O:=q13 285 289 15 288 290 90 291
noncomputable def o92:O:=q14 "NoYard" 92 91 83 278 286
noncomputable def o93:O:=q10 92
noncomputable def o94:O:=q11 92
noncomputable def o95:O:=q12 31
noncomputable def o97:O:=q9 301 303 "NoWorth" 302 305 17 304 306 102
noncomputable def o100:O:=q2 "NoWorth" 296 297 298 17 98 181 99 299 300
noncomputable def o101:O:=q3 100 97 "treewells.errors" 194
noncomputable def o103:O:=q13 301 305 17 304 306 102 307
noncomputable def o104:O:=q14 "NoWorth" 104 103 95 294 302
noncomputable def o105:O:=q10 104
noncomputable def o106:O:=q11 104
noncomputable def o107:O:=q12 31
noncomputable def o109:O:=q9 317 319 "NoGift" 318 321 19 320 322 114
noncomputable def o112:O:=q2 "NoGift" 312 313 314 19 110 181 111 315 316
noncomputable def o113:O:=q3 112 109 "treewells.errors" 194
noncomputable def o115:O:=q13 317 321 19 320 322 114 323
noncomputable def o116:O:=q14 "NoGift" 116 115 107 310 318
noncomputable def o117:O:=q10 116
noncomputable def o118:O:=q11 116
noncomputable def o121:O:=q4 "value" 333
noncomputable def o123:O:=q5 "is_whole" 12
noncomputable def o124:O:=q6 "is_whole" 330 "is_whole" 331 332 23 1 119 120 121 122 123 334 335
noncomputable def o125:O:=q7 "is_whole" 12 "treewells.trees" 326 124
noncomputable def o128:O:=q15 "many" 340 "value" 341
noncomputable def o130:O:=q5 "is_place" 13
noncomputable def o131:O:=q6 "is_place" 337 "is_place" 338 339 25 2 126 127 128 129 130 342 343
noncomputable def o132:O:=q7 "is_place" 13 "treewells.trees" 326 131
noncomputable def o135:O:=q5 "are_places" 14
noncomputable def o136:O:=q16 "are_places" 345 "are_places" 346 347 27 2 133 134 135 348 349
noncomputable def o137:O:=q7 "are_places" 14 "treewells.trees" 326 136
noncomputable def o140:O:=q4 "some" 354
noncomputable def o142:O:=q5 "are_unlike" 15
noncomputable def o143:O:=q6 "are_unlike" 351 "are_unlike" 352 353 29 1 138 139 140 141 142 355 356
noncomputable def o144:O:=q7 "are_unlike" 15 "treewells.trees" 326 143
noncomputable def o147:O:=q15 "many" 361 "row" 362
noncomputable def o149:O:=q5 "is_road" 16
noncomputable def o150:O:=q6 "is_road" 358 "is_road" 359 360 31 2 145 146 147 148 149 363 364
noncomputable def o151:O:=q7 "is_road" 16 "treewells.trees" 326 150
noncomputable def o154:O:=q5 "is_tree" 17
noncomputable def o155:O:=q16 "is_tree" 366 "is_tree" 367 368 35 2 152 153 154 369 370
noncomputable def o156:O:=q7 "is_tree" 17 "treewells.trees" 326 155
noncomputable def o159:O:=q15 "many" 375 "roads" 376
noncomputable def o161:O:=q5 "check_tree" 18
noncomputable def o162:O:=q6 "check_tree" 372 "check_tree" 373 374 41 2 157 158 159 160 161 377 378
noncomputable def o163:O:=q7 "check_tree" 18 "treewells.trees" 326 162
noncomputable def o166:O:=q15 "many" 383 "some" 384
noncomputable def o168:O:=q5 "check_places" 19
noncomputable def o169:O:=q6 "check_places" 380 "check_places" 381 382 44 2 164 165 166 167 168 385 386
noncomputable def o170:O:=q7 "check_places" 19 "treewells.trees" 326 169
noncomputable def o173:O:=q5 "neighbours" 20
noncomputable def o174:O:=q16 "neighbours" 388 "neighbours" 389 390 47 2 171 172 173 391 392
noncomputable def o175:O:=q7 "neighbours" 20 "treewells.trees" 326 174
noncomputable def o178:O:=q17 "near" 397 "goal" 398 "steps" 399 "reached" 400 "done" 401 "here" 402 "place" 403
noncomputable def o180:O:=q5 "steps_to" 21
noncomputable def o181:O:=q6 "steps_to" 394 "steps_to" 395 396 53 2 176 177 178 179 180 404 405
noncomputable def o182:O:=q7 "steps_to" 21 "treewells.trees" 326 181
noncomputable def o185:O:=q5 "fars_from" 22
noncomputable def o186:O:=q16 "fars_from" 407 "fars_from" 408 409 65 2 183 184 185 410 411
noncomputable def o187:O:=q7 "fars_from" 22 "treewells.trees" 326 186
noncomputable def o190:O:=q18 "near" 416 "a" 417 "b" 418 "steps" 419 "places" 420
noncomputable def o192:O:=q5 "way_between" 23
noncomputable def o193:O:=q6 "way_between" 413 "way_between" 414 415 72 3 188 189 190 191 192 421 422
noncomputable def o194:O:=q7 "way_between" 23 "treewells.trees" 326 193
noncomputable def o197:O:=q19 "many" 427 "roads" 428 "a" 429 "b" 430
noncomputable def o199:O:=q5 "far" 24
noncomputable def o200:O:=q6 "far" 424 "far" 425 426 78 4 195 196 197 198 199 431 432
noncomputable def o201:O:=q7 "far" 24 "treewells.trees" 326 200
noncomputable def o204:O:=q5 "places_beyond" 25
noncomputable def o205:O:=q16 "places_beyond" 434 "places_beyond" 435 436 82 3 202 203 204 437 438
noncomputable def o206:O:=q7 "places_beyond" 25 "treewells.trees" 326 205
noncomputable def o209:O:=q5 "is_lump" 26
noncomputable def o210:O:=q16 "is_lump" 440 "is_lump" 441 442 86 3 207 208 209 443 444
noncomputable def o211:O:=q7 "is_lump" 26 "treewells.trees" 326 210
noncomputable def o214:O:=q5 "leaves" 27
noncomputable def o215:O:=q16 "leaves" 446 "leaves" 447 448 92 2 212 213 214 449 450
noncomputable def o216:O:=q7 "leaves" 27 "treewells.trees" 326 215
noncomputable def o219:O:=q5 "odd_places" 28
noncomputable def o220:O:=q16 "odd_places" 452 "odd_places" 453 454 96 2 217 218 219 455 456
noncomputable def o221:O:=q7 "odd_places" 28 "treewells.trees" 326 220
noncomputable def o224:O:=q5 "are_gives" 30
noncomputable def o225:O:=q16 "are_gives" 460 "are_gives" 461 462 101 2 222 223 224 463 464
noncomputable def o226:O:=q7 "are_gives" 30 "treewells.goods" 458 225
noncomputable def o229:O:=q15 "many" 469 "gives" 470
noncomputable def o231:O:=q5 "check_gives" 31
noncomputable def o232:O:=q6 "check_gives" 466 "check_gives" 467 468 103 2 227 228 229 230 231 471 472
noncomputable def o233:O:=q7 "check_gives" 31 "treewells.goods" 458 232
noncomputable def o236:O:=q5 "loads" 32
noncomputable def o237:O:=q16 "loads" 474 "loads" 475 476 106 3 234 235 236 477 478
noncomputable def o238:O:=q7 "loads" 32 "treewells.goods" 458 237
noncomputable def o241:O:=q5 "least_cost" 33
noncomputable def o242:O:=q16 "least_cost" 480 "least_cost" 481 482 114 3 239 240 241 483 484
noncomputable def o243:O:=q7 "least_cost" 33 "treewells.goods" 458 242
noncomputable def o246:O:=q20 "near" 491 "start" 492 "fars" 493
noncomputable def o248:O:=q5 "farthest" 35
noncomputable def o249:O:=q6 "farthest" 488 "farthest" 489 490 117 2 244 245 246 247 248 494 495
noncomputable def o250:O:=q7 "farthest" 35 "treewells.middles" 486 249
noncomputable def o253:O:=q15 "near" 500 "first" 501
noncomputable def o255:O:=q5 "end_pair" 36
noncomputable def o256:O:=q6 "end_pair" 497 "end_pair" 498 499 120 1 251 252 253 254 255 502 503
noncomputable def o257:O:=q7 "end_pair" 36 "treewells.middles" 486 256
noncomputable def o260:O:=q15 "many" 508 "roads" 509
noncomputable def o262:O:=q5 "ends" 37
noncomputable def o263:O:=q6 "ends" 505 "ends" 506 507 123 2 258 259 260 261 262 510 511
noncomputable def o264:O:=q7 "ends" 37 "treewells.middles" 486 263
noncomputable def o267:O:=q5 "are_wants" 38
noncomputable def o268:O:=q16 "are_wants" 513 "are_wants" 514 515 126 2 265 266 267 516 517
noncomputable def o269:O:=q7 "are_wants" 38 "treewells.middles" 486 268
noncomputable def o272:O:=q15 "many" 522 "wants" 523
noncomputable def o274:O:=q5 "check_wants" 39
noncomputable def o275:O:=q6 "check_wants" 519 "check_wants" 520 521 128 2 270 271 272 273 274 524 525
noncomputable def o276:O:=q7 "check_wants" 39 "treewells.middles" 486 275
noncomputable def o279:O:=q5 "sum_at" 40
noncomputable def o280:O:=q16 "sum_at" 527 "sum_at" 528 529 131 3 277 278 279 530 531
noncomputable def o281:O:=q7 "sum_at" 40 "treewells.middles" 486 280
noncomputable def o284:O:=q19 "many" 536 "roads" 537 "wants" 538 "place" 539
noncomputable def o286:O:=q5 "sum_from" 41
noncomputable def o287:O:=q6 "sum_from" 533 "sum_from" 534 535 133 4 282 283 284 285 286 540 541
noncomputable def o288:O:=q7 "sum_from" 41 "treewells.middles" 486 287
noncomputable def o291:O:=q5 "balance" 42
noncomputable def o292:O:=q16 "balance" 543 "balance" 544 545 138 3 289 290 291 546 547
noncomputable def o293:O:=q7 "balance" 42 "treewells.middles" 486 292
noncomputable def o296:O:=q20 "many" 554 "homes" 555 "sites" 556
noncomputable def o298:O:=q5 "check_sites" 44
noncomputable def o299:O:=q6 "check_sites" 551 "check_sites" 552 553 145 3 294 295 296 297 298 557 558
noncomputable def o300:O:=q7 "check_sites" 44 "treewells.wells" 549 299
noncomputable def o303:O:=q5 "sites_serving" 45
noncomputable def o304:O:=q16 "sites_serving" 560 "sites_serving" 561 562 150 3 301 302 303 563 564
noncomputable def o305:O:=q7 "sites_serving" 45 "treewells.wells" 549 304
noncomputable def o308:O:=q5 "dig" 46
noncomputable def o309:O:=q16 "dig" 566 "dig" 567 568 153 3 306 307 308 569 570
noncomputable def o310:O:=q7 "dig" 46 "treewells.wells" 549 309
noncomputable def o313:O:=q5 "dig_for" 47
noncomputable def o314:O:=q16 "dig_for" 572 "dig_for" 573 574 168 4 311 312 313 575 576
noncomputable def o315:O:=q7 "dig_for" 47 "treewells.wells" 549 314
noncomputable def o318:O:=q19 "many" 581 "roads" 582 "houses" 583 "sites" 584
noncomputable def o320:O:=q5 "wells" 48
noncomputable def o321:O:=q6 "wells" 578 "wells" 579 580 172 4 316 317 318 319 320 585 586
noncomputable def o322:O:=q7 "wells" 48 "treewells.wells" 549 321
noncomputable def o325:O:=q18 "many" 593 "roads" 594 "homes" 595 "sites" 596 "count" 597
noncomputable def o327:O:=q5 "check_asked" 50
noncomputable def o328:O:=q6 "check_asked" 590 "check_asked" 591 592 175 5 323 324 325 326 327 598 599
noncomputable def o329:O:=q7 "check_asked" 50 "treewells.reaches" 588 328
noncomputable def o332:O:=q5 "houses_of" 51
noncomputable def o333:O:=q16 "houses_of" 601 "houses_of" 602 603 180 2 330 331 332 604 605
noncomputable def o334:O:=q7 "houses_of" 51 "treewells.reaches" 588 333
noncomputable def o337:O:=q17 "near" 610 "homes" 611 "sites" 612 "lengths" 613 "home" 614 "fars" 615 "site" 616
noncomputable def o339:O:=q5 "steps_of_reach" 52
noncomputable def o340:O:=q6 "steps_of_reach" 607 "steps_of_reach" 608 609 182 3 335 336 337 338 339 617 618
noncomputable def o341:O:=q7 "steps_of_reach" 52 "treewells.reaches" 588 340
noncomputable def o344:O:=q17 "near" 623 "homes" 624 "sites" 625 "count" 626 "unlike" 627 "reach" 628 "dug" 629
noncomputable def o346:O:=q5 "find_reach" 53
noncomputable def o347:O:=q6 "find_reach" 620 "find_reach" 621 622 189 4 342 343 344 345 346 630 631
noncomputable def o348:O:=q7 "find_reach" 53 "treewells.reaches" 588 347
noncomputable def o351:O:=q18 "many" 636 "roads" 637 "homes" 638 "sites" 639 "count" 640
noncomputable def o353:O:=q5 "least_reach" 54
noncomputable def o354:O:=q6 "least_reach" 633 "least_reach" 634 635 196 5 349 350 351 352 353 641 642
noncomputable def o355:O:=q7 "least_reach" 54 "treewells.reaches" 588 354
noncomputable def o358:O:=fun P=>.mk (.type "dict") none (.dict #[kE P "__module__" 653 (.str "treewells.questions" 644),kE P "__qualname__" 655 (.str "Question" 654),kE P "__firstlineno__" 657 (.int 200 656),kE P "word" 664 (.ref 369),kE P "fits" 674 (.ref 376),kE P "answer" 684 (.ref 383),kE P "paper" 694 (.ref 390),kE P "worth" 704 (.ref 397),kE P "answer_size" 715 (.ref 404),kE P "paper_size" 726 (.ref 411),kE P "shows_none" 737 (.ref 418),kE P "takes" 749 (.ref 425),kE P "shows" 761 (.ref 432),kE P "__static_attributes__" 762 (.ref 433)] 14) #[]
noncomputable def o360:O:=fun P=>.mk .none none (.fields #[.int 202 0,.int 4 0,.ref 368,.int 205 0,.int 4 0,.ref 375,.int 208 0,.int 4 0,.ref 382,.int 211 0,.int 4 0,.ref 389,.int 214 0,.int 4 0,.ref 396,.int 217 0,.int 4 0,.ref 403,.int 220 0,.int 4 0,.ref 410,.int 223 0,.int 4 0,.ref 417,.int 226 0,.int 4 0,.ref 424,.int 229 0,.int 4 0,.ref 431]) #[]
noncomputable def o361:O:=q2 "Question" 648 649 650 200 359 181 360 651 652
noncomputable def o362:O:=q3 361 358 "treewells.questions" 644
noncomputable def o365:O:=q4 "self" 661
noncomputable def o367:O:=q21 "word" "Question.word" 56 0
noncomputable def o368:O:=q6 "word" 658 "Question.word" 659 660 202 1 363 364 365 366 367 662 663
noncomputable def o369:O:=q22 "word" "Question.word" 56 0 "treewells.questions" 644 368
noncomputable def o372:O:=q19 "self" 668 "many" 669 "roads" 670 "asked" 671
noncomputable def o374:O:=q21 "fits" "Question.fits" 56 1
noncomputable def o375:O:=q6 "fits" 665 "Question.fits" 666 667 205 4 370 371 372 373 374 672 673
noncomputable def o376:O:=q22 "fits" "Question.fits" 56 1 "treewells.questions" 644 375
noncomputable def o379:O:=q19 "self" 678 "many" 679 "roads" 680 "asked" 681
noncomputable def o381:O:=q21 "answer" "Question.answer" 56 2
noncomputable def o382:O:=q6 "answer" 675 "Question.answer" 676 677 208 4 377 378 379 380 381 682 683
noncomputable def o383:O:=q22 "answer" "Question.answer" 56 2 "treewells.questions" 644 382
noncomputable def o386:O:=q19 "self" 688 "many" 689 "roads" 690 "asked" 691
noncomputable def o388:O:=q21 "paper" "Question.paper" 56 3
noncomputable def o389:O:=q6 "paper" 685 "Question.paper" 686 687 211 4 384 385 386 387 388 692 693
noncomputable def o390:O:=q22 "paper" "Question.paper" 56 3 "treewells.questions" 644 389
noncomputable def o393:O:=q19 "self" 698 "many" 699 "roads" 700 "asked" 701
noncomputable def o395:O:=q21 "worth" "Question.worth" 56 4
noncomputable def o396:O:=q6 "worth" 695 "Question.worth" 696 697 214 4 391 392 393 394 395 702 703
noncomputable def o397:O:=q22 "worth" "Question.worth" 56 4 "treewells.questions" 644 396
noncomputable def o400:O:=q18 "self" 708 "many" 709 "roads" 710 "asked" 711 "rows" 712
noncomputable def o402:O:=q21 "answer_size" "Question.answer_size" 56 5
noncomputable def o403:O:=q6 "answer_size" 705 "Question.answer_size" 706 707 217 5 398 399 400 401 402 713 714
noncomputable def o404:O:=q22 "answer_size" "Question.answer_size" 56 5 "treewells.questions" 644 403
noncomputable def o407:O:=q18 "self" 719 "many" 720 "roads" 721 "asked" 722 "rows" 723
noncomputable def o409:O:=q21 "paper_size" "Question.paper_size" 56 6
noncomputable def o410:O:=q6 "paper_size" 716 "Question.paper_size" 717 718 220 5 405 406 407 408 409 724 725
noncomputable def o411:O:=q22 "paper_size" "Question.paper_size" 56 6 "treewells.questions" 644 410
noncomputable def o414:O:=q18 "self" 730 "many" 731 "roads" 732 "asked" 733 "rows" 734
noncomputable def o416:O:=q21 "shows_none" "Question.shows_none" 56 7
noncomputable def o417:O:=q6 "shows_none" 727 "Question.shows_none" 728 729 223 5 412 413 414 415 416 735 736
noncomputable def o418:O:=q22 "shows_none" "Question.shows_none" 56 7 "treewells.questions" 644 417
noncomputable def o421:O:=q23 741 742 743 "asked" 744 "rows" 745 "worth" 746
noncomputable def o423:O:=q21 "takes" "Question.takes" 56 8
noncomputable def o424:O:=q6 "takes" 738 "Question.takes" 739 740 226 6 419 420 421 422 423 747 748
noncomputable def o425:O:=q22 "takes" "Question.takes" 56 8 "treewells.questions" 644 424
noncomputable def o428:O:=q23 753 754 755 "asked" 756 "rows" 757 "worth" 758
noncomputable def o430:O:=q21 "shows" "Question.shows" 56 9
noncomputable def o431:O:=q6 "shows" 750 "Question.shows" 751 752 229 6 426 427 428 429 430 759 760
noncomputable def o432:O:=q22 "shows" "Question.shows" 56 9 "treewells.questions" 644 431
noncomputable def o434:O:=fun P=>.mk (.type "dict") none (.dict #[kE P "__module__" 653 (.str "treewells.questions" 644),kE P "__firstlineno__" 657 (.int 200 656),kE P "word" 664 (.ref 369),kE P "fits" 674 (.ref 376),kE P "answer" 684 (.ref 383),kE P "paper" 694 (.ref 390),kE P "worth" 704 (.ref 397),kE P "answer_size" 715 (.ref 404),kE P "paper_size" 726 (.ref 411),kE P "shows_none" 737 (.ref 418),kE P "takes" 749 (.ref 425),kE P "shows" 761 (.ref 432),kE P "__static_attributes__" 762 (.ref 433),kE P "__dict__" 764 (.ref 436),kE P "__weakref__" 766 (.ref 437),kE P "__doc__" 767 .none] 4) #[]
noncomputable def o435:O:=fun P=>.mk (.type "type") none (Data.cls (ClassData.mk "Question" [.type "object"] [.ref 435,.type "object"] 434 "Question" true [] [.ref 498,.ref 559,.ref 606,.ref 794,.ref 921,.ref 1151,.ref 1341] false none false)) #[none,none,some (.str "Question" 646),some (.str "Question" 654),some (.builtin "object.__new__"),some (.bool true)]
noncomputable def o436:O:=fun P=>.mk (.type "getset_descriptor") none (.fields #[.str "__dict__" 763,.ref 435,.builtin "function.__dict__",.builtin "function.__dict__#set"]) #[]
noncomputable def o437:O:=fun P=>.mk (.type "getset_descriptor") none (.fields #[.str "__weakref__" 765,.ref 435,.builtin "ExceptionGroup.__weakref__",.none]) #[]
noncomputable def o438:O:=q10 435
noncomputable def o439:O:=q11 435
noncomputable def o440:O:=q12 435
noncomputable def o442:O:=q24 777 "treewells.questions" 644 779 "Middle" 778 781 231 780 788 453 798 460 808 467 818 474 829 481 "answer_size" 840 488 "paper_size" 851 495 852 496
noncomputable def o444:O:=q25 233 452 236 459 239 466 242 473 245 480 249 487 252 494
noncomputable def o445:O:=q2 "Middle" 772 773 774 231 443 181 444 775 776
noncomputable def o446:O:=q3 445 442 "treewells.questions" 644
noncomputable def o449:O:=q4 "self" 785
noncomputable def o451:O:=q21 "word" "Middle.word" 57 0
noncomputable def o452:O:=q6 "word" 782 "Middle.word" 783 784 233 1 447 448 449 450 451 786 787
noncomputable def o453:O:=q22 "word" "Middle.word" 57 0 "treewells.questions" 644 452
noncomputable def o456:O:=q19 "self" 792 "many" 793 "roads" 794 "asked" 795
noncomputable def o458:O:=q21 "fits" "Middle.fits" 57 1
noncomputable def o459:O:=q6 "fits" 789 "Middle.fits" 790 791 236 4 454 455 456 457 458 796 797
noncomputable def o460:O:=q22 "fits" "Middle.fits" 57 1 "treewells.questions" 644 459
noncomputable def o463:O:=q19 "self" 802 "many" 803 "roads" 804 "asked" 805
noncomputable def o465:O:=q21 "answer" "Middle.answer" 57 2
noncomputable def o466:O:=q6 "answer" 799 "Middle.answer" 800 801 239 4 461 462 463 464 465 806 807
noncomputable def o467:O:=q22 "answer" "Middle.answer" 57 2 "treewells.questions" 644 466
noncomputable def o470:O:=q19 "self" 812 "many" 813 "roads" 814 "asked" 815
noncomputable def o472:O:=q21 "paper" "Middle.paper" 57 3
noncomputable def o473:O:=q6 "paper" 809 "Middle.paper" 810 811 242 4 468 469 470 471 472 816 817
noncomputable def o474:O:=q22 "paper" "Middle.paper" 57 3 "treewells.questions" 644 473
noncomputable def o477:O:=q18 "self" 822 "many" 823 "roads" 824 "asked" 825 "pair" 826
noncomputable def o479:O:=q21 "worth" "Middle.worth" 57 4
noncomputable def o480:O:=q6 "worth" 819 "Middle.worth" 820 821 245 4 475 476 477 478 479 827 828
noncomputable def o481:O:=q22 "worth" "Middle.worth" 57 4 "treewells.questions" 644 480
noncomputable def o484:O:=q18 "self" 833 "many" 834 "roads" 835 "asked" 836 "rows" 837
noncomputable def o486:O:=q21 "answer_size" "Middle.answer_size" 57 5
noncomputable def o487:O:=q6 "answer_size" 830 "Middle.answer_size" 831 832 249 5 482 483 484 485 486 838 839
noncomputable def o488:O:=q22 "answer_size" "Middle.answer_size" 57 5 "treewells.questions" 644 487
noncomputable def o491:O:=q18 "self" 844 "many" 845 "roads" 846 "asked" 847 "rows" 848
noncomputable def o493:O:=q21 "paper_size" "Middle.paper_size" 57 6
noncomputable def o494:O:=q6 "paper_size" 841 "Middle.paper_size" 842 843 252 5 489 490 491 492 493 849 850
noncomputable def o495:O:=q22 "paper_size" "Middle.paper_size" 57 6 "treewells.questions" 644 494
noncomputable def o497:O:=q26 777 "treewells.questions" 644 781 231 780 788 453 798 460 808 467 818 474 829 481 "answer_size" 840 488 "paper_size" 851 495 852 496 853
noncomputable def o498:O:=q27 "Middle" 498 497 440 770 778
noncomputable def o499:O:=q10 498
noncomputable def o500:O:=q11 498
noncomputable def o501:O:=q12 435
noncomputable def o503:O:=q24 863 "treewells.questions" 644 865 "Balance" 864 867 254 866 874 514 884 521 894 528 904 535 914 542 "answer_size" 925 549 "paper_size" 936 556 937 557
noncomputable def o505:O:=q25 256 513 259 520 262 527 265 534 268 541 271 548 274 555
noncomputable def o506:O:=q2 "Balance" 858 859 860 254 504 181 505 861 862
noncomputable def o507:O:=q3 506 503 "treewells.questions" 644
noncomputable def o510:O:=q4 "self" 871
noncomputable def o512:O:=q21 "word" "Balance.word" 58 0
noncomputable def o513:O:=q6 "word" 868 "Balance.word" 869 870 256 1 508 509 510 511 512 872 873
noncomputable def o514:O:=q22 "word" "Balance.word" 58 0 "treewells.questions" 644 513
noncomputable def o517:O:=q19 "self" 878 "many" 879 "roads" 880 "asked" 881
noncomputable def o519:O:=q21 "fits" "Balance.fits" 58 1
noncomputable def o520:O:=q6 "fits" 875 "Balance.fits" 876 877 259 4 515 516 517 518 519 882 883
noncomputable def o521:O:=q22 "fits" "Balance.fits" 58 1 "treewells.questions" 644 520
noncomputable def o524:O:=q19 "self" 888 "many" 889 "roads" 890 "asked" 891
noncomputable def o526:O:=q21 "answer" "Balance.answer" 58 2
noncomputable def o527:O:=q6 "answer" 885 "Balance.answer" 886 887 262 4 522 523 524 525 526 892 893
noncomputable def o528:O:=q22 "answer" "Balance.answer" 58 2 "treewells.questions" 644 527
noncomputable def o531:O:=q19 "self" 898 "many" 899 "roads" 900 "asked" 901
noncomputable def o533:O:=q21 "paper" "Balance.paper" 58 3
noncomputable def o534:O:=q6 "paper" 895 "Balance.paper" 896 897 265 4 529 530 531 532 533 902 903
noncomputable def o535:O:=q22 "paper" "Balance.paper" 58 3 "treewells.questions" 644 534
noncomputable def o538:O:=q19 "self" 908 "many" 909 "roads" 910 "asked" 911
noncomputable def o540:O:=q21 "worth" "Balance.worth" 58 4
noncomputable def o541:O:=q6 "worth" 905 "Balance.worth" 906 907 268 4 536 537 538 539 540 912 913
noncomputable def o542:O:=q22 "worth" "Balance.worth" 58 4 "treewells.questions" 644 541
noncomputable def o545:O:=q18 "self" 918 "many" 919 "roads" 920 "asked" 921 "rows" 922
noncomputable def o547:O:=q21 "answer_size" "Balance.answer_size" 58 5
noncomputable def o548:O:=q6 "answer_size" 915 "Balance.answer_size" 916 917 271 5 543 544 545 546 547 923 924
noncomputable def o549:O:=q22 "answer_size" "Balance.answer_size" 58 5 "treewells.questions" 644 548
noncomputable def o552:O:=q18 "self" 929 "many" 930 "roads" 931 "asked" 932 "rows" 933
noncomputable def o554:O:=q21 "paper_size" "Balance.paper_size" 58 6
noncomputable def o555:O:=q6 "paper_size" 926 "Balance.paper_size" 927 928 274 5 550 551 552 553 554 934 935
noncomputable def o556:O:=q22 "paper_size" "Balance.paper_size" 58 6 "treewells.questions" 644 555
noncomputable def o558:O:=q26 863 "treewells.questions" 644 867 254 866 874 514 884 521 894 528 904 535 914 542 "answer_size" 925 549 "paper_size" 936 556 937 557 938
noncomputable def o559:O:=q27 "Balance" 559 558 501 856 864
noncomputable def o560:O:=q10 559
noncomputable def o561:O:=q11 559
noncomputable def o564:O:=q15 "many" 944 "some" 945
noncomputable def o566:O:=q5 "are_sites" 59
noncomputable def o567:O:=q6 "are_sites" 941 "are_sites" 942 943 276 2 562 563 564 565 566 946 947
noncomputable def o568:O:=q7 "are_sites" 59 "treewells.questions" 644 567
noncomputable def o571:O:=q15 "many" 952 "row" 953
noncomputable def o573:O:=q5 "is_house" 60
noncomputable def o574:O:=q6 "is_house" 949 "is_house" 950 951 278 2 569 570 571 572 573 954 955
noncomputable def o575:O:=q7 "is_house" 60 "treewells.questions" 644 574
noncomputable def o576:O:=q12 435
noncomputable def o578:O:=fun P=>.mk (.type "dict") none (.dict #[kE P "__module__" 964 (.str "treewells.questions" 644),kE P "__qualname__" 966 (.str "Digging" 965),kE P "__firstlineno__" 968 (.int 280 967),kE P "are_wells" 980 (.ref 589),kE P "are_shy" 992 (.ref 596),kE P "are_missed" 1004 (.ref 603),kE P "__static_attributes__" 1005 (.ref 604)] 7) #[]
noncomputable def o580:O:=fun P=>.mk .none none (.fields #[.int 282 0,.int 4 0,.ref 588,.int 285 0,.int 4 0,.ref 595,.int 288 0,.int 4 0,.ref 602]) #[]
noncomputable def o581:O:=q2 "Digging" 959 960 961 280 579 181 580 962 963
noncomputable def o582:O:=q3 581 578 "treewells.questions" 644
noncomputable def o585:O:=q23 972 973 974 "houses" 975 "sites" 976 "rows" 977
noncomputable def o587:O:=q21 "are_wells" "Digging.are_wells" 61 0
noncomputable def o588:O:=q6 "are_wells" 969 "Digging.are_wells" 970 971 282 6 583 584 585 586 587 978 979
noncomputable def o589:O:=q22 "are_wells" "Digging.are_wells" 61 0 "treewells.questions" 644 588
noncomputable def o592:O:=q23 984 985 986 "houses" 987 "sites" 988 "rows" 989
noncomputable def o594:O:=q21 "are_shy" "Digging.are_shy" 61 1
noncomputable def o595:O:=q6 "are_shy" 981 "Digging.are_shy" 982 983 285 6 590 591 592 593 594 990 991
noncomputable def o596:O:=q22 "are_shy" "Digging.are_shy" 61 1 "treewells.questions" 644 595
noncomputable def o599:O:=q23 996 997 998 "houses" 999 "sites" 1000 "rows" 1001
noncomputable def o601:O:=q21 "are_missed" "Digging.are_missed" 61 2
noncomputable def o602:O:=q6 "are_missed" 993 "Digging.are_missed" 994 995 288 6 597 598 599 600 601 1002 1003
noncomputable def o603:O:=q22 "are_missed" "Digging.are_missed" 61 2 "treewells.questions" 644 602
noncomputable def o605:O:=fun P=>.mk (.type "dict") none (.dict #[kE P "__module__" 964 (.str "treewells.questions" 644),kE P "__firstlineno__" 968 (.int 280 967),kE P "are_wells" 980 (.ref 589),kE P "are_shy" 992 (.ref 596),kE P "are_missed" 1004 (.ref 603),kE P "__static_attributes__" 1005 (.ref 604),kE P "__doc__" 1006 .none] 2) #[]
noncomputable def o606:O:=fun P=>.mk (.type "type") none (Data.cls (ClassData.mk "Digging" [.ref 435] [.ref 606,.ref 435,.type "object"] 605 "Digging" true [] [.ref 672,.ref 733] false none false)) #[some (.ref 576),none,some (.str "Digging" 957),some (.str "Digging" 965),some (.builtin "object.__new__"),some (.bool true)]
noncomputable def o607:O:=q10 606
noncomputable def o608:O:=q11 606
noncomputable def o609:O:=q12 606
noncomputable def o611:O:=fun P=>.mk (.type "dict") none (.dict #[kE P "__module__" 1016 (.str "treewells.questions" 644),kE P "__qualname__" 1018 (.str "Wells" 1017),kE P "__firstlineno__" 1020 (.int 290 1019),kE P "word" 1027 (.ref 622),kE P "fits" 1033 (.ref 627),kE P "answer" 1043 (.ref 634),kE P "paper" 1053 (.ref 641),kE P "worth" 1064 (.ref 648),kE P "answer_size" 1075 (.ref 655),kE P "paper_size" 1086 (.ref 662),kE P "shows_none" 1097 (.ref 669),kE P "__static_attributes__" 1098 (.ref 670)] 12) #[]
noncomputable def o613:O:=fun P=>.mk .none none (.fields #[.int 292 0,.int 4 0,.ref 621,.int 295 0,.int 4 0,.ref 626,.int 300 0,.int 4 0,.ref 633,.int 303 0,.int 4 0,.ref 640,.int 306 0,.int 4 0,.ref 647,.int 310 0,.int 4 0,.ref 654,.int 313 0,.int 4 0,.ref 661,.int 316 0,.int 4 0,.ref 668]) #[]
noncomputable def o614:O:=q2 "Wells" 1011 1012 1013 290 612 181 613 1014 1015
noncomputable def o615:O:=q3 614 611 "treewells.questions" 644
noncomputable def o618:O:=q4 "self" 1024
noncomputable def o620:O:=q21 "word" "Wells.word" 62 0
noncomputable def o621:O:=q6 "word" 1021 "Wells.word" 1022 1023 292 1 616 617 618 619 620 1025 1026
noncomputable def o622:O:=q22 "word" "Wells.word" 62 0 "treewells.questions" 644 621
noncomputable def o625:O:=q21 "fits" "Wells.fits" 62 1
noncomputable def o626:O:=q16 "fits" 1028 "Wells.fits" 1029 1030 295 4 623 624 625 1031 1032
noncomputable def o627:O:=q22 "fits" "Wells.fits" 62 1 "treewells.questions" 644 626
noncomputable def o630:O:=q19 "self" 1037 "many" 1038 "roads" 1039 "asked" 1040
noncomputable def o632:O:=q21 "answer" "Wells.answer" 62 2
noncomputable def o633:O:=q6 "answer" 1034 "Wells.answer" 1035 1036 300 4 628 629 630 631 632 1041 1042
noncomputable def o634:O:=q22 "answer" "Wells.answer" 62 2 "treewells.questions" 644 633
noncomputable def o637:O:=q19 "self" 1047 "many" 1048 "roads" 1049 "asked" 1050
noncomputable def o639:O:=q21 "paper" "Wells.paper" 62 3
noncomputable def o640:O:=q6 "paper" 1044 "Wells.paper" 1045 1046 303 4 635 636 637 638 639 1051 1052
noncomputable def o641:O:=q22 "paper" "Wells.paper" 62 3 "treewells.questions" 644 640
noncomputable def o644:O:=q18 "self" 1057 "many" 1058 "roads" 1059 "asked" 1060 "dug" 1061
noncomputable def o646:O:=q21 "worth" "Wells.worth" 62 4
noncomputable def o647:O:=q6 "worth" 1054 "Wells.worth" 1055 1056 306 4 642 643 644 645 646 1062 1063
noncomputable def o648:O:=q22 "worth" "Wells.worth" 62 4 "treewells.questions" 644 647
noncomputable def o651:O:=q18 "self" 1068 "many" 1069 "roads" 1070 "asked" 1071 "rows" 1072
noncomputable def o653:O:=q21 "answer_size" "Wells.answer_size" 62 5
noncomputable def o654:O:=q6 "answer_size" 1065 "Wells.answer_size" 1066 1067 310 5 649 650 651 652 653 1073 1074
noncomputable def o655:O:=q22 "answer_size" "Wells.answer_size" 62 5 "treewells.questions" 644 654
noncomputable def o658:O:=q18 "self" 1079 "many" 1080 "roads" 1081 "asked" 1082 "rows" 1083
noncomputable def o660:O:=q21 "paper_size" "Wells.paper_size" 62 6
noncomputable def o661:O:=q6 "paper_size" 1076 "Wells.paper_size" 1077 1078 313 5 656 657 658 659 660 1084 1085
noncomputable def o662:O:=q22 "paper_size" "Wells.paper_size" 62 6 "treewells.questions" 644 661
noncomputable def o665:O:=q18 "self" 1090 "many" 1091 "roads" 1092 "asked" 1093 "rows" 1094
noncomputable def o667:O:=q21 "shows_none" "Wells.shows_none" 62 7
noncomputable def o668:O:=q6 "shows_none" 1087 "Wells.shows_none" 1088 1089 316 5 663 664 665 666 667 1095 1096
noncomputable def o669:O:=q22 "shows_none" "Wells.shows_none" 62 7 "treewells.questions" 644 668
noncomputable def o671:O:=fun P=>.mk (.type "dict") none (.dict #[kE P "__module__" 1016 (.str "treewells.questions" 644),kE P "__firstlineno__" 1020 (.int 290 1019),kE P "word" 1027 (.ref 622),kE P "fits" 1033 (.ref 627),kE P "answer" 1043 (.ref 634),kE P "paper" 1053 (.ref 641),kE P "worth" 1064 (.ref 648),kE P "answer_size" 1075 (.ref 655),kE P "paper_size" 1086 (.ref 662),kE P "shows_none" 1097 (.ref 669),kE P "__static_attributes__" 1098 (.ref 670),kE P "__doc__" 1099 .none] 2) #[]
noncomputable def o672:O:=q28 "Wells" 606 672 671 609 1009 1017
noncomputable def o673:O:=q10 672
noncomputable def o674:O:=q11 672
noncomputable def o675:O:=q12 606
noncomputable def o677:O:=q24 1109 "treewells.questions" 644 1111 "Reach" 1110 1113 318 1112 1120 688 1130 695 1140 702 1150 709 1160 716 "takes" 1172 723 "shows" 1184 730 1185 731
noncomputable def o679:O:=q25 320 687 323 694 328 701 331 708 334 715 337 722 340 729
noncomputable def o680:O:=q2 "Reach" 1104 1105 1106 318 678 181 679 1107 1108
noncomputable def o681:O:=q3 680 677 "treewells.questions" 644
noncomputable def o684:O:=q4 "self" 1117
noncomputable def o686:O:=q21 "word" "Reach.word" 63 0
noncomputable def o687:O:=q6 "word" 1114 "Reach.word" 1115 1116 320 1 682 683 684 685 686 1118 1119
noncomputable def o688:O:=q22 "word" "Reach.word" 63 0 "treewells.questions" 644 687
noncomputable def o691:O:=q19 "self" 1124 "many" 1125 "roads" 1126 "asked" 1127
noncomputable def o693:O:=q21 "fits" "Reach.fits" 63 1
noncomputable def o694:O:=q6 "fits" 1121 "Reach.fits" 1122 1123 323 4 689 690 691 692 693 1128 1129
noncomputable def o695:O:=q22 "fits" "Reach.fits" 63 1 "treewells.questions" 644 694
noncomputable def o698:O:=q19 "self" 1134 "many" 1135 "roads" 1136 "asked" 1137
noncomputable def o700:O:=q21 "answer" "Reach.answer" 63 2
noncomputable def o701:O:=q6 "answer" 1131 "Reach.answer" 1132 1133 328 4 696 697 698 699 700 1138 1139
noncomputable def o702:O:=q22 "answer" "Reach.answer" 63 2 "treewells.questions" 644 701
noncomputable def o705:O:=q19 "self" 1144 "many" 1145 "roads" 1146 "asked" 1147
noncomputable def o707:O:=q21 "paper" "Reach.paper" 63 3
noncomputable def o708:O:=q6 "paper" 1141 "Reach.paper" 1142 1143 331 4 703 704 705 706 707 1148 1149
noncomputable def o709:O:=q22 "paper" "Reach.paper" 63 3 "treewells.questions" 644 708
noncomputable def o712:O:=q19 "self" 1154 "many" 1155 "roads" 1156 "asked" 1157
noncomputable def o714:O:=q21 "worth" "Reach.worth" 63 4
noncomputable def o715:O:=q6 "worth" 1151 "Reach.worth" 1152 1153 334 4 710 711 712 713 714 1158 1159
noncomputable def o716:O:=q22 "worth" "Reach.worth" 63 4 "treewells.questions" 644 715
noncomputable def o719:O:=q23 1164 1165 1166 "asked" 1167 "rows" 1168 "worth" 1169
noncomputable def o721:O:=q21 "takes" "Reach.takes" 63 5
noncomputable def o722:O:=q6 "takes" 1161 "Reach.takes" 1162 1163 337 6 717 718 719 720 721 1170 1171
noncomputable def o723:O:=q22 "takes" "Reach.takes" 63 5 "treewells.questions" 644 722
noncomputable def o726:O:=q23 1176 1177 1178 "asked" 1179 "rows" 1180 "worth" 1181
noncomputable def o728:O:=q21 "shows" "Reach.shows" 63 6
noncomputable def o729:O:=q6 "shows" 1173 "Reach.shows" 1174 1175 340 6 724 725 726 727 728 1182 1183
noncomputable def o730:O:=q22 "shows" "Reach.shows" 63 6 "treewells.questions" 644 729
noncomputable def o732:O:=q26 1109 "treewells.questions" 644 1113 318 1112 1120 688 1130 695 1140 702 1150 709 1160 716 "takes" 1172 723 "shows" 1184 730 1185 731 1186
noncomputable def o733:O:=q28 "Reach" 606 733 732 675 1102 1110
noncomputable def o734:O:=q10 733
noncomputable def o735:O:=q11 733
noncomputable def o736:O:=q12 435
noncomputable def o738:O:=q24 1196 "treewells.questions" 644 1198 "Goods" 1197 1200 342 1199 1207 749 1217 756 1227 763 1237 770 1247 777 "answer_size" 1258 784 "paper_size" 1269 791 1270 792
noncomputable def o740:O:=q25 344 748 347 755 350 762 353 769 356 776 359 783 362 790
noncomputable def o741:O:=q2 "Goods" 1191 1192 1193 342 739 181 740 1194 1195
noncomputable def o742:O:=q3 741 738 "treewells.questions" 644
noncomputable def o745:O:=q4 "self" 1204
noncomputable def o747:O:=q21 "word" "Goods.word" 64 0
noncomputable def o748:O:=q6 "word" 1201 "Goods.word" 1202 1203 344 1 743 744 745 746 747 1205 1206
noncomputable def o749:O:=q22 "word" "Goods.word" 64 0 "treewells.questions" 644 748
noncomputable def o752:O:=q19 "self" 1211 "many" 1212 "roads" 1213 "asked" 1214
noncomputable def o754:O:=q21 "fits" "Goods.fits" 64 1
noncomputable def o755:O:=q6 "fits" 1208 "Goods.fits" 1209 1210 347 4 750 751 752 753 754 1215 1216
noncomputable def o756:O:=q22 "fits" "Goods.fits" 64 1 "treewells.questions" 644 755
noncomputable def o759:O:=q19 "self" 1221 "many" 1222 "roads" 1223 "asked" 1224
noncomputable def o761:O:=q21 "answer" "Goods.answer" 64 2
noncomputable def o762:O:=q6 "answer" 1218 "Goods.answer" 1219 1220 350 4 757 758 759 760 761 1225 1226
noncomputable def o763:O:=q22 "answer" "Goods.answer" 64 2 "treewells.questions" 644 762
noncomputable def o766:O:=q19 "self" 1231 "many" 1232 "roads" 1233 "asked" 1234
noncomputable def o768:O:=q21 "paper" "Goods.paper" 64 3
noncomputable def o769:O:=q6 "paper" 1228 "Goods.paper" 1229 1230 353 4 764 765 766 767 768 1235 1236
noncomputable def o770:O:=q22 "paper" "Goods.paper" 64 3 "treewells.questions" 644 769
noncomputable def o773:O:=q19 "self" 1241 "many" 1242 "roads" 1243 "asked" 1244
noncomputable def o775:O:=q21 "worth" "Goods.worth" 64 4
noncomputable def o776:O:=q6 "worth" 1238 "Goods.worth" 1239 1240 356 4 771 772 773 774 775 1245 1246
noncomputable def o777:O:=q22 "worth" "Goods.worth" 64 4 "treewells.questions" 644 776
noncomputable def o780:O:=q18 "self" 1251 "many" 1252 "roads" 1253 "asked" 1254 "rows" 1255
noncomputable def o782:O:=q21 "answer_size" "Goods.answer_size" 64 5
noncomputable def o783:O:=q6 "answer_size" 1248 "Goods.answer_size" 1249 1250 359 5 778 779 780 781 782 1256 1257
noncomputable def o784:O:=q22 "answer_size" "Goods.answer_size" 64 5 "treewells.questions" 644 783
noncomputable def o787:O:=q18 "self" 1262 "many" 1263 "roads" 1264 "asked" 1265 "rows" 1266
noncomputable def o789:O:=q21 "paper_size" "Goods.paper_size" 64 6
noncomputable def o790:O:=q6 "paper_size" 1259 "Goods.paper_size" 1260 1261 362 5 785 786 787 788 789 1267 1268
noncomputable def o791:O:=q22 "paper_size" "Goods.paper_size" 64 6 "treewells.questions" 644 790
noncomputable def o793:O:=q26 1196 "treewells.questions" 644 1200 342 1199 1207 749 1217 756 1227 763 1237 770 1247 777 "answer_size" 1258 784 "paper_size" 1269 791 1270 792 1271
noncomputable def o794:O:=q27 "Goods" 794 793 736 1189 1197
noncomputable def o795:O:=q10 794
noncomputable def o796:O:=q11 794
noncomputable def o799:O:=q18 "left" 1279 "start" 1280 "places" 1281 "here" 1282 "there" 1283
noncomputable def o801:O:=q5 "walk_off" 66
noncomputable def o802:O:=q6 "walk_off" 1276 "walk_off" 1277 1278 365 2 797 798 799 800 801 1284 1285
noncomputable def o803:O:=q7 "walk_off" 66 "treewells.rounds" 1274 802
noncomputable def o806:O:=q18 "many" 1290 "roads" 1291 "left" 1292 "found" 1293 "place" 1294
noncomputable def o808:O:=q5 "walks" 67
noncomputable def o809:O:=q6 "walks" 1287 "walks" 1288 1289 374 2 804 805 806 807 808 1295 1296
noncomputable def o810:O:=q7 "walks" 67 "treewells.rounds" 1274 809
noncomputable def o813:O:=q5 "sweeps" 68
noncomputable def o814:O:=q16 "sweeps" 1298 "sweeps" 1299 1300 382 2 811 812 813 1301 1302
noncomputable def o815:O:=q7 "sweeps" 68 "treewells.rounds" 1274 814
noncomputable def o818:O:=q5 "line_from" 69
noncomputable def o819:O:=q16 "line_from" 1304 "line_from" 1305 1306 388 3 816 817 818 1307 1308
noncomputable def o820:O:=q7 "line_from" 69 "treewells.rounds" 1274 819
noncomputable def o823:O:=q18 "many" 1313 "roads" 1314 "some" 1315 "near" 1316 "places" 1317
noncomputable def o825:O:=q5 "round_by" 70
noncomputable def o826:O:=q6 "round_by" 1310 "round_by" 1311 1312 399 3 821 822 823 824 825 1318 1319
noncomputable def o827:O:=q7 "round_by" 70 "treewells.rounds" 1274 826
noncomputable def o830:O:=q17 "many" 1324 "roads" 1325 "places" 1326 "near" 1327 "total" 1328 "here" 1329 "there" 1330
noncomputable def o832:O:=q5 "length_of" 71
noncomputable def o833:O:=q6 "length_of" 1321 "length_of" 1322 1323 407 3 828 829 830 831 832 1331 1332
noncomputable def o834:O:=q7 "length_of" 71 "treewells.rounds" 1274 833
noncomputable def o837:O:=q5 "check_yards" 73
noncomputable def o838:O:=q16 "check_yards" 1336 "check_yards" 1337 1338 418 3 835 836 837 1339 1340
noncomputable def o839:O:=q7 "check_yards" 73 "treewells.yards" 1334 838
noncomputable def o842:O:=q5 "gates_of" 74
noncomputable def o843:O:=q16 "gates_of" 1342 "gates_of" 1343 1344 422 2 840 841 842 1345 1346
noncomputable def o844:O:=q7 "gates_of" 74 "treewells.yards" 1334 843
noncomputable def o847:O:=q15 "near" 1351 "gates" 1352
noncomputable def o848:O:=q15 "gates" 1353 "depths" 1354
noncomputable def o849:O:=q5 "outer_first" 75
noncomputable def o850:O:=q6 "outer_first" 1348 "outer_first" 1349 1350 425 2 845 846 847 848 849 1355 1356
noncomputable def o851:O:=q7 "outer_first" 75 "treewells.yards" 1334 850
noncomputable def o854:O:=q5 "meet" 76
noncomputable def o855:O:=q16 "meet" 1358 "meet" 1359 1360 428 3 852 853 854 1361 1362
noncomputable def o856:O:=q7 "meet" 76 "treewells.yards" 1334 855
noncomputable def o859:O:=q20 "many" 1367 "roads" 1368 "yards" 1369
noncomputable def o861:O:=q5 "spots" 77
noncomputable def o862:O:=q6 "spots" 1364 "spots" 1365 1366 439 3 857 858 859 860 861 1370 1371
noncomputable def o863:O:=q7 "spots" 77 "treewells.yards" 1334 862
noncomputable def o866:O:=q15 "used" 1376 "number" 1377
noncomputable def o868:O:=q5 "least_unused" 78
noncomputable def o869:O:=q6 "least_unused" 1373 "least_unused" 1374 1375 441 1 864 865 866 867 868 1378 1379
noncomputable def o870:O:=q7 "least_unused" 78 "treewells.yards" 1334 869
noncomputable def o873:O:=q5 "colours" 79
noncomputable def o874:O:=q16 "colours" 1381 "colours" 1382 1383 446 3 871 872 873 1384 1385
noncomputable def o875:O:=q7 "colours" 79 "treewells.yards" 1334 874
noncomputable def o878:O:=q5 "are_worths" 81
noncomputable def o879:O:=q16 "are_worths" 1389 "are_worths" 1390 1391 456 2 876 877 878 1392 1393
noncomputable def o880:O:=q7 "are_worths" 81 "treewells.worths" 1387 879
noncomputable def o883:O:=q15 "yards" 1398 "worths" 1399
noncomputable def o885:O:=q5 "check_worths" 82
noncomputable def o886:O:=q6 "check_worths" 1395 "check_worths" 1396 1397 458 2 881 882 883 884 885 1400 1401
noncomputable def o887:O:=q7 "check_worths" 82 "treewells.worths" 1387 886
noncomputable def o890:O:=q5 "raise_prices" 83
noncomputable def o891:O:=q16 "raise_prices" 1403 "raise_prices" 1404 1405 461 4 888 889 890 1406 1407
noncomputable def o892:O:=q7 "raise_prices" 83 "treewells.worths" 1387 891
noncomputable def o895:O:=q19 "many" 1412 "roads" 1413 "yards" 1414 "worths" 1415
noncomputable def o897:O:=q5 "prices" 84
noncomputable def o898:O:=q6 "prices" 1409 "prices" 1410 1411 474 4 893 894 895 896 897 1416 1417
noncomputable def o899:O:=q7 "prices" 84 "treewells.worths" 1387 898
noncomputable def o900:O:=q12 435
noncomputable def o902:O:=fun P=>.mk (.type "dict") none (.dict #[kE P "__module__" 1428 (.str "treewells.gatherings" 1419),kE P "__qualname__" 1430 (.str "Yards" 1429),kE P "__firstlineno__" 1432 (.int 477 1431),kE P "are_yards" 1438 (.ref 911),kE P "are_apart" 1447 (.ref 918),kE P "__static_attributes__" 1448 (.ref 919)] 6) #[]
noncomputable def o904:O:=fun P=>.mk .none none (.fields #[.int 479 0,.int 4 0,.ref 910,.int 482 0,.int 4 0,.ref 917]) #[]
noncomputable def o905:O:=q2 "Yards" 1423 1424 1425 477 903 181 904 1426 1427
noncomputable def o906:O:=q3 905 902 "treewells.gatherings" 1419
noncomputable def o909:O:=q21 "are_yards" "Yards.are_yards" 86 0
noncomputable def o910:O:=q16 "are_yards" 1433 "Yards.are_yards" 1434 1435 479 4 907 908 909 1436 1437
noncomputable def o911:O:=q22 "are_yards" "Yards.are_yards" 86 0 "treewells.gatherings" 1419 910
noncomputable def o914:O:=q20 "self" 1442 "yards" 1443 "rows" 1444
noncomputable def o916:O:=q21 "are_apart" "Yards.are_apart" 86 1
noncomputable def o917:O:=q6 "are_apart" 1439 "Yards.are_apart" 1440 1441 482 3 912 913 914 915 916 1445 1446
noncomputable def o918:O:=q22 "are_apart" "Yards.are_apart" 86 1 "treewells.gatherings" 1419 917
noncomputable def o920:O:=fun P=>.mk (.type "dict") none (.dict #[kE P "__module__" 1428 (.str "treewells.gatherings" 1419),kE P "__firstlineno__" 1432 (.int 477 1431),kE P "are_yards" 1438 (.ref 911),kE P "are_apart" 1447 (.ref 918),kE P "__static_attributes__" 1448 (.ref 919),kE P "__doc__" 1449 .none] 2) #[]
noncomputable def o921:O:=fun P=>.mk (.type "type") none (Data.cls (ClassData.mk "Yards" [.ref 435] [.ref 921,.ref 435,.type "object"] 920 "Yards" true [] [.ref 982,.ref 1050,.ref 1125] false none false)) #[some (.ref 900),none,some (.str "Yards" 1421),some (.str "Yards" 1429),some (.builtin "object.__new__"),some (.bool true)]
noncomputable def o922:O:=q10 921
noncomputable def o923:O:=q11 921
noncomputable def o924:O:=q12 921
noncomputable def o926:O:=q24 1459 "treewells.gatherings" 1419 1461 "Spots" 1460 1463 484 1462 1470 937 1480 944 1490 951 1500 958 1510 965 "answer_size" 1521 972 "paper_size" 1532 979 1533 980
noncomputable def o928:O:=q25 486 936 489 943 492 950 495 957 498 964 501 971 504 978
noncomputable def o929:O:=q2 "Spots" 1454 1455 1456 484 927 181 928 1457 1458
noncomputable def o930:O:=q3 929 926 "treewells.gatherings" 1419
noncomputable def o933:O:=q4 "self" 1467
noncomputable def o935:O:=q21 "word" "Spots.word" 87 0
noncomputable def o936:O:=q6 "word" 1464 "Spots.word" 1465 1466 486 1 931 932 933 934 935 1468 1469
noncomputable def o937:O:=q22 "word" "Spots.word" 87 0 "treewells.gatherings" 1419 936
noncomputable def o940:O:=q19 "self" 1474 "many" 1475 "roads" 1476 "asked" 1477
noncomputable def o942:O:=q21 "fits" "Spots.fits" 87 1
noncomputable def o943:O:=q6 "fits" 1471 "Spots.fits" 1472 1473 489 4 938 939 940 941 942 1478 1479
noncomputable def o944:O:=q22 "fits" "Spots.fits" 87 1 "treewells.gatherings" 1419 943
noncomputable def o947:O:=q19 "self" 1484 "many" 1485 "roads" 1486 "asked" 1487
noncomputable def o949:O:=q21 "answer" "Spots.answer" 87 2
noncomputable def o950:O:=q6 "answer" 1481 "Spots.answer" 1482 1483 492 4 945 946 947 948 949 1488 1489
noncomputable def o951:O:=q22 "answer" "Spots.answer" 87 2 "treewells.gatherings" 1419 950
noncomputable def o954:O:=q19 "self" 1494 "many" 1495 "roads" 1496 "asked" 1497
noncomputable def o956:O:=q21 "paper" "Spots.paper" 87 3
noncomputable def o957:O:=q6 "paper" 1491 "Spots.paper" 1492 1493 495 4 952 953 954 955 956 1498 1499
noncomputable def o958:O:=q22 "paper" "Spots.paper" 87 3 "treewells.gatherings" 1419 957
noncomputable def o961:O:=q19 "self" 1504 "many" 1505 "roads" 1506 "asked" 1507
noncomputable def o963:O:=q21 "worth" "Spots.worth" 87 4
noncomputable def o964:O:=q6 "worth" 1501 "Spots.worth" 1502 1503 498 4 959 960 961 962 963 1508 1509
noncomputable def o965:O:=q22 "worth" "Spots.worth" 87 4 "treewells.gatherings" 1419 964
noncomputable def o968:O:=q18 "self" 1514 "many" 1515 "roads" 1516 "asked" 1517 "rows" 1518
noncomputable def o970:O:=q21 "answer_size" "Spots.answer_size" 87 5
noncomputable def o971:O:=q6 "answer_size" 1511 "Spots.answer_size" 1512 1513 501 5 966 967 968 969 970 1519 1520
noncomputable def o972:O:=q22 "answer_size" "Spots.answer_size" 87 5 "treewells.gatherings" 1419 971
noncomputable def o975:O:=q18 "self" 1525 "many" 1526 "roads" 1527 "asked" 1528 "rows" 1529
noncomputable def o977:O:=q21 "paper_size" "Spots.paper_size" 87 6
noncomputable def o978:O:=q6 "paper_size" 1522 "Spots.paper_size" 1523 1524 504 5 973 974 975 976 977 1530 1531
noncomputable def o979:O:=q22 "paper_size" "Spots.paper_size" 87 6 "treewells.gatherings" 1419 978
noncomputable def o981:O:=q26 1459 "treewells.gatherings" 1419 1463 484 1462 1470 937 1480 944 1490 951 1500 958 1510 965 "answer_size" 1521 972 "paper_size" 1532 979 1533 980 1534
noncomputable def o982:O:=q28 "Spots" 921 982 981 924 1452 1460
noncomputable def o983:O:=q10 982
noncomputable def o984:O:=q11 982
noncomputable def o987:O:=q4 "numbers" 1540
noncomputable def o989:O:=q5 "count_colours" 88
noncomputable def o990:O:=q6 "count_colours" 1537 "count_colours" 1538 1539 506 1 985 986 987 988 989 1541 1542
noncomputable def o991:O:=q7 "count_colours" 88 "treewells.gatherings" 1419 990
noncomputable def o992:O:=q12 921
noncomputable def o994:O:=q24 1551 "treewells.gatherings" 1419 1553 "Colours" 1552 1555 508 1554 1562 1005 1572 1012 1582 1019 1592 1026 1602 1033 "answer_size" 1613 1040 "paper_size" 1624 1047 1625 1048
noncomputable def o996:O:=q25 510 1004 513 1011 516 1018 519 1025 522 1032 525 1039 528 1046
noncomputable def o997:O:=q2 "Colours" 1546 1547 1548 508 995 181 996 1549 1550
noncomputable def o998:O:=q3 997 994 "treewells.gatherings" 1419
noncomputable def o1001:O:=q4 "self" 1559
noncomputable def o1003:O:=q21 "word" "Colours.word" 89 0
noncomputable def o1004:O:=q6 "word" 1556 "Colours.word" 1557 1558 510 1 999 1000 1001 1002 1003 1560 1561
noncomputable def o1005:O:=q22 "word" "Colours.word" 89 0 "treewells.gatherings" 1419 1004
noncomputable def o1008:O:=q19 "self" 1566 "many" 1567 "roads" 1568 "asked" 1569
noncomputable def o1010:O:=q21 "fits" "Colours.fits" 89 1
noncomputable def o1011:O:=q6 "fits" 1563 "Colours.fits" 1564 1565 513 4 1006 1007 1008 1009 1010 1570 1571
noncomputable def o1012:O:=q22 "fits" "Colours.fits" 89 1 "treewells.gatherings" 1419 1011
noncomputable def o1015:O:=q19 "self" 1576 "many" 1577 "roads" 1578 "asked" 1579
noncomputable def o1017:O:=q21 "answer" "Colours.answer" 89 2
noncomputable def o1018:O:=q6 "answer" 1573 "Colours.answer" 1574 1575 516 4 1013 1014 1015 1016 1017 1580 1581
noncomputable def o1019:O:=q22 "answer" "Colours.answer" 89 2 "treewells.gatherings" 1419 1018
noncomputable def o1022:O:=q19 "self" 1586 "many" 1587 "roads" 1588 "asked" 1589
noncomputable def o1024:O:=q21 "paper" "Colours.paper" 89 3
noncomputable def o1025:O:=q6 "paper" 1583 "Colours.paper" 1584 1585 519 4 1020 1021 1022 1023 1024 1590 1591
noncomputable def o1026:O:=q22 "paper" "Colours.paper" 89 3 "treewells.gatherings" 1419 1025
noncomputable def o1029:O:=q19 "self" 1596 "many" 1597 "roads" 1598 "asked" 1599
noncomputable def o1031:O:=q21 "worth" "Colours.worth" 89 4
noncomputable def o1032:O:=q6 "worth" 1593 "Colours.worth" 1594 1595 522 4 1027 1028 1029 1030 1031 1600 1601
noncomputable def o1033:O:=q22 "worth" "Colours.worth" 89 4 "treewells.gatherings" 1419 1032
noncomputable def o1036:O:=q18 "self" 1606 "many" 1607 "roads" 1608 "asked" 1609 "rows" 1610
noncomputable def o1038:O:=q21 "answer_size" "Colours.answer_size" 89 5
noncomputable def o1039:O:=q6 "answer_size" 1603 "Colours.answer_size" 1604 1605 525 5 1034 1035 1036 1037 1038 1611 1612
noncomputable def o1040:O:=q22 "answer_size" "Colours.answer_size" 89 5 "treewells.gatherings" 1419 1039
noncomputable def o1043:O:=q18 "self" 1617 "many" 1618 "roads" 1619 "asked" 1620 "rows" 1621
noncomputable def o1045:O:=q21 "paper_size" "Colours.paper_size" 89 6
noncomputable def o1046:O:=q6 "paper_size" 1614 "Colours.paper_size" 1615 1616 528 5 1041 1042 1043 1044 1045 1622 1623
noncomputable def o1047:O:=q22 "paper_size" "Colours.paper_size" 89 6 "treewells.gatherings" 1419 1046
noncomputable def o1049:O:=q26 1551 "treewells.gatherings" 1419 1555 508 1554 1562 1005 1572 1012 1582 1019 1592 1026 1602 1033 "answer_size" 1613 1040 "paper_size" 1624 1047 1625 1048 1626
noncomputable def o1050:O:=q28 "Colours" 921 1050 1049 992 1544 1552
noncomputable def o1051:O:=q10 1050
noncomputable def o1052:O:=q11 1050
noncomputable def o1053:O:=q12 921
noncomputable def o1055:O:=fun P=>.mk (.type "dict") none (.dict #[kE P "__module__" 1636 (.str "treewells.gatherings" 1419),kE P "__qualname__" 1638 (.str "Worths" 1637),kE P "__firstlineno__" 1640 (.int 530 1639),kE P "word" 1647 (.ref 1066),kE P "fits" 1657 (.ref 1073),kE P "answer" 1667 (.ref 1080),kE P "paper" 1677 (.ref 1087),kE P "worth" 1687 (.ref 1094),kE P "answer_size" 1698 (.ref 1101),kE P "paper_size" 1709 (.ref 1108),kE P "takes" 1721 (.ref 1115),kE P "shows" 1733 (.ref 1122),kE P "__static_attributes__" 1734 (.ref 1123)] 13) #[]
noncomputable def o1057:O:=fun P=>.mk .none none (.fields #[.int 532 0,.int 4 0,.ref 1065,.int 535 0,.int 4 0,.ref 1072,.int 538 0,.int 4 0,.ref 1079,.int 541 0,.int 4 0,.ref 1086,.int 544 0,.int 4 0,.ref 1093,.int 547 0,.int 4 0,.ref 1100,.int 550 0,.int 4 0,.ref 1107,.int 553 0,.int 4 0,.ref 1114,.int 556 0,.int 4 0,.ref 1121]) #[]
noncomputable def o1058:O:=q2 "Worths" 1631 1632 1633 530 1056 181 1057 1634 1635
noncomputable def o1059:O:=q3 1058 1055 "treewells.gatherings" 1419
noncomputable def o1062:O:=q4 "self" 1644
noncomputable def o1064:O:=q21 "word" "Worths.word" 90 0
noncomputable def o1065:O:=q6 "word" 1641 "Worths.word" 1642 1643 532 1 1060 1061 1062 1063 1064 1645 1646
noncomputable def o1066:O:=q22 "word" "Worths.word" 90 0 "treewells.gatherings" 1419 1065
noncomputable def o1069:O:=q19 "self" 1651 "many" 1652 "roads" 1653 "asked" 1654
noncomputable def o1071:O:=q21 "fits" "Worths.fits" 90 1
noncomputable def o1072:O:=q6 "fits" 1648 "Worths.fits" 1649 1650 535 4 1067 1068 1069 1070 1071 1655 1656
noncomputable def o1073:O:=q22 "fits" "Worths.fits" 90 1 "treewells.gatherings" 1419 1072
noncomputable def o1076:O:=q19 "self" 1661 "many" 1662 "roads" 1663 "asked" 1664
noncomputable def o1078:O:=q21 "answer" "Worths.answer" 90 2
noncomputable def o1079:O:=q6 "answer" 1658 "Worths.answer" 1659 1660 538 4 1074 1075 1076 1077 1078 1665 1666
noncomputable def o1080:O:=q22 "answer" "Worths.answer" 90 2 "treewells.gatherings" 1419 1079
noncomputable def o1083:O:=q19 "self" 1671 "many" 1672 "roads" 1673 "asked" 1674
noncomputable def o1085:O:=q21 "paper" "Worths.paper" 90 3
noncomputable def o1086:O:=q6 "paper" 1668 "Worths.paper" 1669 1670 541 4 1081 1082 1083 1084 1085 1675 1676
noncomputable def o1087:O:=q22 "paper" "Worths.paper" 90 3 "treewells.gatherings" 1419 1086
noncomputable def o1090:O:=q19 "self" 1681 "many" 1682 "roads" 1683 "asked" 1684
noncomputable def o1092:O:=q21 "worth" "Worths.worth" 90 4
noncomputable def o1093:O:=q6 "worth" 1678 "Worths.worth" 1679 1680 544 4 1088 1089 1090 1091 1092 1685 1686
noncomputable def o1094:O:=q22 "worth" "Worths.worth" 90 4 "treewells.gatherings" 1419 1093
noncomputable def o1097:O:=q18 "self" 1691 "many" 1692 "roads" 1693 "asked" 1694 "rows" 1695
noncomputable def o1099:O:=q21 "answer_size" "Worths.answer_size" 90 5
noncomputable def o1100:O:=q6 "answer_size" 1688 "Worths.answer_size" 1689 1690 547 5 1095 1096 1097 1098 1099 1696 1697
noncomputable def o1101:O:=q22 "answer_size" "Worths.answer_size" 90 5 "treewells.gatherings" 1419 1100
noncomputable def o1104:O:=q18 "self" 1702 "many" 1703 "roads" 1704 "asked" 1705 "rows" 1706
noncomputable def o1106:O:=q21 "paper_size" "Worths.paper_size" 90 6
noncomputable def o1107:O:=q6 "paper_size" 1699 "Worths.paper_size" 1700 1701 550 5 1102 1103 1104 1105 1106 1707 1708
noncomputable def o1108:O:=q22 "paper_size" "Worths.paper_size" 90 6 "treewells.gatherings" 1419 1107
noncomputable def o1111:O:=q23 1713 1714 1715 "asked" 1716 "rows" 1717 "worth" 1718
noncomputable def o1113:O:=q21 "takes" "Worths.takes" 90 7
noncomputable def o1114:O:=q6 "takes" 1710 "Worths.takes" 1711 1712 553 6 1109 1110 1111 1112 1113 1719 1720
noncomputable def o1115:O:=q22 "takes" "Worths.takes" 90 7 "treewells.gatherings" 1419 1114
noncomputable def o1118:O:=q23 1725 1726 1727 "asked" 1728 "rows" 1729 "worth" 1730
noncomputable def o1120:O:=q21 "shows" "Worths.shows" 90 8
noncomputable def o1121:O:=q6 "shows" 1722 "Worths.shows" 1723 1724 556 6 1116 1117 1118 1119 1120 1731 1732
noncomputable def o1122:O:=q22 "shows" "Worths.shows" 90 8 "treewells.gatherings" 1419 1121
noncomputable def o1124:O:=fun P=>.mk (.type "dict") none (.dict #[kE P "__module__" 1636 (.str "treewells.gatherings" 1419),kE P "__firstlineno__" 1640 (.int 530 1639),kE P "word" 1647 (.ref 1066),kE P "fits" 1657 (.ref 1073),kE P "answer" 1667 (.ref 1080),kE P "paper" 1677 (.ref 1087),kE P "worth" 1687 (.ref 1094),kE P "answer_size" 1698 (.ref 1101),kE P "paper_size" 1709 (.ref 1108),kE P "takes" 1721 (.ref 1115),kE P "shows" 1733 (.ref 1122),kE P "__static_attributes__" 1734 (.ref 1123),kE P "__doc__" 1735 .none] 2) #[]
noncomputable def o1125:O:=q28 "Worths" 921 1125 1124 1053 1629 1637
noncomputable def o1126:O:=q10 1125
noncomputable def o1127:O:=q11 1125
noncomputable def o1128:O:=q12 435
noncomputable def o1130:O:=fun P=>.mk (.type "dict") none (.dict #[kE P "__module__" 1745 (.str "treewells.gatherings" 1419),kE P "__qualname__" 1747 (.str "Sweeping" 1746),kE P "__firstlineno__" 1749 (.int 558 1748),kE P "times_swept" 1759 (.ref 1141),kE P "half_of" 1768 (.ref 1148),kE P "__static_attributes__" 1769 (.ref 1149)] 6) #[]
noncomputable def o1132:O:=fun P=>.mk .none none (.fields #[.int 560 0,.int 4 0,.ref 1140,.int 563 0,.int 4 0,.ref 1147]) #[]
noncomputable def o1133:O:=q2 "Sweeping" 1740 1741 1742 558 1131 181 1132 1743 1744
noncomputable def o1134:O:=q3 1133 1130 "treewells.gatherings" 1419
noncomputable def o1137:O:=q19 "self" 1753 "many" 1754 "roads" 1755 "rows" 1756
noncomputable def o1139:O:=q21 "times_swept" "Sweeping.times_swept" 91 0
noncomputable def o1140:O:=q6 "times_swept" 1750 "Sweeping.times_swept" 1751 1752 560 4 1135 1136 1137 1138 1139 1757 1758
noncomputable def o1141:O:=q22 "times_swept" "Sweeping.times_swept" 91 0 "treewells.gatherings" 1419 1140
noncomputable def o1144:O:=q20 "self" 1763 "stops" 1764 "rows" 1765
noncomputable def o1146:O:=q21 "half_of" "Sweeping.half_of" 91 1
noncomputable def o1147:O:=q6 "half_of" 1760 "Sweeping.half_of" 1761 1762 563 3 1142 1143 1144 1145 1146 1766 1767
noncomputable def o1148:O:=q22 "half_of" "Sweeping.half_of" 91 1 "treewells.gatherings" 1419 1147
noncomputable def o1150:O:=fun P=>.mk (.type "dict") none (.dict #[kE P "__module__" 1745 (.str "treewells.gatherings" 1419),kE P "__firstlineno__" 1749 (.int 558 1748),kE P "times_swept" 1759 (.ref 1141),kE P "half_of" 1768 (.ref 1148),kE P "__static_attributes__" 1769 (.ref 1149),kE P "__doc__" 1770 .none] 2) #[]
noncomputable def o1151:O:=fun P=>.mk (.type "type") none (Data.cls (ClassData.mk "Sweeping" [.ref 435] [.ref 1151,.ref 435,.type "object"] 1150 "Sweeping" true [] [.ref 1212,.ref 1273] false none false)) #[some (.ref 1128),none,some (.str "Sweeping" 1738),some (.str "Sweeping" 1746),some (.builtin "object.__new__"),some (.bool true)]
noncomputable def o1152:O:=q10 1151
noncomputable def o1153:O:=q11 1151
noncomputable def o1154:O:=q12 1151
noncomputable def o1156:O:=q24 1780 "treewells.gatherings" 1419 1782 "Walks" 1781 1784 565 1783 1791 1167 1801 1174 1811 1181 1821 1188 1831 1195 "answer_size" 1842 1202 "paper_size" 1853 1209 1854 1210
noncomputable def o1158:O:=q25 567 1166 570 1173 573 1180 576 1187 579 1194 582 1201 585 1208
noncomputable def o1159:O:=q2 "Walks" 1775 1776 1777 565 1157 181 1158 1778 1779
noncomputable def o1160:O:=q3 1159 1156 "treewells.gatherings" 1419
noncomputable def o1163:O:=q4 "self" 1788
noncomputable def o1165:O:=q21 "word" "Walks.word" 92 0
noncomputable def o1166:O:=q6 "word" 1785 "Walks.word" 1786 1787 567 1 1161 1162 1163 1164 1165 1789 1790
noncomputable def o1167:O:=q22 "word" "Walks.word" 92 0 "treewells.gatherings" 1419 1166
noncomputable def o1170:O:=q19 "self" 1795 "many" 1796 "roads" 1797 "asked" 1798
noncomputable def o1172:O:=q21 "fits" "Walks.fits" 92 1
noncomputable def o1173:O:=q6 "fits" 1792 "Walks.fits" 1793 1794 570 4 1168 1169 1170 1171 1172 1799 1800
noncomputable def o1174:O:=q22 "fits" "Walks.fits" 92 1 "treewells.gatherings" 1419 1173
noncomputable def o1177:O:=q19 "self" 1805 "many" 1806 "roads" 1807 "asked" 1808
noncomputable def o1179:O:=q21 "answer" "Walks.answer" 92 2
noncomputable def o1180:O:=q6 "answer" 1802 "Walks.answer" 1803 1804 573 4 1175 1176 1177 1178 1179 1809 1810
noncomputable def o1181:O:=q22 "answer" "Walks.answer" 92 2 "treewells.gatherings" 1419 1180
noncomputable def o1184:O:=q19 "self" 1815 "many" 1816 "roads" 1817 "asked" 1818
noncomputable def o1186:O:=q21 "paper" "Walks.paper" 92 3
noncomputable def o1187:O:=q6 "paper" 1812 "Walks.paper" 1813 1814 576 4 1182 1183 1184 1185 1186 1819 1820
noncomputable def o1188:O:=q22 "paper" "Walks.paper" 92 3 "treewells.gatherings" 1419 1187
noncomputable def o1191:O:=q19 "self" 1825 "many" 1826 "roads" 1827 "asked" 1828
noncomputable def o1193:O:=q21 "worth" "Walks.worth" 92 4
noncomputable def o1194:O:=q6 "worth" 1822 "Walks.worth" 1823 1824 579 4 1189 1190 1191 1192 1193 1829 1830
noncomputable def o1195:O:=q22 "worth" "Walks.worth" 92 4 "treewells.gatherings" 1419 1194
noncomputable def o1198:O:=q18 "self" 1835 "many" 1836 "roads" 1837 "asked" 1838 "rows" 1839
noncomputable def o1200:O:=q21 "answer_size" "Walks.answer_size" 92 5
noncomputable def o1201:O:=q6 "answer_size" 1832 "Walks.answer_size" 1833 1834 582 5 1196 1197 1198 1199 1200 1840 1841
noncomputable def o1202:O:=q22 "answer_size" "Walks.answer_size" 92 5 "treewells.gatherings" 1419 1201
noncomputable def o1205:O:=q18 "self" 1846 "many" 1847 "roads" 1848 "asked" 1849 "rows" 1850
noncomputable def o1207:O:=q21 "paper_size" "Walks.paper_size" 92 6
noncomputable def o1208:O:=q6 "paper_size" 1843 "Walks.paper_size" 1844 1845 585 5 1203 1204 1205 1206 1207 1851 1852
noncomputable def o1209:O:=q22 "paper_size" "Walks.paper_size" 92 6 "treewells.gatherings" 1419 1208
noncomputable def o1211:O:=q26 1780 "treewells.gatherings" 1419 1784 565 1783 1791 1167 1801 1174 1811 1181 1821 1188 1831 1195 "answer_size" 1842 1202 "paper_size" 1853 1209 1854 1210 1855
noncomputable def o1212:O:=q28 "Walks" 1151 1212 1211 1154 1773 1781
noncomputable def o1213:O:=q10 1212
noncomputable def o1214:O:=q11 1212
noncomputable def o1215:O:=q12 1151
noncomputable def o1217:O:=q24 1865 "treewells.gatherings" 1419 1867 "Sweeps" 1866 1869 587 1868 1876 1228 1886 1235 1896 1242 1906 1249 1916 1256 "answer_size" 1927 1263 "paper_size" 1938 1270 1939 1271
noncomputable def o1219:O:=q25 589 1227 592 1234 595 1241 598 1248 601 1255 604 1262 607 1269
noncomputable def o1220:O:=q2 "Sweeps" 1860 1861 1862 587 1218 181 1219 1863 1864
noncomputable def o1221:O:=q3 1220 1217 "treewells.gatherings" 1419
noncomputable def o1224:O:=q4 "self" 1873
noncomputable def o1226:O:=q21 "word" "Sweeps.word" 93 0
noncomputable def o1227:O:=q6 "word" 1870 "Sweeps.word" 1871 1872 589 1 1222 1223 1224 1225 1226 1874 1875
noncomputable def o1228:O:=q22 "word" "Sweeps.word" 93 0 "treewells.gatherings" 1419 1227
noncomputable def o1231:O:=q19 "self" 1880 "many" 1881 "roads" 1882 "asked" 1883
noncomputable def o1233:O:=q21 "fits" "Sweeps.fits" 93 1
noncomputable def o1234:O:=q6 "fits" 1877 "Sweeps.fits" 1878 1879 592 4 1229 1230 1231 1232 1233 1884 1885
noncomputable def o1235:O:=q22 "fits" "Sweeps.fits" 93 1 "treewells.gatherings" 1419 1234
noncomputable def o1238:O:=q19 "self" 1890 "many" 1891 "roads" 1892 "asked" 1893
noncomputable def o1240:O:=q21 "answer" "Sweeps.answer" 93 2
noncomputable def o1241:O:=q6 "answer" 1887 "Sweeps.answer" 1888 1889 595 4 1236 1237 1238 1239 1240 1894 1895
noncomputable def o1242:O:=q22 "answer" "Sweeps.answer" 93 2 "treewells.gatherings" 1419 1241
noncomputable def o1245:O:=q19 "self" 1900 "many" 1901 "roads" 1902 "asked" 1903
noncomputable def o1247:O:=q21 "paper" "Sweeps.paper" 93 3
noncomputable def o1248:O:=q6 "paper" 1897 "Sweeps.paper" 1898 1899 598 4 1243 1244 1245 1246 1247 1904 1905
noncomputable def o1249:O:=q22 "paper" "Sweeps.paper" 93 3 "treewells.gatherings" 1419 1248
noncomputable def o1252:O:=q19 "self" 1910 "many" 1911 "roads" 1912 "asked" 1913
noncomputable def o1254:O:=q21 "worth" "Sweeps.worth" 93 4
noncomputable def o1255:O:=q6 "worth" 1907 "Sweeps.worth" 1908 1909 601 4 1250 1251 1252 1253 1254 1914 1915
noncomputable def o1256:O:=q22 "worth" "Sweeps.worth" 93 4 "treewells.gatherings" 1419 1255
noncomputable def o1259:O:=q18 "self" 1920 "many" 1921 "roads" 1922 "asked" 1923 "rows" 1924
noncomputable def o1261:O:=q21 "answer_size" "Sweeps.answer_size" 93 5
noncomputable def o1262:O:=q6 "answer_size" 1917 "Sweeps.answer_size" 1918 1919 604 5 1257 1258 1259 1260 1261 1925 1926
noncomputable def o1263:O:=q22 "answer_size" "Sweeps.answer_size" 93 5 "treewells.gatherings" 1419 1262
noncomputable def o1266:O:=q18 "self" 1931 "many" 1932 "roads" 1933 "asked" 1934 "rows" 1935
noncomputable def o1268:O:=q21 "paper_size" "Sweeps.paper_size" 93 6
noncomputable def o1269:O:=q6 "paper_size" 1928 "Sweeps.paper_size" 1929 1930 607 5 1264 1265 1266 1267 1268 1936 1937
noncomputable def o1270:O:=q22 "paper_size" "Sweeps.paper_size" 93 6 "treewells.gatherings" 1419 1269
noncomputable def o1272:O:=q26 1865 "treewells.gatherings" 1419 1869 587 1868 1876 1228 1886 1235 1896 1242 1906 1249 1916 1256 "answer_size" 1927 1263 "paper_size" 1938 1270 1939 1271 1940
noncomputable def o1273:O:=q28 "Sweeps" 1151 1273 1272 1215 1858 1866
noncomputable def o1274:O:=q10 1273
noncomputable def o1275:O:=q11 1273
noncomputable def o1276:O:=q12 435
noncomputable def o1278:O:=fun P=>.mk (.type "dict") none (.dict #[kE P "__module__" 1950 (.str "treewells.gatherings" 1419),kE P "__qualname__" 1952 (.str "Round" 1951),kE P "__firstlineno__" 1954 (.int 609 1953),kE P "word" 1961 (.ref 1289),kE P "fits" 1971 (.ref 1296),kE P "answer" 1981 (.ref 1303),kE P "paper" 1991 (.ref 1310),kE P "worth" 2001 (.ref 1317),kE P "is_closed" 2011 (.ref 1324),kE P "answer_size" 2022 (.ref 1331),kE P "paper_size" 2033 (.ref 1338),kE P "__static_attributes__" 2034 (.ref 1339)] 12) #[]
noncomputable def o1280:O:=fun P=>.mk .none none (.fields #[.int 611 0,.int 4 0,.ref 1288,.int 614 0,.int 4 0,.ref 1295,.int 617 0,.int 4 0,.ref 1302,.int 620 0,.int 4 0,.ref 1309,.int 623 0,.int 4 0,.ref 1316,.int 626 0,.int 4 0,.ref 1323,.int 629 0,.int 4 0,.ref 1330,.int 632 0,.int 4 0,.ref 1337]) #[]
noncomputable def o1281:O:=q2 "Round" 1945 1946 1947 609 1279 181 1280 1948 1949
noncomputable def o1282:O:=q3 1281 1278 "treewells.gatherings" 1419
noncomputable def o1285:O:=q4 "self" 1958
noncomputable def o1287:O:=q21 "word" "Round.word" 94 0
noncomputable def o1288:O:=q6 "word" 1955 "Round.word" 1956 1957 611 1 1283 1284 1285 1286 1287 1959 1960
noncomputable def o1289:O:=q22 "word" "Round.word" 94 0 "treewells.gatherings" 1419 1288
noncomputable def o1292:O:=q19 "self" 1965 "many" 1966 "roads" 1967 "asked" 1968
noncomputable def o1294:O:=q21 "fits" "Round.fits" 94 1
noncomputable def o1295:O:=q6 "fits" 1962 "Round.fits" 1963 1964 614 4 1290 1291 1292 1293 1294 1969 1970
noncomputable def o1296:O:=q22 "fits" "Round.fits" 94 1 "treewells.gatherings" 1419 1295
noncomputable def o1299:O:=q19 "self" 1975 "many" 1976 "roads" 1977 "asked" 1978
noncomputable def o1301:O:=q21 "answer" "Round.answer" 94 2
noncomputable def o1302:O:=q6 "answer" 1972 "Round.answer" 1973 1974 617 4 1297 1298 1299 1300 1301 1979 1980
noncomputable def o1303:O:=q22 "answer" "Round.answer" 94 2 "treewells.gatherings" 1419 1302
noncomputable def o1306:O:=q19 "self" 1985 "many" 1986 "roads" 1987 "asked" 1988
noncomputable def o1308:O:=q21 "paper" "Round.paper" 94 3
noncomputable def o1309:O:=q6 "paper" 1982 "Round.paper" 1983 1984 620 4 1304 1305 1306 1307 1308 1989 1990
noncomputable def o1310:O:=q22 "paper" "Round.paper" 94 3 "treewells.gatherings" 1419 1309
noncomputable def o1313:O:=q19 "self" 1995 "many" 1996 "roads" 1997 "asked" 1998
noncomputable def o1315:O:=q21 "worth" "Round.worth" 94 4
noncomputable def o1316:O:=q6 "worth" 1992 "Round.worth" 1993 1994 623 4 1311 1312 1313 1314 1315 1999 2000
noncomputable def o1317:O:=q22 "worth" "Round.worth" 94 4 "treewells.gatherings" 1419 1316
noncomputable def o1320:O:=q19 "self" 2005 "many" 2006 "roads" 2007 "places" 2008
noncomputable def o1322:O:=q21 "is_closed" "Round.is_closed" 94 5
noncomputable def o1323:O:=q6 "is_closed" 2002 "Round.is_closed" 2003 2004 626 4 1318 1319 1320 1321 1322 2009 2010
noncomputable def o1324:O:=q22 "is_closed" "Round.is_closed" 94 5 "treewells.gatherings" 1419 1323
noncomputable def o1327:O:=q18 "self" 2015 "many" 2016 "roads" 2017 "asked" 2018 "rows" 2019
noncomputable def o1329:O:=q21 "answer_size" "Round.answer_size" 94 6
noncomputable def o1330:O:=q6 "answer_size" 2012 "Round.answer_size" 2013 2014 629 5 1325 1326 1327 1328 1329 2020 2021
noncomputable def o1331:O:=q22 "answer_size" "Round.answer_size" 94 6 "treewells.gatherings" 1419 1330
noncomputable def o1334:O:=q18 "self" 2026 "many" 2027 "roads" 2028 "asked" 2029 "rows" 2030
noncomputable def o1336:O:=q21 "paper_size" "Round.paper_size" 94 7
noncomputable def o1337:O:=q6 "paper_size" 2023 "Round.paper_size" 2024 2025 632 5 1332 1333 1334 1335 1336 2031 2032
noncomputable def o1338:O:=q22 "paper_size" "Round.paper_size" 94 7 "treewells.gatherings" 1419 1337
noncomputable def o1340:O:=fun P=>.mk (.type "dict") none (.dict #[kE P "__module__" 1950 (.str "treewells.gatherings" 1419),kE P "__firstlineno__" 1954 (.int 609 1953),kE P "word" 1961 (.ref 1289),kE P "fits" 1971 (.ref 1296),kE P "answer" 1981 (.ref 1303),kE P "paper" 1991 (.ref 1310),kE P "worth" 2001 (.ref 1317),kE P "is_closed" 2011 (.ref 1324),kE P "answer_size" 2022 (.ref 1331),kE P "paper_size" 2033 (.ref 1338),kE P "__static_attributes__" 2034 (.ref 1339),kE P "__doc__" 2035 .none] 2) #[]
noncomputable def o1341:O:=q27 "Round" 1341 1340 1276 1943 1951
noncomputable def o1342:O:=q10 1341
noncomputable def o1343:O:=q11 1341
noncomputable def o1348:O:=q5 "kinds" 96
noncomputable def o1349:O:=q6 "kinds" 2040 "kinds" 2041 2042 635 0 1344 1345 1346 1347 1348 2043 2044
noncomputable def o1350:O:=q7 "kinds" 96 "treewells.kinds" 2038 1349
noncomputable def o1353:O:=q20 "_law_number" 2051 "_law_k" 2052 "_law_mixed" 2053
noncomputable def o1355:O:=q5 "_law_mix" 98
noncomputable def o1356:O:=q6 "_law_mix" 2048 "_law_mix" 2049 2050 638 2 1351 1352 1353 1354 1355 2054 2055
noncomputable def o1357:O:=q7 "_law_mix" 98 "law_treewells_k82_what_is_asked" 2046 1356
noncomputable def o1360:O:=q4 "_law_found" 2060
noncomputable def o1362:O:=q5 "_law_whole" 99
noncomputable def o1363:O:=q6 "_law_whole" 2057 "_law_whole" 2058 2059 641 1 1358 1359 1360 1361 1362 2061 2062
noncomputable def o1364:O:=q7 "_law_whole" 99 "law_treewells_k82_what_is_asked" 2046 1363
noncomputable def o1367:O:=q15 "_law_script" 2067 "_law_k" 2068
noncomputable def o1369:O:=q5 "_law_cell_at" 100
noncomputable def o1370:O:=q6 "_law_cell_at" 2064 "_law_cell_at" 2065 2066 643 2 1365 1366 1367 1368 1369 2069 2070
noncomputable def o1371:O:=q7 "_law_cell_at" 100 "law_treewells_k82_what_is_asked" 2046 1370
noncomputable def o1374:O:=q15 "_law_script" 2075 "_law_k" 2076
noncomputable def o1376:O:=q5 "_law_left" 101
noncomputable def o1377:O:=q6 "_law_left" 2072 "_law_left" 2073 2074 647 2 1372 1373 1374 1375 1376 2077 2078
noncomputable def o1378:O:=q7 "_law_left" 101 "law_treewells_k82_what_is_asked" 2046 1377
noncomputable def o1381:O:=q20 "_law_left_here" 2083 "_law_base" 2084 "_law_digit" 2085
noncomputable def o1383:O:=q5 "_law_draw" 102
noncomputable def o1384:O:=q6 "_law_draw" 2080 "_law_draw" 2081 2082 649 2 1379 1380 1381 1382 1383 2086 2087
noncomputable def o1385:O:=q7 "_law_draw" 102 "law_treewells_k82_what_is_asked" 2046 1384
noncomputable def o1388:O:=q19 "_law_cell" 2092 "_law_k" 2093 "_law_mixed" 2094 "_law_some" 2095
noncomputable def o1390:O:=q5 "_law_size" 103
noncomputable def o1391:O:=q6 "_law_size" 2089 "_law_size" 2090 2091 656 2 1386 1387 1388 1389 1390 2096 2097
noncomputable def o1392:O:=q7 "_law_size" 103 "law_treewells_k82_what_is_asked" 2046 1391
noncomputable def o1395:O:=q5 "_law_hung" 104
noncomputable def o1396:O:=q16 "_law_hung" 2099 "_law_hung" 2100 2101 660 3 1393 1394 1395 2102 2103
noncomputable def o1397:O:=q7 "_law_hung" 104 "law_treewells_k82_what_is_asked" 2046 1396
noncomputable def o1400:O:=fun P=>.mk (.type "tuple") none (.seq #[.str "_law_script" 2108,.str "_law_size_here" 2109,.str "_law_many" 2110,.str "_law_left_here" 2111,.str "_law_shape" 2112,.str "_law_names" 2113,.str "_law_k" 2114,.str "_law_roads" 2115,.str "_law_older" 2116,.str "_law_length" 2117,.str "_law_pair" 2118,.str "_law_one" 2119,.str "_law_at" 2120]) #[]
noncomputable def o1402:O:=q5 "_law_tree" 105
noncomputable def o1403:O:=q6 "_law_tree" 2105 "_law_tree" 2106 2107 668 1 1398 1399 1400 1401 1402 2121 2122
noncomputable def o1404:O:=q7 "_law_tree" 105 "law_treewells_k82_what_is_asked" 2046 1403
noncomputable def o1407:O:=q5 "_law_fars" 106
noncomputable def o1408:O:=q16 "_law_fars" 2124 "_law_fars" 2125 2126 695 3 1405 1406 1407 2127 2128
noncomputable def o1409:O:=q7 "_law_fars" 106 "law_treewells_k82_what_is_asked" 2046 1408
noncomputable def o1412:O:=fun P=>.mk (.type "tuple") none (.seq #[.str "_law_many" 2133,.str "_law_roads" 2134,.str "_law_left_here" 2135,.str "_law_found" 2136,.str "_law_turn" 2137,.str "_law_more" 2138,.str "_law_a" 2139,.str "_law_b" 2140,.str "_law_length" 2141]) #[]
noncomputable def o1414:O:=q5 "_law_lump" 107
noncomputable def o1415:O:=q6 "_law_lump" 2130 "_law_lump" 2131 2132 703 3 1410 1411 1412 1413 1414 2142 2143
noncomputable def o1416:O:=q7 "_law_lump" 107 "law_treewells_k82_what_is_asked" 2046 1415
noncomputable def o1419:O:=q18 "_law_many" 2148 "_law_left_here" 2149 "_law_share" 2150 "_law_some" 2151 "_law_k" 2152
noncomputable def o1421:O:=q5 "_law_sites" 108
noncomputable def o1422:O:=q6 "_law_sites" 2145 "_law_sites" 2146 2147 714 3 1417 1418 1419 1420 1421 2153 2154
noncomputable def o1423:O:=q7 "_law_sites" 108 "law_treewells_k82_what_is_asked" 2046 1422
noncomputable def o1426:O:=q15 "_law_left_here" 2159 "_law_few" 2160
noncomputable def o1428:O:=q5 "_law_amount" 109
noncomputable def o1429:O:=q6 "_law_amount" 2156 "_law_amount" 2157 2158 720 2 1424 1425 1426 1427 1428 2161 2162
noncomputable def o1430:O:=q7 "_law_amount" 109 "law_treewells_k82_what_is_asked" 2046 1429
noncomputable def o1433:O:=q5 "_law_asked" 110
noncomputable def o1434:O:=q16 "_law_asked" 2164 "_law_asked" 2165 2166 724 4 1431 1432 1433 2167 2168
noncomputable def o1435:O:=q7 "_law_asked" 110 "law_treewells_k82_what_is_asked" 2046 1434
noncomputable def o1438:O:=fun P=>.mk (.type "tuple") none (.seq #[.str "_law_rows" 2173,.str "_law_many" 2174,.str "_law_cell" 2175,.str "_law_choice" 2176,.str "_law_at" 2177,.str "_law_row" 2178,.str "_law_some" 2179,.str "_law_place" 2180,.str "_law_far_off" 2181,.str "_law_numbers" 2182,.str "_law_changed" 2183]) #[]
noncomputable def o1440:O:=q5 "_law_bent" 111
noncomputable def o1441:O:=q6 "_law_bent" 2170 "_law_bent" 2171 2172 752 3 1436 1437 1438 1439 1440 2184 2185
noncomputable def o1442:O:=q7 "_law_bent" 111 "law_treewells_k82_what_is_asked" 2046 1441
noncomputable def o1445:O:=q19 "_law_many" 2190 "_law_some" 2191 "_law_unlike" 2192 "_law_place" 2193
noncomputable def o1447:O:=q5 "_law_places" 112
noncomputable def o1448:O:=q6 "_law_places" 2187 "_law_places" 2188 2189 768 3 1443 1444 1445 1446 1447 2194 2195
noncomputable def o1449:O:=q7 "_law_places" 112 "law_treewells_k82_what_is_asked" 2046 1448
noncomputable def o1452:O:=q5 "_law_are_lumps" 113
noncomputable def o1453:O:=q16 "_law_are_lumps" 2197 "_law_are_lumps" 2198 2199 773 3 1450 1451 1452 2200 2201
noncomputable def o1454:O:=q7 "_law_are_lumps" 113 "law_treewells_k82_what_is_asked" 2046 1453
noncomputable def o1457:O:=q18 "_law_at" 2206 "_law_many" 2207 "_law_roads" 2208 "_law_rows" 2209 "_law_row" 2210
noncomputable def o1459:O:=q5 "_law_due" 114
noncomputable def o1460:O:=q6 "_law_due" 2203 "_law_due" 2204 2205 781 4 1455 1456 1457 1458 1459 2211 2212
noncomputable def o1461:O:=q7 "_law_due" 114 "law_treewells_k82_what_is_asked" 2046 1460
noncomputable def o1464:O:=q5 "law" 115
noncomputable def o1465:O:=q16 "law" 2214 "law" 2215 2216 806 1 1462 1463 1464 2217 2218
noncomputable def o1466:O:=q7 "law" 115 "law_treewells_k82_what_is_asked" 2046 1465
noncomputable def u3:O:=fun P=>.mk (.type "dict") none (.dict #[kE P "__name__" 165 (.str "treewells.questions" 644),kE P "__doc__" 166 .none,kE P "__package__" 167 .none,kE P "__loader__" 168 (.builtin "__main__.__loader__#opaque"),kE P "__spec__" 169 .none,kE P "__annotations__" 170 (.ref 6),kE P "__builtins__" 171 (.ref 4),kE P "__file__" 173 (.str "/claim/cut.py" 172),kE P "__cached__" 174 .none,kE P "_wall" 193 (.ref 21),kE P "TreeError" 213 (.ref 31),kE P "NoTree" 229 (.ref 44),kE P "NoPlace" 245 (.ref 56),kE P "NoRoad" 261 (.ref 68),kE P "NoSite" 277 (.ref 80),kE P "NoYard" 293 (.ref 92),kE P "NoWorth" 309 (.ref 104),kE P "NoGift" 325 (.ref 116),kE P "MOST_PLACES" 329 (.int 12 328),kE P "is_whole" 336 (.ref 125),kE P "is_place" 344 (.ref 132),kE P "are_places" 350 (.ref 137),kE P "are_unlike" 357 (.ref 144),kE P "is_road" 365 (.ref 151),kE P "is_tree" 371 (.ref 156),kE P "check_tree" 379 (.ref 163),kE P "check_places" 387 (.ref 170),kE P "neighbours" 393 (.ref 175),kE P "steps_to" 406 (.ref 182),kE P "fars_from" 412 (.ref 187),kE P "way_between" 423 (.ref 194),kE P "far" 433 (.ref 201),kE P "places_beyond" 439 (.ref 206),kE P "is_lump" 445 (.ref 211),kE P "leaves" 451 (.ref 216),kE P "odd_places" 457 (.ref 221),kE P "are_gives" 465 (.ref 226),kE P "check_gives" 473 (.ref 233),kE P "loads" 479 (.ref 238),kE P "least_cost" 485 (.ref 243),kE P "farthest" 496 (.ref 250),kE P "end_pair" 504 (.ref 257),kE P "ends" 512 (.ref 264),kE P "are_wants" 518 (.ref 269),kE P "check_wants" 526 (.ref 276),kE P "sum_at" 532 (.ref 281),kE P "sum_from" 542 (.ref 288),kE P "balance" 548 (.ref 293),kE P "check_sites" 559 (.ref 300),kE P "sites_serving" 565 (.ref 305),kE P "dig" 571 (.ref 310),kE P "dig_for" 577 (.ref 315),kE P "wells" 587 (.ref 322),kE P "check_asked" 600 (.ref 329),kE P "houses_of" 606 (.ref 334),kE P "steps_of_reach" 619 (.ref 341),kE P "find_reach" 632 (.ref 348),
kE P "least_reach" 643 (.ref 355),kE P "Question" 769 (.ref 435),kE P "Middle" 855 (.ref 498),kE P "Balance" 940 (.ref 559),kE P "are_sites" 948 (.ref 568),kE P "is_house" 956 (.ref 575),kE P "Digging" 1008 (.ref 606),kE P "Wells" 1101 (.ref 672)] 65) #[]
noncomputable def u12:O:=fun P=>.mk .none none (.fields #[.int 1 0,.int 0 0,.ref 20,.int 5 0,.int 0 0,.ref 27,.int 7 0,.int 0 0,.ref 40,.int 9 0,.int 0 0,.ref 52,.int 11 0,.int 0 0,.ref 64,.int 13 0,.int 0 0,.ref 76,.int 15 0,.int 0 0,.ref 88,.int 17 0,.int 0 0,.ref 100,.int 19 0,.int 0 0,.ref 112,.int 23 0,.int 0 0,.ref 124,.int 25 0,.int 0 0,.ref 131,.int 27 0,.int 0 0,.ref 136,.int 29 0,.int 0 0,.ref 143,.int 31 0,.int 0 0,.ref 150,.int 35 0,.int 0 0,.ref 155,.int 41 0,.int 0 0,.ref 162,.int 44 0,.int 0 0,.ref 169,.int 47 0,.int 0 0,.ref 174,.int 53 0,.int 0 0,.ref 181,.int 65 0,.int 0 0,.ref 186,.int 72 0,.int 0 0,.ref 193,.int 78 0,.int 0 0,.ref 200,.int 82 0,.int 0 0,.ref 205,.int 86 0,.int 0 0,.ref 210,.int 92 0,.int 0 0,.ref 215,.int 96 0,.int 0 0,.ref 220,.int 101 0,.int 0 0,.ref 225,.int 103 0,.int 0 0,.ref 232,.int 106 0,.int 0 0,.ref 237,.int 114 0,.int 0 0,.ref 242,.int 117 0,.int 0 0,.ref 249,.int 120 0,.int 0 0,.ref 256,.int 123 0,.int 0 0,.ref 263,.int 126 0,.int 0 0,.ref 268,.int 128 0,.int 0 0,.ref 275,.int 131 0,.int 0 0,.ref 280,.int 133 0,.int 0 0,.ref 287,.int 138 0,.int 0 0,.ref 292,.int 145 0,.int 0 0,.ref 299,.int 150 0,.int 0 0,.ref 304,.int 153 0,.int 0 0,.ref 309,.int 168 0,.int 0 0,.ref 314,.int 172 0,.int 0 0,.ref 321,.int 175 0,.int 0 0,.ref 328,.int 180 0,.int 0 0,.ref 333,.int 182 0,.int 0 0,.ref 340,.int 189 0,.int 0 0,.ref 347,.int 196 0,.int 0 0,.ref 354,.int 200 0,.int 0 0,.ref 361,.int 231 0,.int 0 0,.ref 445,.int 254 0,.int 0 0,.ref 506,.int 276 0,.int 0 0,.ref 567,.int 278 0,.int 0 0,.ref 574,.int 280 0,.int 0 0,.ref 581,.int 290 0,.int 0 0,.ref 614]) #[]
noncomputable def u435:O:=fun P=>.mk (.type "type") none (Data.cls (ClassData.mk "Question" [.type "object"] [.ref 435,.type "object"] 434 "Question" true [] [.ref 498,.ref 559,.ref 606] false none false)) #[none,none,some (.str "Question" 646),some (.str "Question" 654),some (.builtin "object.__new__"),some (.bool true)]
noncomputable def u606:O:=fun P=>.mk (.type "type") none (Data.cls (ClassData.mk "Digging" [.ref 435] [.ref 606,.ref 435,.type "object"] 605 "Digging" true [] [.ref 672] false none false)) #[some (.ref 576),none,some (.str "Digging" 957),some (.str "Digging" 965),some (.builtin "object.__new__"),some (.bool true)]
noncomputable def t3:O:=fun P=>.mk (.type "dict") none (.dict #[kE P "__name__" 165 (.str "__main__" 164),kE P "__doc__" 166 .none,kE P "__package__" 167 .none,kE P "__loader__" 168 (.builtin "__main__.__loader__#opaque"),kE P "__spec__" 169 .none,kE P "__annotations__" 170 (.ref 6),kE P "__builtins__" 171 (.ref 4),kE P "__file__" 173 (.str "/claim/cut.py" 172),kE P "__cached__" 174 .none] 9) #[]
noncomputable def t12:O:=q1
noncomputable def kQ0 (P:Params):List Obj:=o0 P::o1 P::o2 P::o3 P::o4 P::o5 P::o6 P::q0 P::q1 P::o9 P::o10 P::q0 P::o12 P::o13 P::o14 P::q0 P::q1 P::o17 P::q0 P::o19 P::o20 P::o21 P::o22 P::q8 P::o24 P::q0 P::q1 P::o27 P::o28 P::q0 P::o30 P::o31 P::o32 P::o33 P::o34 P::o35 P::q8 P::o37 P::q0 P::q1 P::o40 P::o41 P::q0 P::o43 P::o44 P::o45 P::o46 P::o47 P::q8 P::o49 P::q0 P::q1 P::o52 P::o53 P::q0 P::o55 P::o56 P::o57 P::o58 P::o59 P::[]
noncomputable def kQ1 (P:Params):List Obj:=q8 P::o61 P::q0 P::q1 P::o64 P::o65 P::q0 P::o67 P::o68 P::o69 P::o70 P::o71 P::q8 P::o73 P::q0 P::q1 P::o76 P::o77 P::q0 P::o79 P::o80 P::o81 P::o82 P::o83 P::q8 P::o85 P::q0 P::q1 P::o88 P::o89 P::q0 P::o91 P::o92 P::o93 P::o94 P::o95 P::q8 P::o97 P::q0 P::q1 P::o100 P::o101 P::q0 P::o103 P::o104 P::o105 P::o106 P::o107 P::q8 P::o109 P::q0 P::q1 P::o112 P::o113 P::q0 P::o115 P::o116 P::o117 P::o118 P::q0 P::[]
noncomputable def kQ2 (P:Params):List Obj:=q1 P::o121 P::q0 P::o123 P::o124 P::o125 P::q0 P::q1 P::o128 P::q0 P::o130 P::o131 P::o132 P::q0 P::q1 P::o135 P::o136 P::o137 P::q0 P::q1 P::o140 P::q0 P::o142 P::o143 P::o144 P::q0 P::q1 P::o147 P::q0 P::o149 P::o150 P::o151 P::q0 P::q1 P::o154 P::o155 P::o156 P::q0 P::q1 P::o159 P::q0 P::o161 P::o162 P::o163 P::q0 P::q1 P::o166 P::q0 P::o168 P::o169 P::o170 P::q0 P::q1 P::o173 P::o174 P::o175 P::q0 P::q1 P::o178 P::q0 P::[]
noncomputable def kQ3 (P:Params):List Obj:=o180 P::o181 P::o182 P::q0 P::q1 P::o185 P::o186 P::o187 P::q0 P::q1 P::o190 P::q0 P::o192 P::o193 P::o194 P::q0 P::q1 P::o197 P::q0 P::o199 P::o200 P::o201 P::q0 P::q1 P::o204 P::o205 P::o206 P::q0 P::q1 P::o209 P::o210 P::o211 P::q0 P::q1 P::o214 P::o215 P::o216 P::q0 P::q1 P::o219 P::o220 P::o221 P::q0 P::q1 P::o224 P::o225 P::o226 P::q0 P::q1 P::o229 P::q0 P::o231 P::o232 P::o233 P::q0 P::q1 P::o236 P::o237 P::o238 P::q0 P::[]
noncomputable def kQ4 (P:Params):List Obj:=q1 P::o241 P::o242 P::o243 P::q0 P::q1 P::o246 P::q0 P::o248 P::o249 P::o250 P::q0 P::q1 P::o253 P::q0 P::o255 P::o256 P::o257 P::q0 P::q1 P::o260 P::q0 P::o262 P::o263 P::o264 P::q0 P::q1 P::o267 P::o268 P::o269 P::q0 P::q1 P::o272 P::q0 P::o274 P::o275 P::o276 P::q0 P::q1 P::o279 P::o280 P::o281 P::q0 P::q1 P::o284 P::q0 P::o286 P::o287 P::o288 P::q0 P::q1 P::o291 P::o292 P::o293 P::q0 P::q1 P::o296 P::q0 P::o298 P::o299 P::[]
noncomputable def kQ5 (P:Params):List Obj:=o300 P::q0 P::q1 P::o303 P::o304 P::o305 P::q0 P::q1 P::o308 P::o309 P::o310 P::q0 P::q1 P::o313 P::o314 P::o315 P::q0 P::q1 P::o318 P::q0 P::o320 P::o321 P::o322 P::q0 P::q1 P::o325 P::q0 P::o327 P::o328 P::o329 P::q0 P::q1 P::o332 P::o333 P::o334 P::q0 P::q1 P::o337 P::q0 P::o339 P::o340 P::o341 P::q0 P::q1 P::o344 P::q0 P::o346 P::o347 P::o348 P::q0 P::q1 P::o351 P::q0 P::o353 P::o354 P::o355 P::q0 P::q8 P::o358 P::q0 P::[]
noncomputable def kQ6 (P:Params):List Obj:=o360 P::o361 P::o362 P::q0 P::q1 P::o365 P::q0 P::o367 P::o368 P::o369 P::q0 P::q1 P::o372 P::q0 P::o374 P::o375 P::o376 P::q0 P::q1 P::o379 P::q0 P::o381 P::o382 P::o383 P::q0 P::q1 P::o386 P::q0 P::o388 P::o389 P::o390 P::q0 P::q1 P::o393 P::q0 P::o395 P::o396 P::o397 P::q0 P::q1 P::o400 P::q0 P::o402 P::o403 P::o404 P::q0 P::q1 P::o407 P::q0 P::o409 P::o410 P::o411 P::q0 P::q1 P::o414 P::q0 P::o416 P::o417 P::o418 P::q0 P::[]
noncomputable def kQ7 (P:Params):List Obj:=q1 P::o421 P::q0 P::o423 P::o424 P::o425 P::q0 P::q1 P::o428 P::q0 P::o430 P::o431 P::o432 P::q0 P::o434 P::o435 P::o436 P::o437 P::o438 P::o439 P::o440 P::q8 P::o442 P::q0 P::o444 P::o445 P::o446 P::q0 P::q1 P::o449 P::q0 P::o451 P::o452 P::o453 P::q0 P::q1 P::o456 P::q0 P::o458 P::o459 P::o460 P::q0 P::q1 P::o463 P::q0 P::o465 P::o466 P::o467 P::q0 P::q1 P::o470 P::q0 P::o472 P::o473 P::o474 P::q0 P::q1 P::o477 P::q0 P::o479 P::[]
noncomputable def kQ8 (P:Params):List Obj:=o480 P::o481 P::q0 P::q1 P::o484 P::q0 P::o486 P::o487 P::o488 P::q0 P::q1 P::o491 P::q0 P::o493 P::o494 P::o495 P::q0 P::o497 P::o498 P::o499 P::o500 P::o501 P::q8 P::o503 P::q0 P::o505 P::o506 P::o507 P::q0 P::q1 P::o510 P::q0 P::o512 P::o513 P::o514 P::q0 P::q1 P::o517 P::q0 P::o519 P::o520 P::o521 P::q0 P::q1 P::o524 P::q0 P::o526 P::o527 P::o528 P::q0 P::q1 P::o531 P::q0 P::o533 P::o534 P::o535 P::q0 P::q1 P::o538 P::q0 P::[]
noncomputable def kQ9 (P:Params):List Obj:=o540 P::o541 P::o542 P::q0 P::q1 P::o545 P::q0 P::o547 P::o548 P::o549 P::q0 P::q1 P::o552 P::q0 P::o554 P::o555 P::o556 P::q0 P::o558 P::o559 P::o560 P::o561 P::q0 P::q1 P::o564 P::q0 P::o566 P::o567 P::o568 P::q0 P::q1 P::o571 P::q0 P::o573 P::o574 P::o575 P::o576 P::q8 P::o578 P::q0 P::o580 P::o581 P::o582 P::q0 P::q1 P::o585 P::q0 P::o587 P::o588 P::o589 P::q0 P::q1 P::o592 P::q0 P::o594 P::o595 P::o596 P::q0 P::q1 P::o599 P::[]
noncomputable def kQ10 (P:Params):List Obj:=q0 P::o601 P::o602 P::o603 P::q0 P::o605 P::o606 P::o607 P::o608 P::o609 P::q8 P::o611 P::q0 P::o613 P::o614 P::o615 P::q0 P::q1 P::o618 P::q0 P::o620 P::o621 P::o622 P::q0 P::q1 P::o625 P::o626 P::o627 P::q0 P::q1 P::o630 P::q0 P::o632 P::o633 P::o634 P::q0 P::q1 P::o637 P::q0 P::o639 P::o640 P::o641 P::q0 P::q1 P::o644 P::q0 P::o646 P::o647 P::o648 P::q0 P::q1 P::o651 P::q0 P::o653 P::o654 P::o655 P::q0 P::q1 P::o658 P::q0 P::[]
noncomputable def kQ11 (P:Params):List Obj:=o660 P::o661 P::o662 P::q0 P::q1 P::o665 P::q0 P::o667 P::o668 P::o669 P::q0 P::o671 P::o672 P::o673 P::o674 P::o675 P::q8 P::o677 P::q0 P::o679 P::o680 P::o681 P::q0 P::q1 P::o684 P::q0 P::o686 P::o687 P::o688 P::q0 P::q1 P::o691 P::q0 P::o693 P::o694 P::o695 P::q0 P::q1 P::o698 P::q0 P::o700 P::o701 P::o702 P::q0 P::q1 P::o705 P::q0 P::o707 P::o708 P::o709 P::q0 P::q1 P::o712 P::q0 P::o714 P::o715 P::o716 P::q0 P::q1 P::o719 P::[]
noncomputable def kQ12 (P:Params):List Obj:=q0 P::o721 P::o722 P::o723 P::q0 P::q1 P::o726 P::q0 P::o728 P::o729 P::o730 P::q0 P::o732 P::o733 P::o734 P::o735 P::o736 P::q8 P::o738 P::q0 P::o740 P::o741 P::o742 P::q0 P::q1 P::o745 P::q0 P::o747 P::o748 P::o749 P::q0 P::q1 P::o752 P::q0 P::o754 P::o755 P::o756 P::q0 P::q1 P::o759 P::q0 P::o761 P::o762 P::o763 P::q0 P::q1 P::o766 P::q0 P::o768 P::o769 P::o770 P::q0 P::q1 P::o773 P::q0 P::o775 P::o776 P::o777 P::q0 P::q1 P::[]
noncomputable def kQ13 (P:Params):List Obj:=o780 P::q0 P::o782 P::o783 P::o784 P::q0 P::q1 P::o787 P::q0 P::o789 P::o790 P::o791 P::q0 P::o793 P::o794 P::o795 P::o796 P::q0 P::q1 P::o799 P::q0 P::o801 P::o802 P::o803 P::q0 P::q1 P::o806 P::q0 P::o808 P::o809 P::o810 P::q0 P::q1 P::o813 P::o814 P::o815 P::q0 P::q1 P::o818 P::o819 P::o820 P::q0 P::q1 P::o823 P::q0 P::o825 P::o826 P::o827 P::q0 P::q1 P::o830 P::q0 P::o832 P::o833 P::o834 P::q0 P::q1 P::o837 P::o838 P::o839 P::[]
noncomputable def kQ14 (P:Params):List Obj:=q0 P::q1 P::o842 P::o843 P::o844 P::q0 P::q1 P::o847 P::o848 P::o849 P::o850 P::o851 P::q0 P::q1 P::o854 P::o855 P::o856 P::q0 P::q1 P::o859 P::q0 P::o861 P::o862 P::o863 P::q0 P::q1 P::o866 P::q0 P::o868 P::o869 P::o870 P::q0 P::q1 P::o873 P::o874 P::o875 P::q0 P::q1 P::o878 P::o879 P::o880 P::q0 P::q1 P::o883 P::q0 P::o885 P::o886 P::o887 P::q0 P::q1 P::o890 P::o891 P::o892 P::q0 P::q1 P::o895 P::q0 P::o897 P::o898 P::o899 P::[]
noncomputable def kQ15 (P:Params):List Obj:=o900 P::q8 P::o902 P::q0 P::o904 P::o905 P::o906 P::q0 P::q1 P::o909 P::o910 P::o911 P::q0 P::q1 P::o914 P::q0 P::o916 P::o917 P::o918 P::q0 P::o920 P::o921 P::o922 P::o923 P::o924 P::q8 P::o926 P::q0 P::o928 P::o929 P::o930 P::q0 P::q1 P::o933 P::q0 P::o935 P::o936 P::o937 P::q0 P::q1 P::o940 P::q0 P::o942 P::o943 P::o944 P::q0 P::q1 P::o947 P::q0 P::o949 P::o950 P::o951 P::q0 P::q1 P::o954 P::q0 P::o956 P::o957 P::o958 P::q0 P::[]
noncomputable def kQ16 (P:Params):List Obj:=q1 P::o961 P::q0 P::o963 P::o964 P::o965 P::q0 P::q1 P::o968 P::q0 P::o970 P::o971 P::o972 P::q0 P::q1 P::o975 P::q0 P::o977 P::o978 P::o979 P::q0 P::o981 P::o982 P::o983 P::o984 P::q0 P::q1 P::o987 P::q0 P::o989 P::o990 P::o991 P::o992 P::q8 P::o994 P::q0 P::o996 P::o997 P::o998 P::q0 P::q1 P::o1001 P::q0 P::o1003 P::o1004 P::o1005 P::q0 P::q1 P::o1008 P::q0 P::o1010 P::o1011 P::o1012 P::q0 P::q1 P::o1015 P::q0 P::o1017 P::o1018 P::o1019 P::[]
noncomputable def kQ17 (P:Params):List Obj:=q0 P::q1 P::o1022 P::q0 P::o1024 P::o1025 P::o1026 P::q0 P::q1 P::o1029 P::q0 P::o1031 P::o1032 P::o1033 P::q0 P::q1 P::o1036 P::q0 P::o1038 P::o1039 P::o1040 P::q0 P::q1 P::o1043 P::q0 P::o1045 P::o1046 P::o1047 P::q0 P::o1049 P::o1050 P::o1051 P::o1052 P::o1053 P::q8 P::o1055 P::q0 P::o1057 P::o1058 P::o1059 P::q0 P::q1 P::o1062 P::q0 P::o1064 P::o1065 P::o1066 P::q0 P::q1 P::o1069 P::q0 P::o1071 P::o1072 P::o1073 P::q0 P::q1 P::o1076 P::q0 P::o1078 P::o1079 P::[]
noncomputable def kQ18 (P:Params):List Obj:=o1080 P::q0 P::q1 P::o1083 P::q0 P::o1085 P::o1086 P::o1087 P::q0 P::q1 P::o1090 P::q0 P::o1092 P::o1093 P::o1094 P::q0 P::q1 P::o1097 P::q0 P::o1099 P::o1100 P::o1101 P::q0 P::q1 P::o1104 P::q0 P::o1106 P::o1107 P::o1108 P::q0 P::q1 P::o1111 P::q0 P::o1113 P::o1114 P::o1115 P::q0 P::q1 P::o1118 P::q0 P::o1120 P::o1121 P::o1122 P::q0 P::o1124 P::o1125 P::o1126 P::o1127 P::o1128 P::q8 P::o1130 P::q0 P::o1132 P::o1133 P::o1134 P::q0 P::q1 P::o1137 P::q0 P::o1139 P::[]
noncomputable def kQ19 (P:Params):List Obj:=o1140 P::o1141 P::q0 P::q1 P::o1144 P::q0 P::o1146 P::o1147 P::o1148 P::q0 P::o1150 P::o1151 P::o1152 P::o1153 P::o1154 P::q8 P::o1156 P::q0 P::o1158 P::o1159 P::o1160 P::q0 P::q1 P::o1163 P::q0 P::o1165 P::o1166 P::o1167 P::q0 P::q1 P::o1170 P::q0 P::o1172 P::o1173 P::o1174 P::q0 P::q1 P::o1177 P::q0 P::o1179 P::o1180 P::o1181 P::q0 P::q1 P::o1184 P::q0 P::o1186 P::o1187 P::o1188 P::q0 P::q1 P::o1191 P::q0 P::o1193 P::o1194 P::o1195 P::q0 P::q1 P::o1198 P::q0 P::[]
noncomputable def kQ20 (P:Params):List Obj:=o1200 P::o1201 P::o1202 P::q0 P::q1 P::o1205 P::q0 P::o1207 P::o1208 P::o1209 P::q0 P::o1211 P::o1212 P::o1213 P::o1214 P::o1215 P::q8 P::o1217 P::q0 P::o1219 P::o1220 P::o1221 P::q0 P::q1 P::o1224 P::q0 P::o1226 P::o1227 P::o1228 P::q0 P::q1 P::o1231 P::q0 P::o1233 P::o1234 P::o1235 P::q0 P::q1 P::o1238 P::q0 P::o1240 P::o1241 P::o1242 P::q0 P::q1 P::o1245 P::q0 P::o1247 P::o1248 P::o1249 P::q0 P::q1 P::o1252 P::q0 P::o1254 P::o1255 P::o1256 P::q0 P::q1 P::o1259 P::[]
noncomputable def kQ21 (P:Params):List Obj:=q0 P::o1261 P::o1262 P::o1263 P::q0 P::q1 P::o1266 P::q0 P::o1268 P::o1269 P::o1270 P::q0 P::o1272 P::o1273 P::o1274 P::o1275 P::o1276 P::q8 P::o1278 P::q0 P::o1280 P::o1281 P::o1282 P::q0 P::q1 P::o1285 P::q0 P::o1287 P::o1288 P::o1289 P::q0 P::q1 P::o1292 P::q0 P::o1294 P::o1295 P::o1296 P::q0 P::q1 P::o1299 P::q0 P::o1301 P::o1302 P::o1303 P::q0 P::q1 P::o1306 P::q0 P::o1308 P::o1309 P::o1310 P::q0 P::q1 P::o1313 P::q0 P::o1315 P::o1316 P::o1317 P::q0 P::q1 P::[]
noncomputable def kQ22 (P:Params):List Obj:=o1320 P::q0 P::o1322 P::o1323 P::o1324 P::q0 P::q1 P::o1327 P::q0 P::o1329 P::o1330 P::o1331 P::q0 P::q1 P::o1334 P::q0 P::o1336 P::o1337 P::o1338 P::q0 P::o1340 P::o1341 P::o1342 P::o1343 P::q0 P::q1 P::q0 P::q0 P::o1348 P::o1349 P::o1350 P::q0 P::q1 P::o1353 P::q0 P::o1355 P::o1356 P::o1357 P::q0 P::q1 P::o1360 P::q0 P::o1362 P::o1363 P::o1364 P::q0 P::q1 P::o1367 P::q0 P::o1369 P::o1370 P::o1371 P::q0 P::q1 P::o1374 P::q0 P::o1376 P::o1377 P::o1378 P::q0 P::[]
noncomputable def kQ23 (P:Params):List Obj:=q1 P::o1381 P::q0 P::o1383 P::o1384 P::o1385 P::q0 P::q1 P::o1388 P::q0 P::o1390 P::o1391 P::o1392 P::q0 P::q1 P::o1395 P::o1396 P::o1397 P::q0 P::q1 P::o1400 P::q0 P::o1402 P::o1403 P::o1404 P::q0 P::q1 P::o1407 P::o1408 P::o1409 P::q0 P::q1 P::o1412 P::q0 P::o1414 P::o1415 P::o1416 P::q0 P::q1 P::o1419 P::q0 P::o1421 P::o1422 P::o1423 P::q0 P::q1 P::o1426 P::q0 P::o1428 P::o1429 P::o1430 P::q0 P::q1 P::o1433 P::o1434 P::o1435 P::q0 P::q1 P::o1438 P::q0 P::[]
noncomputable def kQ24 (P:Params):List Obj:=o1440 P::o1441 P::o1442 P::q0 P::q1 P::o1445 P::q0 P::o1447 P::o1448 P::o1449 P::q0 P::q1 P::o1452 P::o1453 P::o1454 P::q0 P::q1 P::o1457 P::q0 P::o1459 P::o1460 P::o1461 P::q0 P::q1 P::o1464 P::o1465 P::o1466 P::[]
noncomputable def kO2 (P:Params):List Obj:=kQ0 P++kQ1 P++kQ2 P++kQ3 P++kQ4 P++kQ5 P++kQ6 P++kQ7 P++kQ8 P++kQ9 P++kQ10 P++kQ11 P++kQ12 P++kQ13 P++kQ14 P++kQ15 P++kQ16 P++kQ17 P++kQ18 P++kQ19 P++kQ20 P++kQ21 P++kQ22 P++kQ23 P++kQ24 P
noncomputable def kO1 (P:Params):List Obj:=(((((kO2 P).take 675).set 3 (u3 P)).set 12 (u12 P)).set 435 (u435 P)).set 606 (u606 P)
noncomputable def kO0 (P:Params):List Obj:=(((kO1 P).take 15).set 3 (t3 P)).set 12 (t12 P)
noncomputable def kHeap:Params->PySem.W.Frag:=fun P =>
(nat_lit 2,o2 P)::(nat_lit 3,o3 P)::(nat_lit 15,q0 P)::(nat_lit 17,o17 P)::(nat_lit 18,q0 P)::(nat_lit 20,o20 P)::(nat_lit 21,o21 P)::(nat_lit 22,o22 P)::(nat_lit 29,q0 P)::(nat_lit 30,o30 P)::(nat_lit 31,o31 P)::(nat_lit 32,o32 P)::(nat_lit 35,o35 P)::(nat_lit 42,q0 P)::(nat_lit 43,o43 P)::(nat_lit 44,o44 P)::(nat_lit 47,o47 P)::(nat_lit 54,q0 P)::(nat_lit 55,o55 P)::(nat_lit 56,o56 P)::(nat_lit 59,o59 P)::(nat_lit 66,q0 P)::(nat_lit 67,o67 P)::(nat_lit 68,o68 P)::(nat_lit 71,o71 P)::(nat_lit 78,q0 P)::(nat_lit 79,o79 P)::(nat_lit 80,o80 P)::(nat_lit 83,o83 P)::(nat_lit 90,q0 P)::(nat_lit 91,o91 P)::(nat_lit 92,o92 P)::(nat_lit 95,o95 P)::(nat_lit 102,q0 P)::(nat_lit 103,o103 P)::(nat_lit 104,o104 P)::(nat_lit 107,o107 P)::(nat_lit 114,q0 P)::(nat_lit 115,o115 P)::(nat_lit 116,o116 P)::(nat_lit 119,q0 P)::(nat_lit 121,o121 P)::(nat_lit 122,q0 P)::(nat_lit 124,o124 P)::(nat_lit 125,o125 P)::(nat_lit 126,q0 P)::(nat_lit 128,o128 P)::(nat_lit 129,q0 P)::(nat_lit 131,o131 P)::(nat_lit 132,o132 P)::(nat_lit 133,q0 P)::(nat_lit 136,o136 P)::(nat_lit 137,o137 P)::(nat_lit 138,q0 P)::(nat_lit 140,o140 P)::(nat_lit 141,q0 P)::(nat_lit 143,o143 P)::(nat_lit 144,o144 P)::(nat_lit 145,q0 P)::(nat_lit 147,o147 P) ::
(nat_lit 148,q0 P)::(nat_lit 150,o150 P)::(nat_lit 151,o151 P)::(nat_lit 152,q0 P)::(nat_lit 155,o155 P)::(nat_lit 156,o156 P)::(nat_lit 157,q0 P)::(nat_lit 159,o159 P)::(nat_lit 160,q0 P)::(nat_lit 162,o162 P)::(nat_lit 163,o163 P)::(nat_lit 164,q0 P)::(nat_lit 166,o166 P)::(nat_lit 167,q0 P)::(nat_lit 169,o169 P)::(nat_lit 170,o170 P)::(nat_lit 171,q0 P)::(nat_lit 174,o174 P)::(nat_lit 175,o175 P)::(nat_lit 176,q0 P)::(nat_lit 178,o178 P)::(nat_lit 179,q0 P)::(nat_lit 181,o181 P)::(nat_lit 182,o182 P)::(nat_lit 183,q0 P)::(nat_lit 186,o186 P)::(nat_lit 187,o187 P)::(nat_lit 188,q0 P)::(nat_lit 190,o190 P)::(nat_lit 191,q0 P)::(nat_lit 193,o193 P)::(nat_lit 194,o194 P)::(nat_lit 195,q0 P)::(nat_lit 197,o197 P)::(nat_lit 198,q0 P)::(nat_lit 200,o200 P)::(nat_lit 201,o201 P)::(nat_lit 202,q0 P)::(nat_lit 205,o205 P)::(nat_lit 206,o206 P)::(nat_lit 207,q0 P)::(nat_lit 210,o210 P)::(nat_lit 211,o211 P)::(nat_lit 212,q0 P)::(nat_lit 215,o215 P)::(nat_lit 216,o216 P)::(nat_lit 217,q0 P)::(nat_lit 220,o220 P)::(nat_lit 221,o221 P)::(nat_lit 222,q0 P)::(nat_lit 225,o225 P)::(nat_lit 226,o226 P)::(nat_lit 227,q0 P)::(nat_lit 229,o229 P)::(nat_lit 230,q0 P)::(nat_lit 232,o232 P)::(nat_lit 233,o233 P)::(nat_lit 234,q0 P)::(nat_lit 237,o237 P)::(nat_lit 238,o238 P) ::
(nat_lit 239,q0 P)::(nat_lit 242,o242 P)::(nat_lit 243,o243 P)::(nat_lit 244,q0 P)::(nat_lit 246,o246 P)::(nat_lit 247,q0 P)::(nat_lit 249,o249 P)::(nat_lit 250,o250 P)::(nat_lit 251,q0 P)::(nat_lit 253,o253 P)::(nat_lit 254,q0 P)::(nat_lit 256,o256 P)::(nat_lit 257,o257 P)::(nat_lit 258,q0 P)::(nat_lit 260,o260 P)::(nat_lit 261,q0 P)::(nat_lit 263,o263 P)::(nat_lit 264,o264 P)::(nat_lit 265,q0 P)::(nat_lit 268,o268 P)::(nat_lit 269,o269 P)::(nat_lit 270,q0 P)::(nat_lit 272,o272 P)::(nat_lit 273,q0 P)::(nat_lit 275,o275 P)::(nat_lit 276,o276 P)::(nat_lit 277,q0 P)::(nat_lit 280,o280 P)::(nat_lit 281,o281 P)::(nat_lit 282,q0 P)::(nat_lit 284,o284 P)::(nat_lit 285,q0 P)::(nat_lit 287,o287 P)::(nat_lit 288,o288 P)::(nat_lit 289,q0 P)::(nat_lit 292,o292 P)::(nat_lit 293,o293 P)::(nat_lit 294,q0 P)::(nat_lit 296,o296 P)::(nat_lit 297,q0 P)::(nat_lit 299,o299 P)::(nat_lit 300,o300 P)::(nat_lit 301,q0 P)::(nat_lit 304,o304 P)::(nat_lit 305,o305 P)::(nat_lit 306,q0 P)::(nat_lit 309,o309 P)::(nat_lit 310,o310 P)::(nat_lit 311,q0 P)::(nat_lit 314,o314 P)::(nat_lit 315,o315 P)::(nat_lit 316,q0 P)::(nat_lit 318,o318 P)::(nat_lit 319,q0 P)::(nat_lit 321,o321 P)::(nat_lit 322,o322 P)::(nat_lit 323,q0 P)::(nat_lit 325,o325 P)::(nat_lit 326,q0 P)::(nat_lit 328,o328 P) ::
(nat_lit 329,o329 P)::(nat_lit 330,q0 P)::(nat_lit 333,o333 P)::(nat_lit 334,o334 P)::(nat_lit 335,q0 P)::(nat_lit 337,o337 P)::(nat_lit 338,q0 P)::(nat_lit 340,o340 P)::(nat_lit 341,o341 P)::(nat_lit 342,q0 P)::(nat_lit 344,o344 P)::(nat_lit 345,q0 P)::(nat_lit 347,o347 P)::(nat_lit 348,o348 P)::(nat_lit 349,q0 P)::(nat_lit 351,o351 P)::(nat_lit 352,q0 P)::(nat_lit 354,o354 P)::(nat_lit 355,o355 P)::(nat_lit 363,q0 P)::(nat_lit 365,o365 P)::(nat_lit 366,q0 P)::(nat_lit 368,o368 P)::(nat_lit 369,o369 P)::(nat_lit 370,q0 P)::(nat_lit 372,o372 P)::(nat_lit 373,q0 P)::(nat_lit 375,o375 P)::(nat_lit 376,o376 P)::(nat_lit 377,q0 P)::(nat_lit 379,o379 P)::(nat_lit 380,q0 P)::(nat_lit 382,o382 P)::(nat_lit 383,o383 P)::(nat_lit 384,q0 P)::(nat_lit 386,o386 P)::(nat_lit 387,q0 P)::(nat_lit 389,o389 P)::(nat_lit 390,o390 P)::(nat_lit 391,q0 P)::(nat_lit 393,o393 P)::(nat_lit 394,q0 P)::(nat_lit 396,o396 P)::(nat_lit 397,o397 P)::(nat_lit 398,q0 P)::(nat_lit 400,o400 P)::(nat_lit 401,q0 P)::(nat_lit 403,o403 P)::(nat_lit 404,o404 P)::(nat_lit 405,q0 P)::(nat_lit 407,o407 P)::(nat_lit 408,q0 P)::(nat_lit 410,o410 P)::(nat_lit 411,o411 P)::(nat_lit 412,q0 P)::(nat_lit 414,o414 P)::(nat_lit 415,q0 P)::(nat_lit 417,o417 P)::(nat_lit 418,o418 P)::(nat_lit 419,q0 P) ::
(nat_lit 421,o421 P)::(nat_lit 422,q0 P)::(nat_lit 424,o424 P)::(nat_lit 425,o425 P)::(nat_lit 426,q0 P)::(nat_lit 428,o428 P)::(nat_lit 429,q0 P)::(nat_lit 431,o431 P)::(nat_lit 432,o432 P)::(nat_lit 433,q0 P)::(nat_lit 434,o434 P)::(nat_lit 435,o435 P)::(nat_lit 436,o436 P)::(nat_lit 437,o437 P)::(nat_lit 440,o440 P)::(nat_lit 447,q0 P)::(nat_lit 449,o449 P)::(nat_lit 450,q0 P)::(nat_lit 452,o452 P)::(nat_lit 453,o453 P)::(nat_lit 454,q0 P)::(nat_lit 456,o456 P)::(nat_lit 457,q0 P)::(nat_lit 459,o459 P)::(nat_lit 460,o460 P)::(nat_lit 461,q0 P)::(nat_lit 463,o463 P)::(nat_lit 464,q0 P)::(nat_lit 466,o466 P)::(nat_lit 467,o467 P)::(nat_lit 468,q0 P)::(nat_lit 470,o470 P)::(nat_lit 471,q0 P)::(nat_lit 473,o473 P)::(nat_lit 474,o474 P)::(nat_lit 475,q0 P)::(nat_lit 477,o477 P)::(nat_lit 478,q0 P)::(nat_lit 480,o480 P)::(nat_lit 481,o481 P)::(nat_lit 482,q0 P)::(nat_lit 484,o484 P)::(nat_lit 485,q0 P)::(nat_lit 487,o487 P)::(nat_lit 488,o488 P)::(nat_lit 489,q0 P)::(nat_lit 491,o491 P)::(nat_lit 492,q0 P)::(nat_lit 494,o494 P)::(nat_lit 495,o495 P)::(nat_lit 496,q0 P)::(nat_lit 497,o497 P)::(nat_lit 498,o498 P)::(nat_lit 501,o501 P)::(nat_lit 508,q0 P)::(nat_lit 510,o510 P)::(nat_lit 511,q0 P)::(nat_lit 513,o513 P)::(nat_lit 514,o514 P)::(nat_lit 515,q0 P) ::
(nat_lit 517,o517 P)::(nat_lit 518,q0 P)::(nat_lit 520,o520 P)::(nat_lit 521,o521 P)::(nat_lit 522,q0 P)::(nat_lit 524,o524 P)::(nat_lit 525,q0 P)::(nat_lit 527,o527 P)::(nat_lit 528,o528 P)::(nat_lit 529,q0 P)::(nat_lit 531,o531 P)::(nat_lit 532,q0 P)::(nat_lit 534,o534 P)::(nat_lit 535,o535 P)::(nat_lit 536,q0 P)::(nat_lit 538,o538 P)::(nat_lit 539,q0 P)::(nat_lit 541,o541 P)::(nat_lit 542,o542 P)::(nat_lit 543,q0 P)::(nat_lit 545,o545 P)::(nat_lit 546,q0 P)::(nat_lit 548,o548 P)::(nat_lit 549,o549 P)::(nat_lit 550,q0 P)::(nat_lit 552,o552 P)::(nat_lit 553,q0 P)::(nat_lit 555,o555 P)::(nat_lit 556,o556 P)::(nat_lit 557,q0 P)::(nat_lit 558,o558 P)::(nat_lit 559,o559 P)::(nat_lit 562,q0 P)::(nat_lit 564,o564 P)::(nat_lit 565,q0 P)::(nat_lit 567,o567 P)::(nat_lit 568,o568 P)::(nat_lit 569,q0 P)::(nat_lit 571,o571 P)::(nat_lit 572,q0 P)::(nat_lit 574,o574 P)::(nat_lit 575,o575 P)::(nat_lit 576,o576 P)::(nat_lit 583,q0 P)::(nat_lit 585,o585 P)::(nat_lit 586,q0 P)::(nat_lit 588,o588 P)::(nat_lit 589,o589 P)::(nat_lit 590,q0 P)::(nat_lit 592,o592 P)::(nat_lit 593,q0 P)::(nat_lit 595,o595 P)::(nat_lit 596,o596 P)::(nat_lit 597,q0 P)::(nat_lit 599,o599 P)::(nat_lit 600,q0 P)::(nat_lit 602,o602 P)::(nat_lit 603,o603 P)::(nat_lit 604,q0 P)::(nat_lit 605,o605 P) ::
(nat_lit 606,o606 P)::(nat_lit 609,o609 P)::(nat_lit 616,q0 P)::(nat_lit 618,o618 P)::(nat_lit 619,q0 P)::(nat_lit 621,o621 P)::(nat_lit 622,o622 P)::(nat_lit 623,q0 P)::(nat_lit 626,o626 P)::(nat_lit 627,o627 P)::(nat_lit 628,q0 P)::(nat_lit 630,o630 P)::(nat_lit 631,q0 P)::(nat_lit 633,o633 P)::(nat_lit 634,o634 P)::(nat_lit 635,q0 P)::(nat_lit 637,o637 P)::(nat_lit 638,q0 P)::(nat_lit 640,o640 P)::(nat_lit 641,o641 P)::(nat_lit 642,q0 P)::(nat_lit 644,o644 P)::(nat_lit 645,q0 P)::(nat_lit 647,o647 P)::(nat_lit 648,o648 P)::(nat_lit 649,q0 P)::(nat_lit 651,o651 P)::(nat_lit 652,q0 P)::(nat_lit 654,o654 P)::(nat_lit 655,o655 P)::(nat_lit 656,q0 P)::(nat_lit 658,o658 P)::(nat_lit 659,q0 P)::(nat_lit 661,o661 P)::(nat_lit 662,o662 P)::(nat_lit 663,q0 P)::(nat_lit 665,o665 P)::(nat_lit 666,q0 P)::(nat_lit 668,o668 P)::(nat_lit 669,o669 P)::(nat_lit 670,q0 P)::(nat_lit 671,o671 P)::(nat_lit 672,o672 P)::(nat_lit 675,o675 P)::(nat_lit 682,q0 P)::(nat_lit 684,o684 P)::(nat_lit 685,q0 P)::(nat_lit 687,o687 P)::(nat_lit 688,o688 P)::(nat_lit 689,q0 P)::(nat_lit 691,o691 P)::(nat_lit 692,q0 P)::(nat_lit 694,o694 P)::(nat_lit 695,o695 P)::(nat_lit 696,q0 P)::(nat_lit 698,o698 P)::(nat_lit 699,q0 P)::(nat_lit 701,o701 P)::(nat_lit 702,o702 P)::(nat_lit 703,q0 P) ::
(nat_lit 705,o705 P)::(nat_lit 706,q0 P)::(nat_lit 708,o708 P)::(nat_lit 709,o709 P)::(nat_lit 710,q0 P)::(nat_lit 712,o712 P)::(nat_lit 713,q0 P)::(nat_lit 715,o715 P)::(nat_lit 716,o716 P)::(nat_lit 717,q0 P)::(nat_lit 719,o719 P)::(nat_lit 720,q0 P)::(nat_lit 722,o722 P)::(nat_lit 723,o723 P)::(nat_lit 724,q0 P)::(nat_lit 726,o726 P)::(nat_lit 727,q0 P)::(nat_lit 729,o729 P)::(nat_lit 730,o730 P)::(nat_lit 731,q0 P)::(nat_lit 732,o732 P)::(nat_lit 733,o733 P)::(nat_lit 736,o736 P)::(nat_lit 743,q0 P)::(nat_lit 745,o745 P)::(nat_lit 746,q0 P)::(nat_lit 748,o748 P)::(nat_lit 749,o749 P)::(nat_lit 750,q0 P)::(nat_lit 752,o752 P)::(nat_lit 753,q0 P)::(nat_lit 755,o755 P)::(nat_lit 756,o756 P)::(nat_lit 757,q0 P)::(nat_lit 759,o759 P)::(nat_lit 760,q0 P)::(nat_lit 762,o762 P)::(nat_lit 763,o763 P)::(nat_lit 764,q0 P)::(nat_lit 766,o766 P)::(nat_lit 767,q0 P)::(nat_lit 769,o769 P)::(nat_lit 770,o770 P)::(nat_lit 771,q0 P)::(nat_lit 773,o773 P)::(nat_lit 774,q0 P)::(nat_lit 776,o776 P)::(nat_lit 777,o777 P)::(nat_lit 778,q0 P)::(nat_lit 780,o780 P)::(nat_lit 781,q0 P)::(nat_lit 783,o783 P)::(nat_lit 784,o784 P)::(nat_lit 785,q0 P)::(nat_lit 787,o787 P)::(nat_lit 788,q0 P)::(nat_lit 790,o790 P)::(nat_lit 791,o791 P)::(nat_lit 792,q0 P)::(nat_lit 793,o793 P) ::
(nat_lit 794,o794 P)::(nat_lit 797,q0 P)::(nat_lit 799,o799 P)::(nat_lit 800,q0 P)::(nat_lit 802,o802 P)::(nat_lit 803,o803 P)::(nat_lit 804,q0 P)::(nat_lit 806,o806 P)::(nat_lit 807,q0 P)::(nat_lit 809,o809 P)::(nat_lit 810,o810 P)::(nat_lit 811,q0 P)::(nat_lit 814,o814 P)::(nat_lit 815,o815 P)::(nat_lit 816,q0 P)::(nat_lit 819,o819 P)::(nat_lit 820,o820 P)::(nat_lit 821,q0 P)::(nat_lit 823,o823 P)::(nat_lit 824,q0 P)::(nat_lit 826,o826 P)::(nat_lit 827,o827 P)::(nat_lit 828,q0 P)::(nat_lit 830,o830 P)::(nat_lit 831,q0 P)::(nat_lit 833,o833 P)::(nat_lit 834,o834 P)::(nat_lit 835,q0 P)::(nat_lit 838,o838 P)::(nat_lit 839,o839 P)::(nat_lit 840,q0 P)::(nat_lit 843,o843 P)::(nat_lit 844,o844 P)::(nat_lit 845,q0 P)::(nat_lit 847,o847 P)::(nat_lit 848,o848 P)::(nat_lit 850,o850 P)::(nat_lit 851,o851 P)::(nat_lit 852,q0 P)::(nat_lit 855,o855 P)::(nat_lit 856,o856 P)::(nat_lit 857,q0 P)::(nat_lit 859,o859 P)::(nat_lit 860,q0 P)::(nat_lit 862,o862 P)::(nat_lit 863,o863 P)::(nat_lit 864,q0 P)::(nat_lit 866,o866 P)::(nat_lit 867,q0 P)::(nat_lit 869,o869 P)::(nat_lit 870,o870 P)::(nat_lit 871,q0 P)::(nat_lit 874,o874 P)::(nat_lit 875,o875 P)::(nat_lit 876,q0 P)::(nat_lit 879,o879 P)::(nat_lit 880,o880 P)::(nat_lit 881,q0 P)::(nat_lit 883,o883 P)::(nat_lit 884,q0 P) ::
(nat_lit 886,o886 P)::(nat_lit 887,o887 P)::(nat_lit 888,q0 P)::(nat_lit 891,o891 P)::(nat_lit 892,o892 P)::(nat_lit 893,q0 P)::(nat_lit 895,o895 P)::(nat_lit 896,q0 P)::(nat_lit 898,o898 P)::(nat_lit 899,o899 P)::(nat_lit 900,o900 P)::(nat_lit 907,q0 P)::(nat_lit 910,o910 P)::(nat_lit 911,o911 P)::(nat_lit 912,q0 P)::(nat_lit 914,o914 P)::(nat_lit 915,q0 P)::(nat_lit 917,o917 P)::(nat_lit 918,o918 P)::(nat_lit 919,q0 P)::(nat_lit 920,o920 P)::(nat_lit 921,o921 P)::(nat_lit 924,o924 P)::(nat_lit 931,q0 P)::(nat_lit 933,o933 P)::(nat_lit 934,q0 P)::(nat_lit 936,o936 P)::(nat_lit 937,o937 P)::(nat_lit 938,q0 P)::(nat_lit 940,o940 P)::(nat_lit 941,q0 P)::(nat_lit 943,o943 P)::(nat_lit 944,o944 P)::(nat_lit 945,q0 P)::(nat_lit 947,o947 P)::(nat_lit 948,q0 P)::(nat_lit 950,o950 P)::(nat_lit 951,o951 P)::(nat_lit 952,q0 P)::(nat_lit 954,o954 P)::(nat_lit 955,q0 P)::(nat_lit 957,o957 P)::(nat_lit 958,o958 P)::(nat_lit 959,q0 P)::(nat_lit 961,o961 P)::(nat_lit 962,q0 P)::(nat_lit 964,o964 P)::(nat_lit 965,o965 P)::(nat_lit 966,q0 P)::(nat_lit 968,o968 P)::(nat_lit 969,q0 P)::(nat_lit 971,o971 P)::(nat_lit 972,o972 P)::(nat_lit 973,q0 P)::(nat_lit 975,o975 P)::(nat_lit 976,q0 P)::(nat_lit 978,o978 P)::(nat_lit 979,o979 P)::(nat_lit 980,q0 P)::(nat_lit 981,o981 P) ::
(nat_lit 982,o982 P)::(nat_lit 985,q0 P)::(nat_lit 987,o987 P)::(nat_lit 988,q0 P)::(nat_lit 990,o990 P)::(nat_lit 991,o991 P)::(nat_lit 992,o992 P)::(nat_lit 999,q0 P)::(nat_lit 1001,o1001 P)::(nat_lit 1002,q0 P)::(nat_lit 1004,o1004 P)::(nat_lit 1005,o1005 P)::(nat_lit 1006,q0 P)::(nat_lit 1008,o1008 P)::(nat_lit 1009,q0 P)::(nat_lit 1011,o1011 P)::(nat_lit 1012,o1012 P)::(nat_lit 1013,q0 P)::(nat_lit 1015,o1015 P)::(nat_lit 1016,q0 P)::(nat_lit 1018,o1018 P)::(nat_lit 1019,o1019 P)::(nat_lit 1020,q0 P)::(nat_lit 1022,o1022 P)::(nat_lit 1023,q0 P)::(nat_lit 1025,o1025 P)::(nat_lit 1026,o1026 P)::(nat_lit 1027,q0 P)::(nat_lit 1029,o1029 P)::(nat_lit 1030,q0 P)::(nat_lit 1032,o1032 P)::(nat_lit 1033,o1033 P)::(nat_lit 1034,q0 P)::(nat_lit 1036,o1036 P)::(nat_lit 1037,q0 P)::(nat_lit 1039,o1039 P)::(nat_lit 1040,o1040 P)::(nat_lit 1041,q0 P)::(nat_lit 1043,o1043 P)::(nat_lit 1044,q0 P)::(nat_lit 1046,o1046 P)::(nat_lit 1047,o1047 P)::(nat_lit 1048,q0 P)::(nat_lit 1049,o1049 P)::(nat_lit 1050,o1050 P)::(nat_lit 1053,o1053 P)::(nat_lit 1060,q0 P)::(nat_lit 1062,o1062 P)::(nat_lit 1063,q0 P)::(nat_lit 1065,o1065 P)::(nat_lit 1066,o1066 P)::(nat_lit 1067,q0 P)::(nat_lit 1069,o1069 P)::(nat_lit 1070,q0 P)::(nat_lit 1072,o1072 P)::(nat_lit 1073,o1073 P)::(nat_lit 1074,q0 P)::(nat_lit 1076,o1076 P)::(nat_lit 1077,q0 P)::(nat_lit 1079,o1079 P) ::
(nat_lit 1080,o1080 P)::(nat_lit 1081,q0 P)::(nat_lit 1083,o1083 P)::(nat_lit 1084,q0 P)::(nat_lit 1086,o1086 P)::(nat_lit 1087,o1087 P)::(nat_lit 1088,q0 P)::(nat_lit 1090,o1090 P)::(nat_lit 1091,q0 P)::(nat_lit 1093,o1093 P)::(nat_lit 1094,o1094 P)::(nat_lit 1095,q0 P)::(nat_lit 1097,o1097 P)::(nat_lit 1098,q0 P)::(nat_lit 1100,o1100 P)::(nat_lit 1101,o1101 P)::(nat_lit 1102,q0 P)::(nat_lit 1104,o1104 P)::(nat_lit 1105,q0 P)::(nat_lit 1107,o1107 P)::(nat_lit 1108,o1108 P)::(nat_lit 1109,q0 P)::(nat_lit 1111,o1111 P)::(nat_lit 1112,q0 P)::(nat_lit 1114,o1114 P)::(nat_lit 1115,o1115 P)::(nat_lit 1116,q0 P)::(nat_lit 1118,o1118 P)::(nat_lit 1119,q0 P)::(nat_lit 1121,o1121 P)::(nat_lit 1122,o1122 P)::(nat_lit 1123,q0 P)::(nat_lit 1124,o1124 P)::(nat_lit 1125,o1125 P)::(nat_lit 1128,o1128 P)::(nat_lit 1135,q0 P)::(nat_lit 1137,o1137 P)::(nat_lit 1138,q0 P)::(nat_lit 1140,o1140 P)::(nat_lit 1141,o1141 P)::(nat_lit 1142,q0 P)::(nat_lit 1144,o1144 P)::(nat_lit 1145,q0 P)::(nat_lit 1147,o1147 P)::(nat_lit 1148,o1148 P)::(nat_lit 1149,q0 P)::(nat_lit 1150,o1150 P)::(nat_lit 1151,o1151 P)::(nat_lit 1154,o1154 P)::(nat_lit 1161,q0 P)::(nat_lit 1163,o1163 P)::(nat_lit 1164,q0 P)::(nat_lit 1166,o1166 P)::(nat_lit 1167,o1167 P)::(nat_lit 1168,q0 P)::(nat_lit 1170,o1170 P)::(nat_lit 1171,q0 P)::(nat_lit 1173,o1173 P)::(nat_lit 1174,o1174 P)::(nat_lit 1175,q0 P) ::
(nat_lit 1177,o1177 P)::(nat_lit 1178,q0 P)::(nat_lit 1180,o1180 P)::(nat_lit 1181,o1181 P)::(nat_lit 1182,q0 P)::(nat_lit 1184,o1184 P)::(nat_lit 1185,q0 P)::(nat_lit 1187,o1187 P)::(nat_lit 1188,o1188 P)::(nat_lit 1189,q0 P)::(nat_lit 1191,o1191 P)::(nat_lit 1192,q0 P)::(nat_lit 1194,o1194 P)::(nat_lit 1195,o1195 P)::(nat_lit 1196,q0 P)::(nat_lit 1198,o1198 P)::(nat_lit 1199,q0 P)::(nat_lit 1201,o1201 P)::(nat_lit 1202,o1202 P)::(nat_lit 1203,q0 P)::(nat_lit 1205,o1205 P)::(nat_lit 1206,q0 P)::(nat_lit 1208,o1208 P)::(nat_lit 1209,o1209 P)::(nat_lit 1210,q0 P)::(nat_lit 1211,o1211 P)::(nat_lit 1212,o1212 P)::(nat_lit 1215,o1215 P)::(nat_lit 1222,q0 P)::(nat_lit 1224,o1224 P)::(nat_lit 1225,q0 P)::(nat_lit 1227,o1227 P)::(nat_lit 1228,o1228 P)::(nat_lit 1229,q0 P)::(nat_lit 1231,o1231 P)::(nat_lit 1232,q0 P)::(nat_lit 1234,o1234 P)::(nat_lit 1235,o1235 P)::(nat_lit 1236,q0 P)::(nat_lit 1238,o1238 P)::(nat_lit 1239,q0 P)::(nat_lit 1241,o1241 P)::(nat_lit 1242,o1242 P)::(nat_lit 1243,q0 P)::(nat_lit 1245,o1245 P)::(nat_lit 1246,q0 P)::(nat_lit 1248,o1248 P)::(nat_lit 1249,o1249 P)::(nat_lit 1250,q0 P)::(nat_lit 1252,o1252 P)::(nat_lit 1253,q0 P)::(nat_lit 1255,o1255 P)::(nat_lit 1256,o1256 P)::(nat_lit 1257,q0 P)::(nat_lit 1259,o1259 P)::(nat_lit 1260,q0 P)::(nat_lit 1262,o1262 P)::(nat_lit 1263,o1263 P)::(nat_lit 1264,q0 P)::(nat_lit 1266,o1266 P) ::
(nat_lit 1267,q0 P)::(nat_lit 1269,o1269 P)::(nat_lit 1270,o1270 P)::(nat_lit 1271,q0 P)::(nat_lit 1272,o1272 P)::(nat_lit 1273,o1273 P)::(nat_lit 1276,o1276 P)::(nat_lit 1283,q0 P)::(nat_lit 1285,o1285 P)::(nat_lit 1286,q0 P)::(nat_lit 1288,o1288 P)::(nat_lit 1289,o1289 P)::(nat_lit 1290,q0 P)::(nat_lit 1292,o1292 P)::(nat_lit 1293,q0 P)::(nat_lit 1295,o1295 P)::(nat_lit 1296,o1296 P)::(nat_lit 1297,q0 P)::(nat_lit 1299,o1299 P)::(nat_lit 1300,q0 P)::(nat_lit 1302,o1302 P)::(nat_lit 1303,o1303 P)::(nat_lit 1304,q0 P)::(nat_lit 1306,o1306 P)::(nat_lit 1307,q0 P)::(nat_lit 1309,o1309 P)::(nat_lit 1310,o1310 P)::(nat_lit 1311,q0 P)::(nat_lit 1313,o1313 P)::(nat_lit 1314,q0 P)::(nat_lit 1316,o1316 P)::(nat_lit 1317,o1317 P)::(nat_lit 1318,q0 P)::(nat_lit 1320,o1320 P)::(nat_lit 1321,q0 P)::(nat_lit 1323,o1323 P)::(nat_lit 1324,o1324 P)::(nat_lit 1325,q0 P)::(nat_lit 1327,o1327 P)::(nat_lit 1328,q0 P)::(nat_lit 1330,o1330 P)::(nat_lit 1331,o1331 P)::(nat_lit 1332,q0 P)::(nat_lit 1334,o1334 P)::(nat_lit 1335,q0 P)::(nat_lit 1337,o1337 P)::(nat_lit 1338,o1338 P)::(nat_lit 1339,q0 P)::(nat_lit 1340,o1340 P)::(nat_lit 1341,o1341 P)::(nat_lit 1344,q0 P)::(nat_lit 1346,q0 P)::(nat_lit 1347,q0 P)::(nat_lit 1349,o1349 P)::(nat_lit 1350,o1350 P)::(nat_lit 1351,q0 P)::(nat_lit 1353,o1353 P)::(nat_lit 1354,q0 P)::(nat_lit 1356,o1356 P)::(nat_lit 1357,o1357 P) ::
(nat_lit 1365,q0 P)::(nat_lit 1367,o1367 P)::(nat_lit 1368,q0 P)::(nat_lit 1370,o1370 P)::(nat_lit 1371,o1371 P)::(nat_lit 1372,q0 P)::(nat_lit 1374,o1374 P)::(nat_lit 1375,q0 P)::(nat_lit 1377,o1377 P)::(nat_lit 1378,o1378 P)::(nat_lit 1379,q0 P)::(nat_lit 1381,o1381 P)::(nat_lit 1382,q0 P)::(nat_lit 1384,o1384 P)::(nat_lit 1385,o1385 P)::(nat_lit 1386,q0 P)::(nat_lit 1388,o1388 P)::(nat_lit 1389,q0 P)::(nat_lit 1391,o1391 P)::(nat_lit 1392,o1392 P)::(nat_lit 1393,q0 P)::(nat_lit 1396,o1396 P)::(nat_lit 1397,o1397 P)::(nat_lit 1398,q0 P)::(nat_lit 1400,o1400 P)::(nat_lit 1401,q0 P)::(nat_lit 1403,o1403 P)::(nat_lit 1404,o1404 P)::(nat_lit 1410,q0 P)::(nat_lit 1412,o1412 P)::(nat_lit 1413,q0 P)::(nat_lit 1415,o1415 P)::(nat_lit 1416,o1416 P)::(nat_lit 1417,q0 P)::(nat_lit 1419,o1419 P)::(nat_lit 1420,q0 P)::(nat_lit 1422,o1422 P)::(nat_lit 1423,o1423 P)::(nat_lit 1424,q0 P)::(nat_lit 1426,o1426 P)::(nat_lit 1427,q0 P)::(nat_lit 1429,o1429 P)::(nat_lit 1430,o1430 P)::(nat_lit 1431,q0 P)::(nat_lit 1434,o1434 P)::(nat_lit 1435,o1435 P)::(nat_lit 1436,q0 P)::(nat_lit 1438,o1438 P)::(nat_lit 1439,q0 P)::(nat_lit 1441,o1441 P)::(nat_lit 1442,o1442 P)::(nat_lit 1443,q0 P)::(nat_lit 1445,o1445 P)::(nat_lit 1446,q0 P)::(nat_lit 1448,o1448 P)::(nat_lit 1449,o1449 P)::(nat_lit 1450,q0 P)::(nat_lit 1453,o1453 P)::(nat_lit 1454,o1454 P)::(nat_lit 1455,q0 P) ::
(nat_lit 1457,o1457 P)::(nat_lit 1458,q0 P)::(nat_lit 1460,o1460 P)::(nat_lit 1461,o1461 P)::(nat_lit 1462,q0 P)::(nat_lit 1465,o1465 P)::(nat_lit 1466,o1466 P) ::
[]
end
def kAddrs:List Addr:=[nat_lit 2,nat_lit 3,nat_lit 15,nat_lit 17,nat_lit 18,nat_lit 20,nat_lit 21,nat_lit 22,nat_lit 29,nat_lit 30,nat_lit 31,nat_lit 32,nat_lit 35,nat_lit 42,nat_lit 43,nat_lit 44,nat_lit 47,nat_lit 54,nat_lit 55,nat_lit 56,nat_lit 59,nat_lit 66,nat_lit 67,nat_lit 68,nat_lit 71,nat_lit 78,nat_lit 79,nat_lit 80,nat_lit 83,nat_lit 90,nat_lit 91,nat_lit 92,nat_lit 95,nat_lit 102,nat_lit 103,nat_lit 104,nat_lit 107,nat_lit 114,nat_lit 115,nat_lit 116,nat_lit 119,nat_lit 121,nat_lit 122,nat_lit 124,nat_lit 125,nat_lit 126,nat_lit 128,nat_lit 129,nat_lit 131,nat_lit 132,nat_lit 133,nat_lit 136,nat_lit 137,nat_lit 138,nat_lit 140,nat_lit 141,nat_lit 143,nat_lit 144,nat_lit 145,nat_lit 147,nat_lit 148,nat_lit 150,nat_lit 151,nat_lit 152,nat_lit 155,nat_lit 156,nat_lit 157,nat_lit 159,nat_lit 160,nat_lit 162,nat_lit 163,nat_lit 164,nat_lit 166,nat_lit 167,nat_lit 169,nat_lit 170,nat_lit 171,nat_lit 174,nat_lit 175,nat_lit 176,nat_lit 178,nat_lit 179,nat_lit 181,nat_lit 182,nat_lit 183,nat_lit 186,nat_lit 187,nat_lit 188,nat_lit 190,nat_lit 191,nat_lit 193,nat_lit 194,nat_lit 195,nat_lit 197,nat_lit 198,nat_lit 200,nat_lit 201,nat_lit 202,nat_lit 205,nat_lit 206,nat_lit 207,nat_lit 210,nat_lit 211,nat_lit 212,nat_lit 215,nat_lit 216,nat_lit 217,nat_lit 220,nat_lit 221,nat_lit 222,nat_lit 225,nat_lit 226,nat_lit 227,nat_lit 229,nat_lit 230,nat_lit 232,nat_lit 233,nat_lit 234,nat_lit 237,nat_lit 238,nat_lit 239,nat_lit 242,nat_lit 243,nat_lit 244,nat_lit 246,nat_lit 247,nat_lit 249,nat_lit 250,nat_lit 251,nat_lit 253,nat_lit 254,nat_lit 256,nat_lit 257,nat_lit 258,nat_lit 260,nat_lit 261,nat_lit 263,nat_lit 264,nat_lit 265,nat_lit 268,nat_lit 269,nat_lit 270,nat_lit 272,nat_lit 273,nat_lit 275,nat_lit 276,nat_lit 277,nat_lit 280,nat_lit 281,nat_lit 282,nat_lit 284,nat_lit 285,nat_lit 287,nat_lit 288,nat_lit 289,nat_lit 292,nat_lit 293,nat_lit 294,nat_lit 296,nat_lit 297,nat_lit 299,nat_lit 300,nat_lit 301,nat_lit 304,nat_lit 305,nat_lit 306,nat_lit 309,nat_lit 310,nat_lit 311,nat_lit 314,nat_lit 315,nat_lit 316,nat_lit 318,nat_lit 319,nat_lit 321,nat_lit 322,nat_lit 323,nat_lit 325,nat_lit 326,nat_lit 328,nat_lit 329,nat_lit 330,nat_lit 333,nat_lit 334,nat_lit 335,nat_lit 337,nat_lit 338,nat_lit 340,nat_lit 341,nat_lit 342,nat_lit 344,nat_lit 345,nat_lit 347,nat_lit 348,nat_lit 349,nat_lit 351,nat_lit 352,nat_lit 354,nat_lit 355,nat_lit 363,nat_lit 365,nat_lit 366,nat_lit 368,nat_lit 369,nat_lit 370,nat_lit 372,nat_lit 373,nat_lit 375,nat_lit 376,nat_lit 377,nat_lit 379,nat_lit 380,nat_lit 382,nat_lit 383,nat_lit 384,nat_lit 386,nat_lit 387,nat_lit 389,nat_lit 390,nat_lit 391,nat_lit 393,nat_lit 394,nat_lit 396,nat_lit 397,nat_lit 398,nat_lit 400,nat_lit 401,nat_lit 403,nat_lit 404,nat_lit 405,nat_lit 407,nat_lit 408,nat_lit 410,nat_lit 411,nat_lit 412,nat_lit 414,nat_lit 415,nat_lit 417,nat_lit 418,nat_lit 419,nat_lit 421,nat_lit 422,nat_lit 424,nat_lit 425,nat_lit 426,nat_lit 428,nat_lit 429,nat_lit 431,nat_lit 432,nat_lit 433,nat_lit 434,nat_lit 435,nat_lit 436,nat_lit 437,nat_lit 440,nat_lit 447,nat_lit 449,nat_lit 450,nat_lit 452,nat_lit 453,nat_lit 454,nat_lit 456,nat_lit 457,nat_lit 459,nat_lit 460,nat_lit 461,nat_lit 463,nat_lit 464,nat_lit 466,nat_lit 467,nat_lit 468,nat_lit 470,nat_lit 471,nat_lit 473,nat_lit 474,nat_lit 475,nat_lit 477,nat_lit 478,nat_lit 480,nat_lit 481,nat_lit 482,nat_lit 484,nat_lit 485,nat_lit 487,nat_lit 488,nat_lit 489,nat_lit 491,nat_lit 492,nat_lit 494,nat_lit 495,nat_lit 496,nat_lit 497,nat_lit 498,nat_lit 501,nat_lit 508,nat_lit 510,nat_lit 511,nat_lit 513,nat_lit 514,nat_lit 515,nat_lit 517,nat_lit 518,nat_lit 520,nat_lit 521,nat_lit 522,nat_lit 524,nat_lit 525,nat_lit 527,nat_lit 528,nat_lit 529,nat_lit 531,nat_lit 532,nat_lit 534,nat_lit 535,nat_lit 536,nat_lit 538,nat_lit 539,nat_lit 541,nat_lit 542,nat_lit 543,nat_lit 545,nat_lit 546,nat_lit 548,nat_lit 549,nat_lit 550,nat_lit 552,nat_lit 553,nat_lit 555,nat_lit 556,nat_lit 557,nat_lit 558,nat_lit 559,nat_lit 562,nat_lit 564,nat_lit 565,nat_lit 567,nat_lit 568,nat_lit 569,nat_lit 571,nat_lit 572,nat_lit 574,nat_lit 575,nat_lit 576,nat_lit 583,nat_lit 585,nat_lit 586,nat_lit 588,nat_lit 589,nat_lit 590,nat_lit 592,nat_lit 593,nat_lit 595,nat_lit 596,nat_lit 597,nat_lit 599,nat_lit 600,nat_lit 602,nat_lit 603,nat_lit 604,nat_lit 605,nat_lit 606,nat_lit 609,nat_lit 616,nat_lit 618,nat_lit 619,nat_lit 621,nat_lit 622,nat_lit 623,nat_lit 626,nat_lit 627,nat_lit 628,nat_lit 630,nat_lit 631,nat_lit 633,nat_lit 634,nat_lit 635,nat_lit 637,nat_lit 638,nat_lit 640,nat_lit 641,nat_lit 642,nat_lit 644,nat_lit 645,nat_lit 647,nat_lit 648,nat_lit 649,nat_lit 651,nat_lit 652,nat_lit 654,nat_lit 655,nat_lit 656,nat_lit 658,nat_lit 659,nat_lit 661,nat_lit 662,nat_lit 663,nat_lit 665,nat_lit 666,nat_lit 668,nat_lit 669,nat_lit 670,nat_lit 671,nat_lit 672,nat_lit 675,nat_lit 682,nat_lit 684,nat_lit 685,nat_lit 687,nat_lit 688,nat_lit 689,nat_lit 691,nat_lit 692,nat_lit 694,nat_lit 695,nat_lit 696,nat_lit 698,nat_lit 699,nat_lit 701,nat_lit 702,nat_lit 703,nat_lit 705,nat_lit 706,nat_lit 708,nat_lit 709,nat_lit 710,nat_lit 712,nat_lit 713,nat_lit 715,nat_lit 716,nat_lit 717,nat_lit 719,nat_lit 720,nat_lit 722,nat_lit 723,nat_lit 724,nat_lit 726,nat_lit 727,nat_lit 729,nat_lit 730,nat_lit 731,nat_lit 732,nat_lit 733,nat_lit 736,nat_lit 743,nat_lit 745,nat_lit 746,nat_lit 748,nat_lit 749,nat_lit 750,nat_lit 752,nat_lit 753,nat_lit 755,nat_lit 756,nat_lit 757,nat_lit 759,nat_lit 760,nat_lit 762,nat_lit 763,nat_lit 764,nat_lit 766,nat_lit 767,nat_lit 769,nat_lit 770,nat_lit 771,nat_lit 773,nat_lit 774,nat_lit 776,nat_lit 777,nat_lit 778,nat_lit 780,nat_lit 781,nat_lit 783,nat_lit 784,nat_lit 785,nat_lit 787,nat_lit 788,nat_lit 790,nat_lit 791,nat_lit 792,nat_lit 793,nat_lit 794,nat_lit 797,nat_lit 799,nat_lit 800,nat_lit 802,nat_lit 803,nat_lit 804,nat_lit 806,nat_lit 807,nat_lit 809,nat_lit 810,nat_lit 811,nat_lit 814,nat_lit 815,nat_lit 816,nat_lit 819,nat_lit 820,nat_lit 821,nat_lit 823,nat_lit 824,nat_lit 826,nat_lit 827,nat_lit 828,nat_lit 830,nat_lit 831,nat_lit 833,nat_lit 834,nat_lit 835,nat_lit 838,nat_lit 839,nat_lit 840,nat_lit 843,nat_lit 844,nat_lit 845,nat_lit 847,nat_lit 848,nat_lit 850,nat_lit 851,nat_lit 852,nat_lit 855,nat_lit 856,nat_lit 857,nat_lit 859,nat_lit 860,nat_lit 862,nat_lit 863,nat_lit 864,nat_lit 866,nat_lit 867,nat_lit 869,nat_lit 870,nat_lit 871,nat_lit 874,nat_lit 875,nat_lit 876,nat_lit 879,nat_lit 880,nat_lit 881,nat_lit 883,nat_lit 884,nat_lit 886,nat_lit 887,nat_lit 888,nat_lit 891,nat_lit 892,nat_lit 893,nat_lit 895,nat_lit 896,nat_lit 898,nat_lit 899,nat_lit 900,nat_lit 907,nat_lit 910,nat_lit 911,nat_lit 912,nat_lit 914,nat_lit 915,nat_lit 917,nat_lit 918,nat_lit 919,nat_lit 920,nat_lit 921,nat_lit 924,nat_lit 931,nat_lit 933,nat_lit 934,nat_lit 936,nat_lit 937,nat_lit 938,nat_lit 940,nat_lit 941,nat_lit 943,nat_lit 944,nat_lit 945,nat_lit 947,nat_lit 948,nat_lit 950,nat_lit 951,nat_lit 952,nat_lit 954,nat_lit 955,nat_lit 957,nat_lit 958,nat_lit 959,nat_lit 961,nat_lit 962,nat_lit 964,nat_lit 965,nat_lit 966,nat_lit 968,nat_lit 969,nat_lit 971,nat_lit 972,nat_lit 973,nat_lit 975,nat_lit 976,nat_lit 978,nat_lit 979,nat_lit 980,nat_lit 981,nat_lit 982,nat_lit 985,nat_lit 987,nat_lit 988,nat_lit 990,nat_lit 991,nat_lit 992,nat_lit 999,nat_lit 1001,nat_lit 1002,nat_lit 1004,nat_lit 1005,nat_lit 1006,nat_lit 1008,nat_lit 1009,nat_lit 1011,nat_lit 1012,nat_lit 1013,nat_lit 1015,nat_lit 1016,nat_lit 1018,nat_lit 1019,nat_lit 1020,nat_lit 1022,nat_lit 1023,nat_lit 1025,nat_lit 1026,nat_lit 1027,nat_lit 1029,nat_lit 1030,nat_lit 1032,nat_lit 1033,nat_lit 1034,nat_lit 1036,nat_lit 1037,nat_lit 1039,nat_lit 1040,nat_lit 1041,nat_lit 1043,nat_lit 1044,nat_lit 1046,nat_lit 1047,nat_lit 1048,nat_lit 1049,nat_lit 1050,nat_lit 1053,nat_lit 1060,nat_lit 1062,nat_lit 1063,nat_lit 1065,nat_lit 1066,nat_lit 1067,nat_lit 1069,nat_lit 1070,nat_lit 1072,nat_lit 1073,nat_lit 1074,nat_lit 1076,nat_lit 1077,nat_lit 1079,nat_lit 1080,nat_lit 1081,nat_lit 1083,nat_lit 1084,nat_lit 1086,nat_lit 1087,nat_lit 1088,nat_lit 1090,nat_lit 1091,nat_lit 1093,nat_lit 1094,nat_lit 1095,nat_lit 1097,nat_lit 1098,nat_lit 1100,nat_lit 1101,nat_lit 1102,nat_lit 1104,nat_lit 1105,nat_lit 1107,nat_lit 1108,nat_lit 1109,nat_lit 1111,nat_lit 1112,nat_lit 1114,nat_lit 1115,nat_lit 1116,nat_lit 1118,nat_lit 1119,nat_lit 1121,nat_lit 1122,nat_lit 1123,nat_lit 1124,nat_lit 1125,nat_lit 1128,nat_lit 1135,nat_lit 1137,nat_lit 1138,nat_lit 1140,nat_lit 1141,nat_lit 1142,nat_lit 1144,nat_lit 1145,nat_lit 1147,nat_lit 1148,nat_lit 1149,nat_lit 1150,nat_lit 1151,nat_lit 1154,nat_lit 1161,nat_lit 1163,nat_lit 1164,nat_lit 1166,nat_lit 1167,nat_lit 1168,nat_lit 1170,nat_lit 1171,nat_lit 1173,nat_lit 1174,nat_lit 1175,nat_lit 1177,nat_lit 1178,nat_lit 1180,nat_lit 1181,nat_lit 1182,nat_lit 1184,nat_lit 1185,nat_lit 1187,nat_lit 1188,nat_lit 1189,nat_lit 1191,nat_lit 1192,nat_lit 1194,nat_lit 1195,nat_lit 1196,nat_lit 1198,nat_lit 1199,nat_lit 1201,nat_lit 1202,nat_lit 1203,nat_lit 1205,nat_lit 1206,nat_lit 1208,nat_lit 1209,nat_lit 1210,nat_lit 1211,nat_lit 1212,nat_lit 1215,nat_lit 1222,nat_lit 1224,nat_lit 1225,nat_lit 1227,nat_lit 1228,nat_lit 1229,nat_lit 1231,nat_lit 1232,nat_lit 1234,nat_lit 1235,nat_lit 1236,nat_lit 1238,nat_lit 1239,nat_lit 1241,nat_lit 1242,nat_lit 1243,nat_lit 1245,nat_lit 1246,nat_lit 1248,nat_lit 1249,nat_lit 1250,nat_lit 1252,nat_lit 1253,nat_lit 1255,nat_lit 1256,nat_lit 1257,nat_lit 1259,nat_lit 1260,nat_lit 1262,nat_lit 1263,nat_lit 1264,nat_lit 1266,nat_lit 1267,nat_lit 1269,nat_lit 1270,nat_lit 1271,nat_lit 1272,nat_lit 1273,nat_lit 1276,nat_lit 1283,nat_lit 1285,nat_lit 1286,nat_lit 1288,nat_lit 1289,nat_lit 1290,nat_lit 1292,nat_lit 1293,nat_lit 1295,nat_lit 1296,nat_lit 1297,nat_lit 1299,nat_lit 1300,nat_lit 1302,nat_lit 1303,nat_lit 1304,nat_lit 1306,nat_lit 1307,nat_lit 1309,nat_lit 1310,nat_lit 1311,nat_lit 1313,nat_lit 1314,nat_lit 1316,nat_lit 1317,nat_lit 1318,nat_lit 1320,nat_lit 1321,nat_lit 1323,nat_lit 1324,nat_lit 1325,nat_lit 1327,nat_lit 1328,nat_lit 1330,nat_lit 1331,nat_lit 1332,nat_lit 1334,nat_lit 1335,nat_lit 1337,nat_lit 1338,nat_lit 1339,nat_lit 1340,nat_lit 1341,nat_lit 1344,nat_lit 1346,nat_lit 1347,nat_lit 1349,nat_lit 1350,nat_lit 1351,nat_lit 1353,nat_lit 1354,nat_lit 1356,nat_lit 1357,nat_lit 1365,nat_lit 1367,nat_lit 1368,nat_lit 1370,nat_lit 1371,nat_lit 1372,nat_lit 1374,nat_lit 1375,nat_lit 1377,nat_lit 1378,nat_lit 1379,nat_lit 1381,nat_lit 1382,nat_lit 1384,nat_lit 1385,nat_lit 1386,nat_lit 1388,nat_lit 1389,nat_lit 1391,nat_lit 1392,nat_lit 1393,nat_lit 1396,nat_lit 1397,nat_lit 1398,nat_lit 1400,nat_lit 1401,nat_lit 1403,nat_lit 1404,nat_lit 1410,nat_lit 1412,nat_lit 1413,nat_lit 1415,nat_lit 1416,nat_lit 1417,nat_lit 1419,nat_lit 1420,nat_lit 1422,nat_lit 1423,nat_lit 1424,nat_lit 1426,nat_lit 1427,nat_lit 1429,nat_lit 1430,nat_lit 1431,nat_lit 1434,nat_lit 1435,nat_lit 1436,nat_lit 1438,nat_lit 1439,nat_lit 1441,nat_lit 1442,nat_lit 1443,nat_lit 1445,nat_lit 1446,nat_lit 1448,nat_lit 1449,nat_lit 1450,nat_lit 1453,nat_lit 1454,nat_lit 1455,nat_lit 1457,nat_lit 1458,nat_lit 1460,nat_lit 1461,nat_lit 1462,nat_lit 1465,nat_lit 1466]
def kView:Program:={ PySem.Challenge.pw_treewells_k82_what_is_asked with main:={ PySem.Challenge.pw_treewells_k82_what_is_asked.main with body:=[top 0,top 2,top 3,top 4,top 5,top 6,top 7,top 8,top 9,top 11,top 12,top 13,top 14,top 15,top 16,top 17,top 18,top 19,top 20,top 21,top 22,top 23,top 24,top 25,top 26,top 27,top 28,top 30,top 31,top 32,top 33,top 35,top 36,top 37,top 38,top 39,top 40,top 41,top 42,top 44,top 45,top 46,top 47,top 48,top 50,top 51,top 52,top 53,top 54,top 56,top 57,top 58,top 59,top 60,top 61,top 62,top 63,top 64,top 66,top 67,top 68,top 69,top 70,top 71,top 73,top 74,top 75,top 76,top 77,top 78,top 79,top 81,top 82,top 83,top 84,top 86,top 87,top 88,top 89,top 90,top 91,top 92,top 93,top 94,top 96,top 98,top 99,top 100,top 101,top 102,top 103,top 104,top 105,top 106,top 107,top 108,top 109,top 110,top 111,top 112,top 113,top 114,top 115] } }
theorem kAddrs_eq (P:Params):kAddrs=(kHeap P).map (·.1):=by kernel_rfl
theorem kBoot:∀w:World,(PySem.W.fencedOpening treeTable PySem.Challenge.rw_treewells_k82_what_is_asked.row.prog w 10863).map (fun s=>(s.heap,s.gens,s.drawn,s.toks))=some (PySem.W.boot_heap w.params,Array.mk [],PySem.W.boot_drawn,PySem.W.boot_toks):=
 PySem.W.boot_open (by rfl) (by decide) (fun _=>rfl)
abbrev kPr:Program:=PySem.Challenge.rw_treewells_k82_what_is_asked.row.prog
abbrev kLf:Life:={ debug:=0,thresholds:=[2000,10,10] }
abbrev kAn:Option Value:=some (.ref (nat_lit 6))
abbrev kEnv:Env:={ scope:=kPr.main.scope,locals:=mainNs,globals:=mainNs,cells:=[],code:=.ref (nat_lit 13),frame:=some (nat_lit 14) }
abbrev kB1:List Stmt:=(behindTheImports kPr).take 63
abbrev kB2:List Stmt:=(behindTheImports kPr).drop 63
abbrev kB0:List Stmt:=kB1++(kB2++[])
abbrev kCd:Code:=.body kB0 kEnv
abbrev kZ:Pos:=⟨0,0,0,0⟩
abbrev kP1:Pos:=⟨290,0,317,17⟩
abbrev kP2:Pos:=⟨806,0,819,36⟩
noncomputable def kS0 (w:World) (os:OsState):SharedT:=⟨kT (kO0 w.params),nat_lit 15,kLf,Array.mk [],PySem.W.boot_drawn,nat_lit 187,os⟩
noncomputable def kS1 (w:World) (os:OsState):SharedT:=⟨kT (kO1 w.params),nat_lit 675,kLf,Array.mk [],PySem.W.boot_drawn,nat_lit 1102,os⟩
noncomputable def kS2 (w:World) (os:OsState):SharedT:=⟨kT (kO2 w.params),nat_lit 1467,kLf,Array.mk [],PySem.W.boot_drawn,nat_lit 2220,os⟩
theorem kC0:∀(w:World) (os:OsState),((eW (PySem.W.boot_heap w.params).objs.toList 0 .nil).bind fun t=>ft treeTable kPr w (nat_lit 11) kAn 12 ⟨t,nat_lit 11,kLf,Array.mk [],PySem.W.boot_drawn,PySem.W.boot_toks,os⟩ (topStub kPr))=some (kS0 w os,⟨denote treeTable (.body kB0 kEnv),kCd,kZ,[topFrame kZ]⟩):=by intro w os;kernel_rfl
theorem kC1:∀(w:World) (os:OsState),segRunT treeTable kPr w (nat_lit 11) kAn 1 1 (kS0 w os) (blockOf kB0 kEnv kCd kZ [topFrame kZ])=some (.next,kS0 w os,kCd,kZ):=by intro w os;kernel_rfl
theorem kC2:∀(w:World) (os:OsState),segRunT treeTable kPr w (nat_lit 11) kAn 1 5280 (kS0 w os) (piecesOf kB1 kEnv kCd kZ [topFrame kZ])=some (.next,kS1 w os,kCd,kP1):=by intro w os;kernel_rfl
theorem kC3:∀(w:World) (os:OsState),segRunT treeTable kPr w (nat_lit 11) kAn 1 5560 (kS1 w os) (piecesOf kB2 kEnv kCd kP1 [topFrame kZ])=some (.next,kS2 w os,kCd,kP2):=by intro w os;kernel_rfl
abbrev kLk {α:Type}(g:World->Shared->α)(v:World->α):Prop:=Look2 kPr 10 kS2 (restOf [] kEnv kCd kP2 [topFrame kZ]) (nat_lit 11) kAn g v
theorem kL1:kLk (fun w s=>PySem.W.staticsOk (PySem.importedModules kPr.main.body) (PySem.W.boot_heap w.params) s.heap&&PySem.W.namesBound kPr s.heap&&PySem.W.gensDone s&&PySem.W.laidKept (PySem.W.boot_heap w.params) s.heap) (fun _=>true):=by intro w os;kernel_rfl
open PySem.Calls PyProof.Rows
theorem kL2a:kLk (fun _ s=>seen ((recsOf KH.kView).map (·.name)) (ownsOf KH.kView) [] { s with gens:=#[] }) (fun _=>expectedOf KH.kView):=by intro w os;kernel_rfl
theorem kL2b:kLk (fun _ s=>s.heap.bltView) (fun _=>bltViewBooted):=by intro w os;kernel_rfl
theorem kL2c:kLk (fun _ s=>s.heap.keysOk (looseW KH.kView []) ((recsOf KH.kView).map (·.name)) ((litsOf KH.kView).map (·.1)) ((clssOf KH.kView (looseW KH.kView [])).map (·.name))&&s.heap.accountedOkI (PySem.importedModules kPr.main.body)&&s.heap.isNs mainGlobals&&s.heap.isNs builtinsNs&&tablesOk KH.kView s.heap&&(fun s=>PySem.W.xlAt KH.kView [] s&&PySem.W.recOk (PySem.W.RowW.records (PySem.W.OpenRow.toRowW PySem.Challenge.rw_treewells_k82_what_is_asked.row)) s) s&&(if true then s.gens.size == 0 else !leftWithCleanup s.gens)) (fun _=>true):=by intro w os;kernel_rfl
theorem kL2d:kLk (fun _ s=>(tabsOk KH.kView s,pinSeenD KH.kView (drecsOf KH.kView) s)) (fun _=>(true,pinGoodD (drecsOf KH.kView))):=by intro w os;kernel_rfl
theorem kL2e:kLk (fun _ s=>(plainSeenE KH.kView (looseW KH.kView []) s,plainSeenD KH.kView [] s,wideSeen KH.kView s,clsSeenW KH.kView [] s)) (fun _=>(plainGoodE KH.kView (looseW KH.kView []),plainGoodD KH.kView [],wideGood KH.kView,clsGoodW KH.kView [])):=by intro w os;kernel_rfl
theorem kL2:kLk (fun _ s=>PySem.W.openSeen KH.kView [] (PySem.importedModules kPr.main.body) (fun s=>PySem.W.xlAt KH.kView [] s&&PySem.W.recOk (PySem.W.RowW.records (PySem.W.OpenRow.toRowW PySem.Challenge.rw_treewells_k82_what_is_asked.row)) s) true s) (fun _=>PySem.W.openGood KH.kView []):=fun w os=>by
 obtain⟨s,hs,e⟩:=Option.map_eq_some_iff.mp (kL2d w os);obtain⟨s',hs',e'⟩:=Option.map_eq_some_iff.mp (kL2e w os);rw[hs]at hs';cases hs';obtain⟨e1,e2⟩:=Prod.ext_iff.mp e;have x:=Look2.pair kL2a (Look2.pair kL2b kL2c) w os;rw[hs]at x;rw[hs];obtain⟨x1,x2⟩:=Prod.ext_iff.mp (Option.some.inj x);obtain⟨x2,x3⟩:=Prod.ext_iff.mp x2;exact congrArg some (Prod.ext x1 (Prod.ext x2 (Prod.ext x3 (Prod.ext e1 (Prod.ext e2 e')))))
theorem kL3a:kLk (fun _ s=>((kAddrs.drop 0).take 300).map s.heap.get?) (fun w=>(((kHeap w.params).drop 0).take 300).map fun p=>some p.2):=by intro w os;kernel_rfl
theorem kL3b:kLk (fun _ s=>((kAddrs.drop 300).take 200).map s.heap.get?) (fun w=>(((kHeap w.params).drop 300).take 200).map fun p=>some p.2):=by intro w os;kernel_rfl
theorem kL3c:kLk (fun _ s=>((kAddrs.drop 500).take 160).map s.heap.get?) (fun w=>(((kHeap w.params).drop 500).take 160).map fun p=>some p.2):=by intro w os;kernel_rfl
theorem kL3d:kLk (fun _ s=>((kAddrs.drop 660).take 130).map s.heap.get?) (fun w=>(((kHeap w.params).drop 660).take 130).map fun p=>some p.2):=by intro w os;kernel_rfl
theorem kL3e:kLk (fun _ s=>((kAddrs.drop 790).take 200).map s.heap.get?) (fun w=>(((kHeap w.params).drop 790).take 200).map fun p=>some p.2):=by intro w os;kernel_rfl
theorem kL3:kLk (fun _ s=>(PySem.W.kHook KH.kHeap KH.kAddrs KH.kAddrs_eq).obs s) (PySem.W.kHook KH.kHeap KH.kAddrs KH.kAddrs_eq).val:=fun w os=>by
 have e:=(kL3a.app (kL3b.app (kL3c.app (kL3d.app kL3e)))) w os;have cut:∀{α:Type} (l:List α),l.length≤990->(l.drop 0).take 300++((l.drop 300).take 200++((l.drop 500).take 160++((l.drop 660).take 130++(l.drop 790).take 200)))=l:=fun l h=>by
  have d:∀i n:Nat,(l.drop i).take n++l.drop (i+n)=l.drop i:=fun i n=>by rw[←List.drop_drop,List.take_append_drop]
  rw[List.take_of_length_le (l:=l.drop 790) (by rw[List.length_drop];omega),d 660 130,d 500 160,d 300 200,d 0 300];rfl
 have c1:=cut kAddrs (by decide +kernel)
 have c2:=cut (kHeap w.params) (by rw[←List.length_map (as:=kHeap w.params) (·.1),←kAddrs_eq];decide +kernel)
 have e':((ej treeTable kPr w (nat_lit 11) kAn 10 (kS2 w os) (restOf [] kEnv kCd kP2 [topFrame kZ])).map fun s=>kAddrs.map s.abs.heap.get?)=some ((kHeap w.params).map fun p=>some p.2):=by
  rw[←c2]
  conv=>lhs;rw[←c1]
  simp only[List.map_append];exact e
 exact e'
theorem kLeft:PySem.W.LeftO PySem.Challenge.rw_treewells_k82_what_is_asked.row.prog KH.kView [] (fun s=>PySem.W.xlAt KH.kView [] s&&PySem.W.recOk (PySem.W.RowW.records (PySem.W.OpenRow.toRowW PySem.Challenge.rw_treewells_k82_what_is_asked.row)) s) (PySem.W.kHook KH.kHeap KH.kAddrs KH.kAddrs_eq).obs (PySem.W.kHook KH.kHeap KH.kAddrs KH.kAddrs_eq).val 10863:=
 left_of2 kBoot (by intro w;kernel_rfl) (by decide) kC0 kC1 kC2 kC3 kL1 kL2 kL3
end KH
namespace L2
open PySem PySem.Spec PyProof.Rows
abbrev Key:=Sum Int Str
def g6:Key->Value->Bool
 | .inl k,v=>Value.isInt k v
 | .inr x,v=>Value.isStrOf x v
def keyH (w:World):Key->Int
 | .inl k=>hashInt k
 | .inr x=>hashStr w x
theorem bq:∀{k:Key} {v:Value},g6 k v=true->(∃i t,k=Sum.inl i/\v=Value.int i t)∨(∃x t,k=Sum.inr x/\v=Value.str x t)
 | .inl i,v,h=>by
  obtain⟨t,e⟩:=Value.isInt_shape (k:=i) (v:=v) h;exact .inl ⟨i,t,rfl,e⟩
 | .inr x,v,h=>by
  obtain⟨t,e⟩:=Value.isStrOf_shape (x:=x) (v:=v) h;exact .inr ⟨x,t,rfl,e⟩
theorem keyIs_int (i:Int)(t:Tok):g6 (.inl i) (.int i t)=true:=by simp[g6,Value.isInt]
theorem keyIs_str (x:Str)(t:Tok):g6 (.inr x) (.str x t)=true:=by simp[g6,Value.isStrOf]
theorem ji (a b:Int):decide ((Sum.inl a:Key)=Sum.inl b)=(a == b):=by
 by_cases e:a=b
 . subst e;simp
 . have h:¬(Sum.inl a:Key)=Sum.inl b:=fun q=>e (Sum.inl.inj q);rw[decide_eq_false h];exact(beq_eq_false_iff_ne.mpr e).symm
theorem key_rr (a b:Str):decide ((Sum.inr a:Key)=Sum.inr b)=decide (a=b):=by
 by_cases e:a=b
 . subst e;simp
 . have h:¬(Sum.inr a:Key)=Sum.inr b:=fun q=>e (Sum.inr.inj q);rw[decide_eq_false h,decide_eq_false e]
theorem key_lr (a:Int)(b:Str):decide ((Sum.inl a:Key)=Sum.inr b)=false:=decide_eq_false (fun q=>nomatch q)
theorem key_rl (a:Str)(b:Int):decide ((Sum.inr a:Key)=Sum.inl b)=false:=decide_eq_false (fun q=>nomatch q)
def bp (prog:Program)(w:World):PySem.KeyKind prog w Key where
 is:=g6
 hash:=keyH w
 inj:=fun v a b ha hb=>by
  rcases bq ha with⟨i,t,rfl,rfl⟩ | ⟨x,t,rfl,rfl⟩
  . rcases bq hb with⟨j,u,rfl,e⟩ | ⟨y,u,rfl,e⟩
    . injection e with e1 _;rw[e1]
    . exact nomatch e
  . rcases bq hb with⟨j,u,rfl,e⟩ | ⟨y,u,rfl,e⟩
    . exact nomatch e
    . injection e with e1 _;rw[e1]
 byValue:=fun k v h=>by
  rcases bq h with⟨i,t,rfl,rfl⟩ | ⟨x,t,rfl,rfl⟩<;>rfl
 pyHash:=fun hv h=>by
  rcases bq hv with⟨i,t,rfl,rfl⟩ | ⟨x,t,rfl,rfl⟩
  . exact wpAny_pyHash_int h
  . exact wpAny_pyHash_str h
 eqBool:=fun hu hv h=>by
  rcases bq hu with⟨i,t,rfl,rfl⟩ | ⟨x,t,rfl,rfl⟩
  . rcases bq hv with⟨j,u,rfl,rfl⟩ | ⟨y,u,rfl,rfl⟩
    . rw[ji]at h;exact wpAny_eqBool_int h
    . rw[key_lr]at h;exact SeqAt.EqAt.int_str i t y u _ _ _ _ h
  . rcases bq hv with⟨j,u,rfl,rfl⟩ | ⟨y,u,rfl,rfl⟩
    . rw[key_rl]at h;exact SeqAt.EqAt.str_int x t j u _ _ _ _ h
    . rw[key_rr]at h;exact wpAny_eqBool_str h
 «strs»:=fun k x t v h=>by
  rcases bq h with⟨i,u,rfl,e⟩ | ⟨y,u,rfl,e⟩
  . exact nomatch e
  . injection e with e1 _
    subst e1;cases v<;>rfl
theorem mixKind_int (prog:Program)(w:World)(i:Int)(t:Tok):(bp prog w).is (.inl i) (.int i t)=true:=keyIs_int i t
theorem mixKind_str (prog:Program)(w:World)(x:Str)(t:Tok):(bp prog w).is (.inr x) (.str x t)=true:=keyIs_str x t
end L2
namespace L2
open PySem PySem.Spec PyProof.Rows
inductive V where
 | non | bl (b:Bool) | int (i:Int) | str (x:Str) | byt (b:Array UInt8) | flt (b:UInt64) | ref (a:Addr) | ty (n:String)
 deriving DecidableEq
def RelV:V->Value->Prop
 | .non,u=>u=Value.none
 | .bl b,u=>u=Value.bool b
 | .int i,u=>∃t,u=Value.int i t
 | .str x,u=>∃t,u=Value.str x t
 | .byt b,u=>∃t,u=Value.bytes b t
 | .flt b,u=>∃t,u=Value.float b t
 | .ref a,u=>u=Value.ref a
 | .ty n,u=>u=Value.type n
abbrev Vals:List V->List Value->Prop:=Paired RelV
theorem Vals.length {xs:List V}{us:List Value}(r:Vals xs us):xs.length=us.length:=Paired.length r
theorem Vals.get:∀{xs:List V} {us:List Value} {i:Nat} {x:V},Vals xs us->xs[i]? = some x->∃u,us[i]? = some u/\RelV x u
 | _,_,_,_,.nil,e=>by simp at e
 | _,_,0,_,.cons r _,e=>by simp at e;subst e;exact⟨_,rfl,r⟩
 | _,_,i+1,x,.cons _ t,e=>by
  obtain⟨u,h1,h2⟩:=Vals.get (i:=i) (x:=x) t (by simpa using e)
  exact⟨u,by simpa using h1,h2⟩
theorem Vals.set {x:V}{u:Value}(r:RelV x u):∀{xs:List V} {us:List Value} (i:Nat),Vals xs us->Vals (xs.set i x) (us.set i u)
 | _,_,_,.nil=>.nil
 | _,_,0,.cons _ t=>.cons r t
 | _,_,i+1,.cons q t=>.cons q (Vals.set r i t)
theorem Vals.append:∀{xs ys:List V} {us ws:List Value},Vals xs us->Vals ys ws->Vals (xs++ys) (us++ws)
 | _,_,_,_,.nil,s=>s
 | _,_,_,_,.cons r t,s=>.cons r (Vals.append t s)
theorem Vals.take:∀{xs:List V} {us:List Value} (n:Nat),Vals xs us->Vals (xs.take n) (us.take n)
 | _,_,0,_=>.nil
 | _,_,_+1,.nil=>.nil
 | _,_,n+1,.cons r t=>.cons r (Vals.take n t)
theorem Vals.drop:∀{xs:List V} {us:List Value} (n:Nat),Vals xs us->Vals (xs.drop n) (us.drop n)
 | _,_,0,r=>r
 | _,_,_+1,.nil=>.nil
 | _,_,n+1,.cons _ t=>Vals.drop n t
def RelO:Option V->Option Value->Prop
 | some v,some u=>RelV v u
 | none,none=>True
 | _,_=>False
def KV {κ:Type}:List (κ×V)->List (κ×Value)->Prop:=Paired fun(p:κ×V) (q:κ×Value)=>p.1=q.1/\RelV p.2 q.2
def kV:Key->V
 | .inl i=>.int i
 | .inr x=>.str x
inductive HO where
 | lst (xs:List V)
 | tup (xs:List V)
 | dK (kvs:List (Key×V)) | dT (kvs:List (List Key×V))
 | set (S:Int->Bool) (n:Nat)
 | ins (C dx:Addr) (fs:List (Str×V))
 | own (x:Addr)
 | xd (fs:List (Str×V))
 | met (f x:Addr)
 | rng (lo hi:Int)
 | frz (o:Obj) (u:HO)
 | tbl (ps:Array Value)
 | cod (q:Str)
 | ext (φ:Heap->Prop)
def Per:HO->Prop
 | .tup _=>True
 | .cod _=>True
 | _=>False
def qOf (qs:Array Value):Str:=match (qs[0]?:Option Value)with
 | some (.str q _)=>q
 | _=>""
abbrev Hp:=Addr->Option HO
def upd (H:Hp)(a:Addr)(o:HO):Hp:=fun b=>if b=a then some o else H b
theorem a9 {H:Hp}{a:Addr}{o:HO}:upd H a o a=some o:=by unfold upd;rw[if_pos rfl]
theorem ae {H:Hp}{a b:Addr}{o:HO}(h:b≠a):upd H a o b=H b:=by unfold upd;rw[if_neg h]
theorem jh {H:Hp}{a b:Addr}{o u:HO}(h:H a=some o)(h':H b=some u)(d:o≠u):a≠b:=by
 intro e;subst e;rw[h]at h';exact d (Option.some.inj h')
theorem af {H:Hp}{a b:Addr}{o:HO}(h:H a=some o)(h':H b=none):a≠b:=by
 intro e;subst e;rw[h]at h';cases h'
section
variable (P:Program)(w:World)
def ObjOk (H:Hp)(h:Heap)(a:Addr):HO->Prop
 | .lst xs=>xs.length≤sizeLine/\∃(its:List Value) (n:Nat),Vals xs its/\h.get? a=some { cls:=.type "list",data:=.seq its.toArray n }
 | .tup xs=>xs.length≤sizeLine/\∃its:List Value,Vals xs its/\IsTup h a its.toArray
 | .dK kvs=>kvs.length≤sizeLine/\(a == sysModules)=false/\∃vs,KV kvs vs/\h.DictOf (bp P w) a vs
 | .dT kvs=>kvs.length≤sizeLine/\(a == sysModules)=false/\∃xs:List (List Key×Addr×Value),
  Paired (fun(p:List Key×V) (q:List Key×Addr×Value)=>p.1=q.1/\H q.2.1=some (.tup (p.1.map kV))/\RelV p.2 q.2.2) kvs xs ∧
  ∃o es ep,h.get? a=some o/\o.ExactDict/\o.data = .dict es ep/\es.toList=xs.map (entryOfKey (tupleKind (bp P w)))/\(xs.map (·.1)).Nodup
 | .set S n=>h.SetOf (intKind P w) a S n
 | .ins C dx fs=>H dx=some (.own a)/\fs.length≤1000/\dx≠a/\h.get? a=some (PySem.W.instObj C dx) ∧
  ∃mA,h.Ns1 dx mA/\(∀f,RelO (fs.lookup f) (mA f))/\PySem.Within mA (fs.map (·.1))
 | .own _=>∃o,h.get? a=some o
 | .xd fs=>∃mA,h.Ns1 a mA/\∀f,RelO (fs.lookup f) (mA f)
 | .rng lo hi=>∃t u v,h.get? a=some { cls:=.type "range",data:=.fields #[.int lo t,.int hi u,.int 1 v] }
 | .frz o u=>h.get? a=some o/\ObjOk H h a u
 | .tbl qs=>∃ps:Array Value,h.get? a=some { cls:=.none,data:=.fields ps }/\TriplesOk ps.toList/\∀(pos:Pos) (cv:Value),codeAmong pos ps.toList=some cv->∃c,cv = .ref c/\H c=some (.cod (qOf qs))
 | .cod q=>h.CodeRec (.ref a) q
 | .met f x=>h.get? a=some (PySem.W.methodObj (.ref f) (.ref x))
 | .ext φ=>φ h/\(∃o,h.get? a=some o)/\∀h1 h2:Heap,φ h1->(∀o,h1.get? a=some o->h2.get? a=some o)->φ h2
def HOk (H:Hp)(h:Heap):Prop:=∀a o,H a=some o->ObjOk P w H h a o
end
section
variable {P:Program}{w:World}{H H':Hp}{h h':Heap}{a:Addr}{o:HO}
theorem ObjOk.lt (x:ObjOk P w H h a o):a < h.objs.size:=by
 cases o with
 | lst xs=>obtain⟨_,_,_,_,e⟩:=x;exact Heap.lt_size e
 | tup xs=>obtain⟨_,_,_,p⟩:=x;exact p.lt
 | dK kvs=>obtain⟨_,_,_,_,o,_,_,e,_⟩:=x;exact Heap.lt_size e
 | dT kvs=>obtain⟨_,_,_,_,o,_,_,e,_⟩:=x;exact Heap.lt_size e
 | set S n=>obtain⟨o,_,_,_,e,_⟩:=x;exact Heap.lt_size e
 | ins C dx fs=>obtain⟨_,_,_,e,_⟩:=x;exact Heap.lt_size e
 | own y=>obtain⟨_,e⟩:=x;exact Heap.lt_size e
 | xd fs=>obtain⟨_,⟨_,_,_,e,_⟩,_⟩:=x;exact Heap.lt_size e
 | rng lo hi=>obtain⟨_,_,_,e⟩:=x;exact Heap.lt_size e
 | frz ob u=>obtain⟨e,_⟩:=x;exact Heap.lt_size e
 | tbl ps=>obtain⟨_,e,_⟩:=x;exact Heap.lt_size e
 | cod q=>obtain⟨_,_,_,_,e0,e,_⟩:=x;cases e0;exact Heap.lt_size e
 | met f y=>exact Heap.lt_size (show h.get? a=some _ from x)
 | ext φ=>obtain⟨_,⟨_,e⟩,_⟩:=x;exact Heap.lt_size e
theorem Paired.mapP {α β:Type}{F G:α->β->Prop}:∀{l₁:List α} {l₂:List β},Paired F l₁ l₂->(∀a b,F a b->G a b)->Paired G l₁ l₂
 | _,_,.nil,_=>.nil
 | _,_,.cons r t,f=>.cons (f _ _ r) (Paired.mapP t f)
theorem ObjOk.stay (x:ObjOk P w H h a o)(k:∀b u,(b=a∨H b=some (.own a))->h.get? b=some u->h'.get? b=some u)(ho:∀b,H b=some (.own a)->H' b=some (.own a))(ht:∀b u,Per u->H b=some u->H' b=some u):ObjOk P w H' h' a o:=by
 induction o with
 | lst xs=>obtain⟨z,its,n,r,e⟩:=x;exact⟨z,its,n,r,k _ _ (.inl rfl) e⟩
 | tup xs=>obtain⟨z,its,r,ob,e,c⟩:=x;exact⟨z,its,r,ob,k _ _ (.inl rfl) e,c⟩
 | dK kvs=>obtain⟨z,y,vs,r,ob,es,ep,e,c⟩:=x;exact⟨z,y,vs,r,ob,es,ep,k _ _ (.inl rfl) e,c⟩
 | dT kvs =>
  obtain⟨z,y,xs,r,ob,es,ep,e,c⟩:=x;exact⟨z,y,xs,Paired.mapP r fun p q z=>⟨z.1,ht _ _ trivial z.2.1,z.2.2⟩,ob,es,ep,k _ _ (.inl rfl) e,c⟩
 | set S n=>obtain⟨ob,es,ep,t,e,c⟩:=x;exact⟨ob,es,ep,t,k _ _ (.inl rfl) e,c⟩
 | ins C dx fs =>
  obtain⟨d,z,ne,e,mA,⟨od,es,ep,e2,c⟩,r⟩:=x;exact⟨ho _ d,z,ne,k _ _ (.inl rfl) e,mA,⟨od,es,ep,k _ _ (.inr d) e2,c⟩,r⟩
 | own y=>obtain⟨ob,e⟩:=x;exact⟨ob,k _ _ (.inl rfl) e⟩
 | xd fs=>obtain⟨mA,⟨od,es,ep,e,c⟩,r⟩:=x;exact⟨mA,⟨od,es,ep,k _ _ (.inl rfl) e,c⟩,r⟩
 | rng lo hi=>obtain⟨t,u,v,e⟩:=x;exact⟨t,u,v,k _ _ (.inl rfl) e⟩
 | frz ob u ih=>obtain⟨e,q⟩:=x;exact⟨k _ _ (.inl rfl) e,ih q⟩
 | tbl qs =>
  obtain⟨ps,e,tr,f⟩:=x;exact⟨ps,k a _ (.inl rfl) e,tr,fun pos cv hc=>let ⟨c,e1,e2⟩:=f pos cv hc;⟨c,e1,ht _ _ trivial e2⟩⟩
 | cod q =>
  obtain⟨c,oc,vs,tq,e0,e,r⟩:=x;cases e0;exact⟨a,oc,vs,tq,rfl,k a _ (.inl rfl) e,r⟩
 | met f y =>
  have e:h.get? a=some (PySem.W.methodObj (.ref f) (.ref y)):=x;show h'.get? a=some (PySem.W.methodObj (.ref f) (.ref y));exact k a _ (.inl rfl) e
 | ext φ=>obtain⟨p,⟨o,e⟩,st⟩:=x;exact⟨st _ _ p fun o q=>k _ _ (.inl rfl) q,⟨o,k _ _ (.inl rfl) e⟩,st⟩
theorem HOk.lt (x:HOk P w H h)(e:H a=some o):a < h.objs.size:=(x a o e).lt
theorem HOk.fresh (x:HOk P w H h)(e:h.objs.size≤a):H a=none:=by
 cases q:H a with
 | none=>rfl
 | some u=>exact absurd (Nat.lt_of_lt_of_le (x.lt q) e) (Nat.lt_irrefl _)
theorem HOk.kept (x:HOk P w H h)(k:∀b u,h.get? b=some u->h'.get? b=some u):HOk P w H h':=fun a o e =>
 (x a o e).stay (fun b u _ q=>k b u q) (fun _ q=>q) fun _ _ _ q=>q
theorem HOk.laid (x:HOk P w H h)(k:∀b u,h.get? b=some u->h'.get? b=some u)(hp:h.objs.size≤a)(new:ObjOk P w (upd H a o) h' a o):HOk P w (upd H a o) h':=fun b u e=>by
 have hn:=x.fresh hp;by_cases hb:b=a
 . subst hb;rw[a9]at e;cases e;exact new
 . rw[ae hb]at e;exact(x b u e).stay (fun c v _ q=>k c v q) (fun c q=>by rw[ae (af q hn)];exact q) fun c xs _ q=>by rw[ae (af q hn)];exact q
end
def Rd (H:Hp)(a:Addr)(u:HO):Prop:=H a=some u∨∃o,H a=some (.frz o u)
theorem Rd.ok {P:Program}{w:World}{H:Hp}{h:Heap}{a:Addr}{u:HO}(r:Rd H a u)(x:HOk P w H h):ObjOk P w H h a u:=by
 rcases r with r | ⟨o,r⟩
 . exact x a u r
 . obtain⟨_,q⟩:=x a _ r;exact q
def Mut:Option HO->Prop
 | some (.lst _)=>True
 | some (.dK _)=>True
 | some (.dT _)=>True
 | some (.set _ _)=>True
 | some (.ins _ _ _)=>True
 | some (.ext _)=>True
 | _=>False
section
variable {P:Program}{w:World}{H:Hp}{h h':Heap}{x e:Addr}{o':HO}
theorem HOk.write (ok:HOk P w H h)(mu:Mut (H x))(he:e=x∨H e=some (.own x))(k:∀b u,b≠e->h.get? b=some u->h'.get? b=some u)(heo:∃u,h'.get? e=some u)(new:ObjOk P w (upd H x o') h' x o'):HOk P w (upd H x o') h':=fun b u q=>by
 have nown:∀c y,H c=some (.own y)->c≠x:=fun c y r z=>by subst z;rw[r]at mu;exact mu
 have ntup:∀c xs,H c=some (.tup xs)->c≠x:=fun c xs r z=>by subst z;rw[r]at mu;exact mu
 have nper:∀c u,Per u->H c=some u->c≠x:=fun c u pu r z=>by
  subst z;rw[r]at mu;cases u<;>first | exact mu | exact pu
 by_cases hb:b=x
 . subst hb;rw[a9]at q;cases q;exact new
 . rw[ae hb]at q;by_cases hbe:b=e
   . have q':H b=some (.own x):=by
      rcases he with z | z
      . exact absurd (hbe.trans z) hb
      . rw[hbe];exact z
     rw[q]at q';cases q';obtain⟨v,hv⟩:=heo;exact⟨v,by rw[hbe];exact hv⟩
   . refine(ok b u q).stay (fun c v hc r=>k c v ?_ r) (fun c r=>by rw[ae (nown c b r)];exact r) fun c u pu r=>by rw[ae (nper c u pu r)];exact r
     rcases hc with rfl | hc
     . exact hbe
     . rintro rfl;rcases he with z | z
       . exact nown c b hc z
       . rw[hc]at z;cases z;exact hb rfl
end
structure Un (fs ex:List Addr) (H H':Hp) (h h':Heap):Prop where
 keep:∀b o,h.get? b=some o->H b=none->b∉fs->b∉ex->h'.get? b=some o
 slot:∀b o,h.get? b=some o->H b=none->b∈fs->b∉ex->∃sl,h'.get? b=some { o with slots:=sl }
 free:∀b o,h.get? b=some o->H b=none->b∉ex->H' b=none
 there:∀b o,h.get? b=some o->b∉ex->∃o',h'.get? b=some o'
 tups:∀b xs,H b=some (.tup xs)->H' b=some (.tup xs)
 frzs:∀b o u,H b=some (.frz o u)->H' b=some (.frz o u)
 tbls:∀b ps,H b=some (.tbl ps)->∃more,H' b=some (.tbl (ps++more))
section
variable {fs fs' ex ex':List Addr}{H H1 H2:Hp}{h h1 h2 h':Heap}{a x e:Addr}{o:HO}
theorem Un.any (u:Un fs ex H H1 h h1){b:Addr}{ob:Obj}(q:h.get? b=some ob)(n:H b=none)(hx:b∉ex):∃sl,h1.get? b=some { ob with slots:=sl }:=by
 by_cases hb:b∈fs
 . exact u.slot b ob q n hb hx
 . exact⟨ob.slots,u.keep b ob q n hb hx⟩
theorem Un.kept (k:∀b u,h.get? b=some u->h'.get? b=some u):Un fs ex H H h h':=
 ⟨fun b ob q _ _ _=>k b ob q,fun b ob q _ _ _=>⟨ob.slots,k b ob q⟩,fun _ _ _ n _=>n,fun b ob q _=>⟨ob,k b ob q⟩,fun _ _ q=>q,fun _ _ _ q=>q,fun _ ps q=>⟨#[],by rw[q];simp⟩⟩
theorem Un.refl:Un fs ex H H h h:=Un.kept fun _ _ q=>q
theorem Un.laid (k:∀b u,h.get? b=some u->h'.get? b=some u)(hp:h.objs.size≤a)(hn:H a=none):Un fs ex H (upd H a o) h h' where
 keep:=fun b u q _ _ _=>k b u q
 slot:=fun b u q _ _ _=>⟨u.slots,k b u q⟩
 free:=fun b u q n _=>by rw[ae (Nat.ne_of_lt (Nat.lt_of_lt_of_le (Heap.lt_size q) hp))];exact n
 there:=fun b u q _=>⟨u,k b u q⟩
 tups:=fun b xs q=>by rw[ae (af q hn)];exact q
 frzs:=fun b u xs q=>by rw[ae (af q hn)];exact q
 tbls:=fun b ps q=>⟨#[],by rw[ae (af q hn),q];simp⟩
theorem Un.write (mu:Mut (H x))(he:e=x∨H e=some (.own x))(k:∀b u,b≠e->h.get? b=some u->h'.get? b=some u)(heo:∃u,h'.get? e=some u):Un fs ex H (upd H x o) h h':=by
 have hx:∀b,H b=none->b≠x:=fun b n z=>by subst z;rw[n]at mu;exact mu
 have hb:∀b,H b=none->b≠e:=fun b n z=>by
  subst z;rcases he with r | r
  . exact hx b n r
  . rw[n]at r;cases r
 have hm:∀b u,H b=some u->¬Mut (some u)->b≠x:=fun b u q nm z=>by subst z;rw[q]at mu;exact nm mu
 refine⟨fun b u q n _ _=>k b u (hb b n) q,fun b u q n _ _=>⟨u.slots,k b u (hb b n) q⟩,fun b u q n _=>by rw[ae (hx b n)];exact n,fun b u q _=>?_,
  fun b xs q=>by rw[ae (hm b _ q fun z=>z)];exact q,fun b u xs q=>by rw[ae (hm b _ q fun z=>z)];exact q,fun b ps q=>⟨#[],by rw[ae (hm b _ q fun z=>z),q];simp⟩⟩
 by_cases hbe:b=e
 . subst hbe;exact heo
 . exact⟨u,k b u hbe q⟩
end
def trk (h:Heap)(H:Hp):List Addr:=(List.range h.objs.size).filter fun a=>(H a).isSome
def hidT (h:Heap)(H:Hp):Heap:=PySem.W.hideAll h (trk h H)
theorem hidT_size (h:Heap)(H:Hp):(hidT h H).objs.size=h.objs.size:=PySem.W.hideAll_size _ _
theorem hidT_get {h:Heap}{H:Hp}{b:Addr}{o:Obj}(e:h.get? b=some o)(n:H b=none):(hidT h H).get? b=some o:=
 PySem.W.hideAll_get _ e fun hm=>by
  have q:(H b).isSome=true:=(List.mem_filter.mp hm).2;rw[n]at q;simp at q
theorem of_hidT {h:Heap}{H:Hp}{b:Addr}{o:Obj}(e:(hidT h H).get? b=some o):h.get? b=some o/\H b=none:=by
 have e':h.get? b=some o:=PySem.W.of_hideAll (trk h H) e;refine⟨e',?_⟩;cases q:H b with
 | none=>rfl
 | some x =>
  have hm:b∈trk h H:=List.mem_filter.mpr ⟨List.mem_range.mpr (Heap.lt_size e'),by simp[q]⟩
  have z:(hidT h H).get? b=none:=PySem.W.hideAll_none (trk h H) hm;rw[z]at e;cases e
end L2
namespace L2
open PySem PySem.Spec PyProof.Rows
structure Mod (K:PySem.W.Frag) (mg:Str->Option Value) (base:Heap):Prop where
 kin:K.In base
 glob:base.Ns mainGlobals mg
 blt:∃mb,base.Ns builtinsNs mb/\∀x:Str,x ≠ "__name__"->mb x=bootBuiltins x
 nolimit:base.NoLimit
 bmain:∃bm ob,mg "__builtins__" = some (.ref bm)/\bm≠builtinsNs/\base.get? bm=some ob/\ob.cls = .type "module"/\ob.dict=some builtinsNs/\ob.data = .plain
structure Cx where
 prog:Program
 w:World
 K:PySem.W.Frag
 mg:Str->Option Value
 base:Heap
 A:Around
 N:List Str
 s₀:Shared
 H₀:Hp
 env:Env
 outer:List Env
 stack:List Env
 ex:List Addr
 fn:Str->Bool
 calm:Bool
 pn:List (Addr×Obj)
 xe:Value->Shared->Prop
def frs (l:List Env):List Addr:=l.filterMap (·.frame)
abbrev Cx.fs (X:Cx):List Addr:=frs X.outer
def Vis (sc:Scope)(x:Str):Prop:=sc.names.lookup x=some .local∨sc.names.lookup x=some .cell∨sc.names.lookup x=some .free
def Loc (sc:Scope)(x:Str):Prop:=sc.names.lookup x=some .local∨sc.names.lookup x=some .cell
def Look (env:Env)(h:Heap)(m:Str->Option Value)(x:Str)(u:Value):Prop:=
 (env.kindOf x=some .local/\m x=some u)∨((env.kindOf x=some .cell∨env.kindOf x=some .free)/\∃c,env.cells.lookup x=some c/\h.IsCell c (some u))
structure Cx.Ok (X:Cx):Prop where
 mod:Mod X.K X.mg X.base
 kind:X.env.scope.kind = .function
 glob:X.env.globals=mainGlobals
 blt:X.env.builtins=builtinsNs
 above:X.s₀.heap.objs.size≤X.env.locals
 inj:∀x y c,X.env.cells.lookup x=some c->X.env.cells.lookup y=some c->x=y
 has:∀x,(X.env.kindOf x=some .cell∨X.env.kindOf x=some .free)->∃c,X.env.cells.lookup x=some c
 cab:∀x c,X.fn x=true->X.env.cells.lookup x=some c->X.s₀.heap.objs.size≤c
 hd:X.calm=true->X.A.handled=none
 frames:X.A.frames=some X.stack
 stk:X.stack=X.outer∨(X.stack=X.env::X.outer/\X.env.frame=some X.env.locals)
 exf:∀b∈X.ex,b≠X.env.locals/\∀x c,X.env.cells.lookup x=some c->c≠b
 bs:∀b o,X.base.get? b=some o->X.s₀.heap.get? b=some o/\X.H₀ b=none
 bsz:X.base.objs.size≤X.s₀.heap.objs.size
 noex:∀b o,X.base.get? b=some o->b∉X.ex
 exfs:∀b∈X.ex,b∉X.fs
 funs:X.s₀.heap.FunFrames X.base X.outer
 frf:∀b∈X.fs,X.H₀ b=none
structure Inv (X:Cx) (pins:List (Addr×Obj)) (σ:List (Option V)) (H:Hp) (s:Shared):Prop where
 ok:X.Ok
 os:s.os=X.s₀.os
 bare:AllBare s.gens
 base:Un X.fs X.ex X.H₀ H X.s₀.heap s.heap
 loc:∃m,s.heap.Ns X.env.locals m/\∀(i:Nat) (x:Str) (v:V),X.N[i]? = some x->σ[i]? = some (some v)->Vis X.env.scope x->∃u,RelV v u/\Look X.env s.heap m x u
 cell:∀x c,X.env.cells.lookup x=some c->∃v,s.heap.IsCell c v
 free:H X.env.locals=none
 freeC:∀x c,X.env.cells.lookup x=some c->H c=none
 pin:∀p∈X.pn++pins,s.heap.get? p.1=some p.2/\H p.1=none/\p.1≠X.env.locals/\p.1∉X.fs/\∀v,p.2.data≠.cell v
 hok:HOk X.prog X.w H s.heap
 len:σ.length=X.N.length
section
variable {X:Cx}{pins:List (Addr×Obj)}{σ:List (Option V)}{H H':Hp}{s:Shared}{h':Heap}
theorem Cx.Ok.nofr (ok:X.Ok){b:Addr}{o:Obj}(e:X.base.get? b=some o):b∉X.fs:=fun hb=>by
 have:=(ok.funs.mem hb).1;rw[e]at this;cases this
theorem Inv.bs (I:Inv X pins σ H s):∀b o,X.base.get? b=some o->s.heap.get? b=some o/\H b=none:=fun b o e =>
 ⟨I.base.keep b o (I.ok.bs b o e).1 (I.ok.bs b o e).2 (I.ok.nofr e) (I.ok.noex b o e),I.base.free b o (I.ok.bs b o e).1 (I.ok.bs b o e).2 (I.ok.noex b o e)⟩
theorem Inv.bk (I:Inv X pins σ H s):∀b o,X.base.get? b=some o->s.heap.get? b=some o:=fun b o e=>(I.bs b o e).1
theorem Inv.mod (I:Inv X pins σ H s):Mod X.K X.mg X.base:=I.ok.mod
theorem Inv.kIn (I:Inv X pins σ H s):X.K.In s.heap:=I.ok.mod.kin.keeps I.bk
theorem Inv.lt (I:Inv X pins σ H s):X.env.locals < s.heap.objs.size:=let ⟨_,hn,_⟩:=I.loc;hn.lt
theorem Inv.sz (I:Inv X pins σ H s):X.s₀.heap.objs.size≤s.heap.objs.size:=Nat.le_trans I.ok.above (Nat.le_of_lt I.lt)
theorem Inv.nofs (I:Inv X pins σ H s){a:Addr}(h:s.heap.objs.size≤a):a∉X.fs:=fun hb=>by
 obtain⟨_,o,ho,_⟩:=I.ok.funs.mem hb;exact absurd (Nat.lt_of_lt_of_le (Heap.lt_size ho) (Nat.le_trans I.sz h)) (Nat.lt_irrefl _)
theorem Inv.cne (I:Inv X pins σ H s):∀x c,X.env.cells.lookup x=some c->c≠X.env.locals:=fun x c e z=>by
 obtain⟨v,o,ho,hd⟩:=I.cell x c e;obtain⟨m,⟨o',es,ep,ho',hd',_⟩,_⟩:=I.loc;rw[z,ho']at ho;cases ho;rw[hd']at hd;cases hd
theorem Inv.funs (I:Inv X pins σ H s):s.heap.FunFrames X.base X.outer:=by
 have all:∀(l:List Env),(∀b∈frs l,b∈X.fs)->X.s₀.heap.FunFrames X.base l->s.heap.FunFrames X.base l:=by
  intro l
  induction l with
  | nil=>intro _ _;trivial
  | cons env r ih =>
   intro hs hl;obtain⟨hk,⟨L,o,hf,hn,ho,hd⟩,hr⟩:=hl;have hL:L∈X.fs:=hs L (by unfold frs;rw[List.filterMap_cons,hf];exact List.mem_cons_self)
   obtain⟨sl,e⟩:=I.base.slot L o ho (I.ok.frf L hL) hL fun z=>I.ok.exfs L z hL;exact⟨hk,⟨L,_,hf,hn,e,hd⟩,ih (fun b hb=>hs b (by unfold frs;rw[List.filterMap_cons,hf];exact List.mem_cons_of_mem _ hb)) hr⟩
 exact all X.outer (fun _ hb=>hb) I.ok.funs
theorem Inv.stack (I:Inv X pins σ H s):s.heap.FunFrames X.base X.stack:=by
 rcases I.ok.stk with e | ⟨e,hf⟩
 . rw[e];exact I.funs
 . rw[e];obtain⟨m,hn,_⟩:=I.loc;refine .cons (by rw[I.ok.kind];decide) hf hn ?_ I.funs
   exact Heap.get?_none_of_le (Nat.le_trans I.ok.bsz I.ok.above)
theorem Inv.stkSub (I:Inv X pins σ H s):∀b∈frs X.stack,b∈X.env.locals::X.fs:=fun b hb=>by
 rcases I.ok.stk with e | ⟨e,hf⟩
 . rw[e]at hb;exact List.mem_cons_of_mem _ hb
 . rw[e]at hb;unfold frs at hb;rw[List.filterMap_cons,hf]at hb;exact hb
theorem Inv.stkFree (I:Inv X pins σ H s):∀b∈frs X.stack,H b=none:=fun b hb=>by
 rcases List.mem_cons.mp (I.stkSub b hb)with e | hb
 . rw[e];exact I.free
 . obtain⟨_,o,ho,_⟩:=I.ok.funs.mem hb;exact I.base.free b o ho (I.ok.frf b hb) fun z=>I.ok.exfs b z hb
theorem Inv.step {g':Array GenState}{t':Nat}{d':Drawn}{ch:List Addr}(I:Inv X pins σ H s)(hch:∀b∈ch,(b∈X.ex∨X.s₀.heap.objs.size≤b)/\b≠X.env.locals/\(∀x c,X.env.cells.lookup x=some c->c≠b)/\∀p∈X.pn++pins,p.1≠b)(keep:∀b o,b≠X.env.locals->b∉X.fs->b∉ch->s.heap.get? b=some o->H b=none->h'.get? b=some o)(slot:∀b o,b≠X.env.locals->b∈X.fs->b∉ch->s.heap.get? b=some o->H b=none->∃sl,h'.get? b=some { o with slots:=sl })(free:∀b o,b∉ch->s.heap.get? b=some o->H b=none->H' b=none)
 (there:∀b o,b∉ch->s.heap.get? b=some o->∃o',h'.get? b=some o')
 (tups:∀b xs,H b=some (.tup xs)->H' b=some (.tup xs)) (frzs:∀b o u,H b=some (.frz o u)->H' b=some (.frz o u)) (tbls:∀b ps,H b=some (.tbl ps)->∃more,H' b=some (.tbl (ps++more)))
 (ns:∀m,s.heap.Ns X.env.locals m->h'.Ns X.env.locals m) (hok:HOk X.prog X.w H' h') (hg:AllBare g') :
 Inv X pins σ H' { s with heap:=h',gens:=g',drawn:=d',toks:=t' }:=by
 have neL:∀b o,X.s₀.heap.get? b=some o->b≠X.env.locals:=fun b o e=>Nat.ne_of_lt (Nat.lt_of_lt_of_le (Heap.lt_size e) I.ok.above);have neC:∀b o,X.s₀.heap.get? b=some o->b∉X.ex->b∉ch:=fun b o e hx hb=>by
  rcases(hch b hb).1 with z | z
  . exact hx z
  . exact absurd (Nat.lt_of_lt_of_le (Heap.lt_size e) z) (Nat.lt_irrefl _)
 have cellK:∀x c,X.env.cells.lookup x=some c->∀v,s.heap.IsCell c v->h'.IsCell c v:=fun x c e v ⟨o,ho,hd⟩=>by
  have nch:c∉ch:=fun z=>(hch c z).2.2.1 x c e rfl;by_cases hc:c∈X.fs
  . obtain⟨sl,q⟩:=slot c o (I.cne x c e) hc nch ho (I.freeC x c e);exact⟨_,q,hd⟩
  . exact⟨o,keep c o (I.cne x c e) hc nch ho (I.freeC x c e),hd⟩
 refine⟨I.ok,I.os,hg,⟨fun b o e n hb hx=>?_,fun b o e n hb hx=>?_,fun b o e n hx=>?_,fun b o e hx=>?_,fun b xs e=>tups b xs (I.base.tups b xs e),fun b o xs e=>frzs b o xs (I.base.frzs b o xs e),fun b ps e=>?_⟩,?_,fun x c e=>?_,?_,fun x c e=>?_,fun p hp=>?_,hok,I.len⟩
 . exact keep b o (neL b o e) hb (neC b o e hx) (I.base.keep b o e n hb hx) (I.base.free b o e n hx)
 . obtain⟨sl,e1⟩:=I.base.slot b o e n hb hx;obtain⟨sl',e2⟩:=slot b _ (neL b o e) hb (neC b o e hx) e1 (I.base.free b o e n hx);exact⟨sl',e2⟩
 . obtain⟨o',e1⟩:=I.base.there b o e hx;exact free b o' (neC b o e hx) e1 (I.base.free b o e n hx)
 . obtain⟨o',e1⟩:=I.base.there b o e hx;exact there b o' (neC b o e hx) e1
 . obtain⟨m1,e1⟩:=I.base.tbls b ps e;obtain⟨m2,e2⟩:=tbls b _ e1;exact⟨m1++m2,by rw[e2,Array.append_assoc]⟩
 . obtain⟨m,hn,hl⟩:=I.loc;refine⟨m,ns m hn,fun i x v e1 e2 e3=>?_⟩;obtain⟨u,r,l⟩:=hl i x v e1 e2 e3;refine⟨u,r,?_⟩;rcases l with l | ⟨k,c,e,z⟩
   . exact .inl l
   . exact .inr ⟨k,c,e,cellK x c e _ z⟩
 . obtain⟨v,z⟩:=I.cell x c e;exact⟨v,cellK x c e v z⟩
 . obtain⟨m,⟨o,_,_,ho,_⟩,_⟩:=I.loc;exact free _ o (fun z=>(hch _ z).2.1 rfl) ho I.free
 . obtain⟨v,o,ho,hd⟩:=I.cell x c e;exact free c o (fun z=>(hch c z).2.2.1 x c e rfl) ho (I.freeC x c e)
 . obtain⟨e,n,ne,nf,d⟩:=I.pin p hp;have nch:p.1∉ch:=fun z=>(hch p.1 z).2.2.2 p hp rfl;exact⟨keep p.1 p.2 ne nf nch e n,free p.1 p.2 nch e n,ne,nf,d⟩
theorem Inv.un {t':Nat}(I:Inv X pins σ H s)(u:Un X.fs [] H H' s.heap h')(hok:HOk X.prog X.w H' h'):Inv X pins σ H' { s with heap:=h',toks:=t' }:=by
 obtain⟨m,⟨o,es,ep,ho,r⟩,_⟩:=id I.loc;obtain⟨sl,hL⟩:=u.any ho I.free (by simp)
 exact I.step (g':=s.gens) (d':=s.drawn) (ch:=[]) (fun _ z=>nomatch z) (fun b o _ hb _ e n=>u.keep b o e n hb (by simp)) (fun b o _ hb _ e n=>u.slot b o e n hb (by simp)) (fun b o _ e n=>u.free b o e n (by simp)) (fun b o _ e=>u.there b o e (by simp)) u.tups u.frzs u.tbls (fun m' hm=>by
  obtain⟨o',es',ep',ho',r'⟩:=hm;rw[ho]at ho';cases ho';exact⟨_,es',ep',hL,r'⟩) hok I.bare
theorem Inv.call {g':Array GenState}{t':Nat}{d':Drawn}{ch:List Addr}(I:Inv X pins σ H s)(u:Un (frs X.stack) ch H H' s.heap h')(hok:HOk X.prog X.w H' h')(hg:AllBare g')(hch:∀b∈ch,(b∈X.ex∨X.s₀.heap.objs.size≤b)/\b≠X.env.locals/\(∀x c,X.env.cells.lookup x=some c->c≠b)/\∀p∈X.pn++pins,p.1≠b):Inv X pins σ H' { s with heap:=h',gens:=g',drawn:=d',toks:=t' }:=by
 obtain⟨m,⟨o,es,ep,ho,r⟩,_⟩:=id I.loc;obtain⟨sl,hL⟩:=u.any ho I.free fun z=>(hch _ z).2.1 rfl;exact I.step (ch:=ch) hch (fun b o hL hb hc e n=>u.keep b o e n (fun z=>(List.mem_cons.mp (I.stkSub b z)).elim hL hb) hc) (fun b o _ _ hc e n=>u.any e n hc) (fun b o hc e n=>u.free b o e n hc) (fun b o hc e=>u.there b o e hc) u.tups u.frzs u.tbls (fun m' hm=>by
  obtain⟨o',es',ep',ho',r'⟩:=hm;rw[ho]at ho';cases ho';exact⟨_,es',ep',hL,r'⟩) hok hg
theorem Inv.turned {t':Nat}{it:Addr}(I:Inv X pins σ H s)(k:∀b o,b≠it->s.heap.get? b=some o->h'.get? b=some o)(hn:H it=none)(hL:it≠X.env.locals)(h1:it∈X.ex∨X.s₀.heap.objs.size≤it)(h2:∀x c,X.env.cells.lookup x=some c->c≠it)(h3:∀p∈X.pn++pins,p.1≠it):Inv X pins σ H { s with heap:=h',toks:=t' }:=by
 have nit:∀b u,H b=some u->b≠it:=fun b u e z=>by rw[z,hn]at e;cases e
 refine I.step (g':=s.gens) (d':=s.drawn) (ch:=[it]) (fun b hb=>?_) (fun b o _ _ hc e _=>k b o (fun z=>hc (by simp[z])) e) (fun b o _ _ hc e _=>⟨o.slots,k b o (fun z=>hc (by simp[z])) e⟩) (fun _ _ _ _ n=>n)
  (fun b o hc e=>⟨o,k b o (fun z=>hc (by simp[z])) e⟩) (fun _ _ e=>e) (fun _ _ _ e=>e) (fun b ps e=>⟨#[],by rw[e];simp⟩) (fun m hm=>?_) (fun b u e=>?_) I.bare
 . have e:b=it:=by simpa using hb
   subst e;exact⟨h1,hL,h2,h3⟩
 . obtain⟨o,es,ep,ho,r⟩:=hm;exact⟨o,es,ep,k _ o (Ne.symm hL) ho,r⟩
 . refine(I.hok b u e).stay (fun c v hc q=>k c v ?_ q) (fun _ q=>q) fun _ _ _ q=>q;rcases hc with z | z
   . rw[z];exact nit b u e
   . exact nit c _ z
theorem Inv.tok (I:Inv X pins σ H s)(t:Nat):Inv X pins σ H { s with toks:=t }:=I.un (h':=s.heap) (t':=t) Un.refl I.hok
theorem Inv.kept {t':Nat}(I:Inv X pins σ H s)(k:∀b u,s.heap.get? b=some u->h'.get? b=some u):Inv X pins σ H { s with heap:=h',toks:=t' }:=I.un (Un.kept k) (I.hok.kept k)
theorem Inv.laid {a:Addr}{o:HO}{t':Nat}(I:Inv X pins σ H s)(k:∀b u,s.heap.get? b=some u->h'.get? b=some u)(hp:s.heap.objs.size≤a)(new:ObjOk X.prog X.w (upd H a o) h' a o):Inv X pins σ (upd H a o) { s with heap:=h',toks:=t' }:=I.un (Un.laid k hp (I.hok.fresh hp)) (I.hok.laid k hp new)
theorem Inv.write {x e:Addr}{o:HO}{t':Nat}(I:Inv X pins σ H s)(mu:Mut (H x))(he:e=x∨H e=some (.own x))(k:∀b u,b≠e->s.heap.get? b=some u->h'.get? b=some u)(heo:∃u,h'.get? e=some u)(new:ObjOk X.prog X.w (upd H x o) h' x o):Inv X pins σ (upd H x o) { s with heap:=h',toks:=t' }:=I.un (Un.write mu he k heo) (I.hok.write mu he k heo new)
theorem Inv.weak {σ':List (Option V)}(I:Inv X pins σ H s)(hl:σ'.length=σ.length)(w:∀(i:Nat) v,σ'[i]? = some (some v)->σ[i]? = some (some v)):Inv X pins σ' H s:=
 ⟨I.ok,I.os,I.bare,I.base,let ⟨m,hn,hl'⟩:=I.loc;⟨m,hn,fun i x v e1 e2 e3=>hl' i x v e1 (w i v e2) e3⟩,I.cell,I.free,I.freeC,I.pin,I.hok,hl.trans I.len⟩
theorem Inv.pins_of {pins':List (Addr×Obj)}(I:Inv X pins σ H s)(h:∀p∈pins',s.heap.get? p.1=some p.2/\H p.1=none/\p.1≠X.env.locals/\p.1∉X.fs/\∀v,p.2.data≠.cell v):Inv X pins' σ H s:=
 ⟨I.ok,I.os,I.bare,I.base,I.loc,I.cell,I.free,I.freeC,fun p hp=>(List.mem_append.mp hp).elim (fun z=>I.pin p (List.mem_append_left _ z)) (h p),I.hok,I.len⟩
theorem hW {N:List Str}(hN:N.Nodup){i j:Nat}{x:Str}(a:N[i]? = some x)(b:N[j]? = some x):i=j:=by
 obtain⟨h1,e1⟩:=List.getElem?_eq_some_iff.mp a;obtain⟨h2,e2⟩:=List.getElem?_eq_some_iff.mp b;exact(List.getElem_inj hN).mp (e1.trans e2.symm)
theorem gj {M:Model}{A:Around}{E:Value->Shared->Prop}{i:Nat}{x:Str}{v:V}{u:Value}{Q:Unit->Shared->Prop}(I:Inv X pins σ H s)(hN:X.N.Nodup)(hi:X.N[i]? = some x)(hx:Loc X.env.scope x)(r:RelV v u)(h:∀s',Inv X pins (σ.set i (some v)) H s'->(∃a,Heap.SameBut a s.heap s'.heap/\(a=X.env.locals∨X.env.cells.lookup x=some a))->Q () s')(hf:X.fn x=true∨X.env.scope.names.lookup x=some .local:=by first | exact .inl rfl | exact .inr rfl | assumption):wpAny M A (storeName X.env x u) Q E s:=by
 obtain⟨m,hn,hl⟩:=id I.loc;have hcls:(X.env.scope.kind == .class||(X.env.scope.kind == .module&&X.env.locals != X.env.globals))=false:=by rw[I.ok.kind];rfl
 have hiσ:i < σ.length:=by rw[I.len];exact(List.getElem?_eq_some_iff.mp hi).1
 have cne:=I.cne;have tracked:∀{a:Addr} {h':Heap},(∃o,s.heap.get? a=some o/\H a=none)->Heap.SameBut a s.heap h'->HOk X.prog X.w H h':=fun{a h'} ha hs b ob e=>by
  obtain⟨_,_,hfree⟩:=ha;refine(I.hok b ob e).stay (fun c w' hc q=>(hs.2 c ?_).trans q) (fun _ q=>q) fun _ _ _ q=>q;rintro rfl;rcases hc with rfl | hc
  . rw[hfree]at e;cases e
  . rw[hfree]at hc;cases hc
 rcases hx with hk | hk
 . refine wpAny_storeName_local hk hn (fun h' hn' hs=>?_) hcls;obtain⟨oL,_,_,hoL,_⟩:=id hn;refine h _ ⟨I.ok,I.os,I.bare,⟨fun b o e n hb hx=>?_,fun b o e n hb hx=>?_,I.base.free,fun b o e hx=>?_,I.base.tups,I.base.frzs,I.base.tbls⟩,⟨_,hn',fun j y v' e1 e2 e3=>?_⟩,fun y c e=>?_,I.free,I.freeC,fun p hp=>?_,tracked ⟨oL,hoL,I.free⟩ hs,by simpa using I.len⟩ ⟨_,hs,.inl rfl⟩
   . exact(hs.2 b (Nat.ne_of_lt (Nat.lt_of_lt_of_le (Heap.lt_size e) I.ok.above))).trans (I.base.keep b o e n hb hx)
   . obtain⟨sl,e1⟩:=I.base.slot b o e n hb hx;exact⟨sl,(hs.2 b (Nat.ne_of_lt (Nat.lt_of_lt_of_le (Heap.lt_size e) I.ok.above))).trans e1⟩
   . obtain⟨o',e1⟩:=I.base.there b o e hx;exact⟨o',(hs.2 b (Nat.ne_of_lt (Nat.lt_of_lt_of_le (Heap.lt_size e) I.ok.above))).trans e1⟩
   . by_cases hj:j=i
     . subst hj;rw[hi]at e1;cases e1;rw[List.getElem?_set_self hiσ]at e2;cases e2;exact⟨u,r,.inl ⟨hk,by simp⟩⟩
     . rw[List.getElem?_set_ne (Ne.symm hj)]at e2;obtain⟨u',r',q⟩:=hl j y v' e1 e2 e3;refine⟨u',r',?_⟩;rcases q with⟨k,e⟩ | ⟨k,c,e,z⟩
       . refine .inl ⟨k,?_⟩;have:y≠x:=fun e=>hj (hW hN e1 (e▸hi));simp[this,e]
       . exact .inr ⟨k,c,e,z.sameBut hs (cne y c e)⟩
   . obtain⟨w',z⟩:=I.cell y c e;exact⟨w',z.sameBut hs (cne y c e)⟩
   . obtain⟨e,n,ne,nf,d⟩:=I.pin p hp;exact⟨(hs.2 p.1 ne).trans e,n,ne,nf,d⟩
 . have hfn:X.fn x=true:=by
    rcases hf with z | z
    . exact z
    . rw[z]at hk;cases hk
   obtain⟨c,hc⟩:=I.ok.has x (.inl hk);obtain⟨w',z⟩:=I.cell x c hc;refine wpAny_storeName_cell I.ok.kind hk hc z (fun h' hc' hs=>?_);obtain⟨oc,hoc,hocd⟩:=id z;refine h { s with heap:=h' } ⟨I.ok,I.os,I.bare,⟨fun b o e n hb hx=>?_,fun b o e n hb hx=>?_,I.base.free,fun b o e hx=>?_,I.base.tups,I.base.frzs,I.base.tbls⟩,⟨m,hn.sameBut hs (Ne.symm (cne x c hc)),fun j y v' e1 e2 e3=>?_⟩,fun y c' e=>?_,I.free,I.freeC,fun p hp=>?_,tracked ⟨oc,hoc,I.freeC x c hc⟩ hs,by simpa using I.len⟩ ⟨c,hs,.inr hc⟩
   . exact(hs.2 b (Nat.ne_of_lt (Nat.lt_of_lt_of_le (Heap.lt_size e) (I.ok.cab x c hfn hc)))).trans (I.base.keep b o e n hb hx)
   . obtain⟨sl,e1⟩:=I.base.slot b o e n hb hx;exact⟨sl,(hs.2 b (Nat.ne_of_lt (Nat.lt_of_lt_of_le (Heap.lt_size e) (I.ok.cab x c hfn hc)))).trans e1⟩
   . obtain⟨o',e1⟩:=I.base.there b o e hx;exact⟨o',(hs.2 b (Nat.ne_of_lt (Nat.lt_of_lt_of_le (Heap.lt_size e) (I.ok.cab x c hfn hc)))).trans e1⟩
   . by_cases hj:j=i
     . subst hj;rw[hi]at e1;cases e1;rw[List.getElem?_set_self hiσ]at e2;cases e2;exact⟨u,r,.inr ⟨.inl hk,c,hc,hc'⟩⟩
     . rw[List.getElem?_set_ne (Ne.symm hj)]at e2;obtain⟨u',r',q⟩:=hl j y v' e1 e2 e3;refine⟨u',r',?_⟩;rcases q with q | ⟨k,c',e,z'⟩
       . exact .inl q
       . refine .inr ⟨k,c',e,z'.sameBut hs ?_⟩;rintro rfl;exact hj (hW hN e1 (I.ok.inj _ _ _ e hc▸hi))
   . by_cases hcc:c'=c
     . subst hcc;exact⟨_,hc'⟩
     . obtain⟨w2,z2⟩:=I.cell y c' e;exact⟨w2,z2.sameBut hs hcc⟩
   . obtain⟨e,n,ne,nf,d⟩:=I.pin p hp;refine⟨(hs.2 p.1 ?_).trans e,n,ne,nf,d⟩;intro q;rw[q,hoc]at e;have q':oc=p.2:=Option.some.inj e;exact d w' (by rw[←q'];exact hocd)
theorem en {M:Model}{A:Around}{E:Value->Shared->Prop}{i:Nat}{x:Str}{v:V}{u:Value}{Q:Unit->Shared->Prop}(I:Inv X pins σ H s)(hN:X.N.Nodup)(hi:X.N[i]? = some x)(hx:Loc X.env.scope x)(r:RelV v u)(h:∀s',Inv X pins (σ.set i (some v)) H s'->Q () s')(hf:X.fn x=true∨X.env.scope.names.lookup x=some .local:=by first | exact .inl rfl | exact .inr rfl | assumption):wpAny M A (storeName X.env x u) Q E s:=
 gj I hN hi hx r (fun s' I' _=>h s' I') hf
theorem Inv.call' {s':Shared}{ch:List Addr}(I:Inv X pins σ H s)(ho:s'.os=s.os)(u:Un (frs X.stack) ch H H' s.heap s'.heap)(hok:HOk X.prog X.w H' s'.heap)(hg:AllBare s'.gens)(hch:∀b∈ch,(b∈X.ex∨X.s₀.heap.objs.size≤b)/\b≠X.env.locals/\(∀x c,X.env.cells.lookup x=some c->c≠b)/\∀p∈X.pn++pins,p.1≠b):Inv X pins σ H' s':=by
 obtain⟨h',g',d',t',o'⟩:=s';have e:o'=s.os:=ho;subst e;exact I.call (g':=g') (t':=t') (d':=d') u hok hg hch
end
abbrev XK:=Value->Option Addr->Hp->Prop
abbrev St:=List (Option V)
abbrev VK:=V->Hp->Prop
abbrev TE:=St->Hp->VK->Prop
abbrev TT:=St->Hp->(Bool->Hp->Prop)->Prop
abbrev TA:=St->Hp->(List V->Hp->Prop)->Prop
structure Ends where
 nx:St->Hp->Prop
 rt:VK
 bk:St->Hp->Prop:=fun _ _=>False
 ct:St->Hp->Prop:=fun _ _=>False
abbrev TS:=Ends->St->Hp->Prop
def EP (X:Cx)(pins:List (Addr×Obj))(σ:St)(Q:VK)(u:Value)(s':Shared):Prop:=∃v H',Inv X pins σ H' s'/\RelV v u/\Q v H'
def TP (X:Cx)(pins:List (Addr×Obj))(σ:St)(Q:Bool->Hp->Prop)(b:Bool)(s':Shared):Prop:=∃H',Inv X pins σ H' s'/\Q b H'
def AP (X:Cx)(pins:List (Addr×Obj))(σ:St)(Q:List V->Hp->Prop)(us:List Value)(s':Shared):Prop:=∃vs H',Inv X pins σ H' s'/\Vals vs us/\Q vs H'
def SP (X:Cx)(pins:List (Addr×Obj))(D:Ends)(f:Flow)(s':Shared):Prop:=
 match f with
 | .next=>∃σ' H',Inv X pins σ' H' s'/\D.nx σ' H'
 | .brk=>∃σ' H',Inv X pins σ' H' s'/\D.bk σ' H'
 | .cont=>∃σ' H',Inv X pins σ' H' s'/\D.ct σ' H'
 | .ret u=>∃v σ' H',Inv X pins σ' H' s'/\RelV v u/\D.rt v H'
def PE (X:Cx)(e:Expr)(t:TE):Prop:=
 ∀(pins:List (Addr×Obj)) (s:Shared) (σ:St) (H:Hp) (Q:VK),Inv X pins σ H s->t σ H Q->wpAny (model X.prog X.w) X.A (eval e X.env) (EP X pins σ Q) X.xe s
def PT (X:Cx)(e:Expr)(t:TT):Prop:=
 ∀(pins:List (Addr×Obj)) (s:Shared) (σ:St) (H:Hp) (Q:Bool->Hp->Prop),Inv X pins σ H s->t σ H Q->wpAny (model X.prog X.w) X.A (isTrue e X.env (eval e X.env)) (TP X pins σ Q) X.xe s
def PW (X:Cx)(e:Expr)(t:TT):Prop:=
 ∀(whole:Sem Value) (pins:List (Addr×Obj)) (s:Shared) (σ:St) (H:Hp) (Q:Bool->Hp->Prop),Inv X pins σ H s->t σ H Q->wpAny (model X.prog X.w) X.A (isTrue e X.env whole) (TP X pins σ Q) X.xe s
theorem PW.pt {X:Cx}{e:Expr}{t:TT}(h:PW X e t):PT X e t:=h _
def PA (X:Cx)(es:List Expr)(t:TA):Prop:=
 ∀(pos:Pos) (pins:List (Addr×Obj)) (s:Shared) (σ:St) (H:Hp) (Q:List V->Hp->Prop),Inv X pins σ H s->t σ H Q->wpAny (model X.prog X.w) X.A (spliced (backTo pos (starEach es X.env))) (AP X pins σ Q) X.xe s
def PS (X:Cx)(st:Stmt)(t:TS):Prop:=
 ∀(pins:List (Addr×Obj)) (s:Shared) (σ:St) (H:Hp) (D:Ends),Inv X pins σ H s->t D σ H->wpAny (model X.prog X.w) X.A (exec st X.env) (SP X pins D) X.xe s
def PSs (X:Cx)(st:List Stmt)(t:TS):Prop:=
 ∀(pins:List (Addr×Obj)) (s:Shared) (σ:St) (H:Hp) (D:Ends),Inv X pins σ H s->t D σ H->wpAny (model X.prog X.w) X.A (execs st X.env) (SP X pins D) X.xe s
theorem thn {α:Type}{t:Sem α}{Q Q':α->Shared->Prop}{M:Model}{A:Around}{E:Value->Shared->Prop}{s:Shared}(h:wpAny M A t Q E s)(hQ:∀a s,Q a s->Q' a s):wpAny M A t Q' E s:=wpAny_mono h hQ fun _ _ x=>x
end L2
namespace L2
open PySem PySem.Spec PyProof.Rows
section
variable {X:Cx}
def tVar (i:Nat):TE:=fun σ H Q=>∃v,σ[i]? = some (some v)/\Q v H
def tC (v:V):TE:=fun _ H Q=>Q v H
theorem pe_var {i:Nat}{x:Str}{pos:Pos}(hN:X.N[i]? = some x)(hv:Vis X.env.scope x)(hd:(x == ("__debug__" : Str))=false:=by decide)(hcd:(x == ("__classdict__" : Str))=false:=by decide):PE X (.Name x pos) (tVar i):=by
 intro pins s σ H Q I h;obtain⟨v,e,h⟩:=h;obtain⟨m,hn,hl⟩:=I.loc;obtain⟨u,r,l⟩:=hl i x v hN e hv;have fin:EP X pins σ Q u s:=⟨v,H,I,r,h⟩;rcases l with⟨hk,hm⟩ | ⟨hk,c,hc,hcell⟩
 . exact wpAny_Name (wpAny_loadName_local I.ok.kind hk hn hm fin) hd
 . rcases hk with hk | hk
   . exact wpAny_Name (wpAny_loadName_cell I.ok.kind hk hc hcell fin) hd
   . exact wpAny_Name (wpAny_loadName_free I.ok.kind hk hc hcell fin hcd) hd
theorem a3 {i j pos}:PE X (.Constant (.int i) j pos) (tC (.int i)):=fun _ _ _ H _ I h=>wpAny_Constant_int ⟨.int i,H,I.tok _,⟨_,rfl⟩,h⟩
theorem bO {b j pos}:PE X (.Constant (.bool b) j pos) (tC (.bl b)):=fun _ _ _ H _ I h=>Constant_bool ⟨.bl b,H,I,rfl,h⟩
def Gl (X:Cx)(x:Str):Prop:=X.env.kindOf x=some .globalImplicit
theorem ff {E:Value->Shared->Prop}{pins:List (Addr×Obj)}{s:Shared}{σ:St}{H:Hp}{x:Str}{u:Value}{pos:Pos}{Q:Value->Shared->Prop}(I:Inv X pins σ H s)(hg:Gl X x)(hm:X.mg x=some u)(h:Q u s)(hd:(x == ("__debug__" : Str))=false:=by decide):wpAny (model X.prog X.w) X.A (eval (.Name x pos) X.env) Q E s:=
 Calls.Name_function_global I.ok.kind hg (Calls.loadGlobal_global (by rw[I.ok.glob];exact I.mod.glob.keeps I.bk) hm h) hd
theorem ef {E:Value->Shared->Prop}{pins:List (Addr×Obj)}{s:Shared}{σ:St}{H:Hp}{x:Str}{u:Value}{pos:Pos}{Q:Value->Shared->Prop}(I:Inv X pins σ H s)(hg:Gl X x)(hm:X.mg x=none)(hv:bootBuiltins x=some u)(h:Q u s)(hn:x ≠ "__name__":=by decide)(hd:(x == ("__debug__" : Str))=false:=by decide):wpAny (model X.prog X.w) X.A (eval (.Name x pos) X.env) Q E s:=by
 obtain⟨mb,h1,h2⟩:=I.mod.blt;exact Calls.Name_function_global I.ok.kind hg (Calls.loadGlobal_builtin (by rw[I.ok.glob];exact I.mod.glob.keeps I.bk) hm (by rw[I.ok.blt];exact h1.keeps I.bk) ((h2 x hn).trans hv) h) hd
theorem pe_glob {x:Str}{v:V}{u:Value}{pos:Pos}(hg:Gl X x)(hm:X.mg x=some u)(r:RelV v u)(hd:(x == ("__debug__" : Str))=false:=by decide):PE X (.Name x pos) (tC v):=
 fun _ _ _ H _ I h=>ff I hg hm ⟨v,H,I,r,h⟩ hd
theorem gS {x:Str}{v:V}{u:Value}{pos:Pos}(hg:Gl X x)(hm:X.mg x=none)(hv:bootBuiltins x=some u)(r:RelV v u)(hn:x ≠ "__name__":=by decide)(hd:(x == ("__debug__" : Str))=false:=by decide):PE X (.Name x pos) (tC v):=
 fun _ _ _ H _ I h=>ef I hg hm hv ⟨v,H,I,r,h⟩ hn hd
variable {a b:Expr}{ta tb:TE}{pos:Pos}
def PC (X:Cx)(op:CmpOp)(a b:Expr)(t:TE):Prop:=
 ∀(pins:List (Addr×Obj)) (s:Shared) (σ:St) (H:Hp) (Q:VK),Inv X pins σ H s->t σ H Q →
  wpAny (model X.prog X.w) X.A (eval a X.env) (fun v s₁=>wpAny (model X.prog X.w) X.A (eval b X.env) (fun u s₂=>wpAny (model X.prog X.w) X.A (compareOp op v u) (EP X pins σ Q) X.xe s₂) X.xe s₁) X.xe s
def tB (t:TE):TT:=fun σ H Q=>t σ H fun x H1=>∃c,x = .bl c/\Q c H1
theorem pt_cmp {op:CmpOp}{t:TE}(h:PC X op a b t)(h1:behindInMarks op b=false:=by first | exact nobehind _ (by decide) (by decide) | rfl):PT X (.Compare a [op] [b] pos) (tB t):=by
 intro pins s σ H Q I hw;refine wpAny_isTrue_Compare1 (thn (h pins s σ H _ I hw) fun v s1 h1=>thn h1 fun u s2 h2=>thn h2 fun c s3 ⟨x,H1,I1,r1,q1⟩=>?_) h1;obtain⟨d,rfl,q⟩:=q1;cases r1;exact wpAny_truthy_bool ⟨H1,I1,q⟩
theorem cz {e:Expr}{t:TE}(h:PE X e t)(he:∀whole,isTrue e X.env whole=(do let v ←whole;standAt e.pos;holding [v] (truthy v)):=by intro _;rfl):PT X e (tB t):=by
 intro pins s σ H Q I hw;refine isTrue_plain (thn (h pins s σ H _ I hw) fun v s1 ⟨x,H1,I1,r1,q1⟩=>?_) (he _);obtain⟨d,rfl,q⟩:=q1;cases r1;exact wpAny_truthy_bool ⟨H1,I1,q⟩
variable {tA tB':TT}{rest:List Expr}
def tAnd (t u:TT):TT:=fun σ H Q=>t σ H fun c H1=>if c=true then u σ H1 Q else Q false H1
def tOr (t u:TT):TT:=fun σ H Q=>t σ H fun c H1=>if c=true then Q true H1 else u σ H1 Q
def tNot (t:TT):TT:=fun σ H Q=>t σ H fun c H1=>Q (!c) H1
theorem dF (ha:PT X a tA):PW X (.BoolOp .And [a] pos) tA:=by
 intro wh pins s σ H Q I h;refine isTrue_and (thn (ha pins s σ H Q I h) fun c s1 e=>?_);cases c with
 | true=>exact isTrue_and_nil e
 | false=>exact e
theorem ci (ha:PT X a tA):PW X (.BoolOp .Or [a] pos) tA:=by
 intro wh pins s σ H Q I h;refine isTrue_or (thn (ha pins s σ H Q I h) fun c s1 e=>?_);cases c with
 | false=>exact isTrue_or_nil e
 | true=>exact e
theorem eO (ha:PT X a tA)(hb:PW X (.BoolOp .And (b::rest) pos) tB'):PW X (.BoolOp .And (a::b::rest) pos) (tAnd tA tB'):=by
 intro wh pins s σ H Q I h;refine isTrue_and (thn (ha pins s σ H _ I h) fun c s1 ⟨H1,I1,q1⟩=>?_);cases c with
 | true=>exact hb wh pins s1 σ H1 Q I1 q1
 | false=>exact⟨H1,I1,q1⟩
theorem bN (ha:PT X a tA)(hb:PW X (.BoolOp .Or (b::rest) pos) tB'):PW X (.BoolOp .Or (a::b::rest) pos) (tOr tA tB'):=by
 intro wh pins s σ H Q I h;refine isTrue_or (thn (ha pins s σ H _ I h) fun c s1 ⟨H1,I1,q1⟩=>?_);cases c with
 | true=>exact⟨H1,I1,q1⟩
 | false=>exact hb wh pins s1 σ H1 Q I1 q1
theorem cG (ha:PT X a tA):PT X (.UnaryOp .Not a pos) (tNot tA):=by
 intro pins s σ H Q I h;exact isTrue_not (ha pins s σ H (fun c H1=>Q (!c) H1) I h)
def tAndV (ta tb:TE):TE:=fun σ H Q=>ta σ H fun x H1=>∃c,x = .bl c/\if c=true then tb σ H1 Q else Q (.bl false) H1
def tNotV (ta:TE):TE:=fun σ H Q=>ta σ H fun x H1=>∃c,x = .bl c/\Q (.bl (!c)) H1
theorem bA {op}{t:TE}(h:PE X a t):PE X (.BoolOp op [a] pos) t:=fun pins s σ H Q I hw=>BoolOp_one (h pins s σ H Q I hw)
theorem bc (ha:PE X a ta)(hb:PE X (.BoolOp .And (b::rest) pos) tb):PE X (.BoolOp .And (a::b::rest) pos) (tAndV ta tb):=by
 intro pins s σ H Q I h;refine BoolOp_and (thn (ha pins s σ H _ I h) fun v s1 ⟨x,H1,I1,r1,q1⟩=>?_);obtain⟨c,rfl,q1⟩:=q1;cases r1;refine wpAny_truthy_bool ?_;cases c with
 | true=>exact hb pins s1 σ H1 Q I1 q1
 | false=>exact⟨.bl false,H1,I1,rfl,q1⟩
theorem pe_not (ha:PE X a ta):PE X (.UnaryOp .Not a pos) (tNotV ta):=by
 intro pins s σ H Q I h;refine UnaryOp_ (thn (ha pins s σ H _ I h) fun v s1 ⟨x,H1,I1,r1,q1⟩=>?_);obtain⟨c,rfl,q1⟩:=q1;cases r1;exact not_of (wpAny_truthy_bool ⟨.bl (!c),H1,I1,rfl,q1⟩)
end
end L2
namespace L2
open PySem PySem.Spec PyProof.Rows
def SqL (K:PySem.W.Frag)(H:Hp)(a:Addr)(xs:List V):Prop:=
 Rd H a (.lst xs) ∨
  ∃(o:Obj) (its:Array Value) (n:Nat),K.lookup a=some o/\o.cls = .type "list"/\o.dict=none/\o.data = .seq its n/\its.size≤sizeLine/\Vals xs its.toList
def SqT (K:PySem.W.Frag)(H:Hp)(a:Addr)(xs:List V):Prop:=
 Rd H a (.tup xs) ∨
  ∃(o:Obj) (its:Array Value) (n:Nat),K.lookup a=some o/\o.cls = .type "tuple"/\o.data = .seq its n/\its.size≤sizeLine/\Vals xs its.toList
def absV:Value->Option V
 | .none=>some .non
 | .bool b=>some (.bl b)
 | .int i _=>some (.int i)
 | .str x _=>some (.str x)
 | .bytes b _=>some (.byt b)
 | .float b _=>some (.flt b)
 | .ref a=>some (.ref a)
 | .type n=>some (.ty n)
 | _=>none
theorem RelV.abs {x:V}{u:Value}(r:RelV x u):absV u=some x:=by
 cases x with
 | non=>cases r;rfl
 | bl _=>cases r;rfl
 | int _=>obtain⟨t,rfl⟩:=r;rfl
 | str _=>obtain⟨t,rfl⟩:=r;rfl
 | byt _=>obtain⟨t,rfl⟩:=r;rfl
 | flt _=>obtain⟨t,rfl⟩:=r;rfl
 | ref _=>cases r;rfl
 | ty _=>cases r;rfl
theorem RelV.inj {x y:V}{u:Value}(r:RelV x u)(q:RelV y u):x=y:=Option.some.inj (r.abs.symm.trans q.abs)
theorem Vals.inj:∀{xs ys:List V} {us:List Value},Vals xs us->Vals ys us->xs=ys
 | _,_,_,.nil,.nil=>rfl
 | _,_,_,.cons r t,.cons r' t'=>by rw[r.inj r',Vals.inj t t']
section
variable {X:Cx}{pins:List (Addr×Obj)}{σ:St}{H:Hp}{s:Shared}{a:Addr}{xs ys:List V}
theorem SqL.of {K:PySem.W.Frag}(h:H a=some (.lst xs)):SqL K H a xs:=.inl (.inl h)
theorem SqT.of {K:PySem.W.Frag}(h:H a=some (.tup xs)):SqT K H a xs:=.inl (.inl h)
theorem Inv.list (I:Inv X pins σ H s)(h:SqL X.K H a xs):∃its:List Value,Vals xs its/\PlainL s.heap a its.toArray/\xs.length≤sizeLine:=by
 rcases h with h | ⟨o,its,n,hk,hc,hd,hs,hz,r⟩
 . obtain⟨z,its,n,r,e⟩:=h.ok I.hok;exact⟨its,r,⟨_,n,e,rfl,rfl,rfl⟩,z⟩
 . refine⟨its.toList,r,⟨o,n,I.kIn a o hk,hc,hd,by simpa using hs⟩,?_⟩
   have e:=r.length;simp only[Array.length_toList]at e;omega
theorem Inv.tuple (I:Inv X pins σ H s)(h:SqT X.K H a xs):∃its:List Value,Vals xs its/\IsTup s.heap a its.toArray/\xs.length≤sizeLine:=by
 rcases h with h | ⟨o,its,n,hk,hc,hs,hz,r⟩
 . obtain⟨z,its,r,p⟩:=h.ok I.hok;exact⟨its,r,p,z⟩
 . refine⟨its.toList,r,⟨o,I.kIn a o hk,hc,n,by simpa using hs⟩,?_⟩
   have e:=r.length;simp only[Array.length_toList]at e;omega
theorem Inv.list_inj (I:Inv X pins σ H s)(h:SqL X.K H a xs)(h':SqL X.K H a ys):xs=ys:=by
 obtain⟨its,r,⟨o,n,e,_,_,d⟩,_⟩:=I.list h;obtain⟨its',r',⟨o',n',e',_,_,d'⟩,_⟩:=I.list h';rw[e]at e';cases e';rw[d]at d';injection d' with d1 _
 have:its=its':=by simpa using congrArg Array.toList d1
 subst this;exact r.inj r'
end
abbrev Cx.wish (X:Cx)(E:Value->Shared->Prop):Cx:={ X with xe:=E }
abbrev Cx.nox (X:Cx):Cx:=X.wish fun _ _=>False
theorem Cx.Ok.wish {X:Cx}(ok:X.Ok)(E:Value->Shared->Prop):(X.wish E).Ok:=
 ⟨ok.mod,ok.kind,ok.glob,ok.blt,ok.above,ok.inj,ok.has,ok.cab,ok.hd,ok.frames,ok.stk,ok.exf,ok.bs,ok.bsz,ok.noex,ok.exfs,ok.funs,ok.frf⟩
theorem Cx.Ok.unwish {X:Cx}{E:Value->Shared->Prop}(ok:(X.wish E).Ok):X.Ok:=
 ⟨ok.mod,ok.kind,ok.glob,ok.blt,ok.above,ok.inj,ok.has,ok.cab,ok.hd,ok.frames,ok.stk,ok.exf,ok.bs,ok.bsz,ok.noex,ok.exfs,ok.funs,ok.frf⟩
section
variable {X:Cx}{pins:List (Addr×Obj)}{σ:St}{H:Hp}{s:Shared}{E:Value->Shared->Prop}
theorem Inv.wish (I:Inv X pins σ H s)(E:Value->Shared->Prop):Inv (X.wish E) pins σ H s:=⟨I.ok.wish E,I.os,I.bare,I.base,I.loc,I.cell,I.free,I.freeC,I.pin,I.hok,I.len⟩
theorem Inv.unwish (I:Inv (X.wish E) pins σ H s):Inv X pins σ H s:=⟨I.ok.unwish,I.os,I.bare,I.base,I.loc,I.cell,I.free,I.freeC,I.pin,I.hok,I.len⟩
theorem SP.unwish {D:Ends}{f:Flow}{s':Shared}(h:SP (X.wish E) pins D f s'):SP X pins D f s':=by
 cases f with
 | next=>obtain⟨σ',H',I,q⟩:=h;exact⟨σ',H',I.unwish,q⟩
 | brk=>obtain⟨σ',H',I,q⟩:=h;exact⟨σ',H',I.unwish,q⟩
 | cont=>obtain⟨σ',H',I,q⟩:=h;exact⟨σ',H',I.unwish,q⟩
 | ret u=>obtain⟨v,σ',H',I,r,q⟩:=h;exact⟨v,σ',H',I.unwish,r,q⟩
theorem PSs.nox {st:List Stmt}{t:TS}(h:PSs X.nox st t):PSs X st t:=fun pins s σ H D I hw =>
 wpAny_mono (h pins s σ H D (I.wish _) hw) (fun _ _ q=>q.unwish) fun _ _ z=>False.elim z
end
section
variable {X:Cx}{st:Stmt}{rest:List Stmt}{t u:TS}{e:Expr}{te:TE}{pos:Pos}
def jt:TS:=fun D σ H=>D.nx σ H
def tSeq (t u:TS):TS:=fun D σ H=>t { D with nx:=u D } σ H
theorem aG:PSs X [] jt:=fun _ _ σ H _ I h=>wpAny_execs_nil ⟨σ,H,I,h⟩
theorem ad (h1:PS X st t)(h2:PSs X rest u):PSs X (st::rest) (tSeq t u):=by
 intro pins s σ H D I h;refine wpAny_execs_cons (thn (h1 pins s σ H { D with nx:=u D } I h) fun f s1 q=>?_)
 cases f with
 | next =>
  obtain⟨σ',H',I',q⟩:=q;exact h2 pins s1 σ' H' D I' q
 | ret v=>exact q
 | brk=>exact q
 | cont=>exact q
theorem ah (h1:PS X st t):PSs X [st] t:=by
 intro pins s σ H D I h;refine wpAny_execs_cons (thn (h1 pins s σ H D I h) fun f s1 q=>?_);cases f with
 | next=>exact wpAny_execs_nil q
 | ret v=>exact q
 | brk=>exact q
 | cont=>exact q
theorem Inv.quiet {pins:List (Addr×Obj)}{σ:St}{H:Hp}{s:Shared}(I:Inv X pins σ H s):interactive X.env=false:=by simp[interactive,I.ok.kind]
def tDrop (te:TE):TS:=fun D σ H=>te σ H fun _ H1=>D.nx σ H1
theorem cu (he:PE X e te)(hs:swapsWith e none pos.line X.env=pure false:=by rfl):PS X (.Expr e pos) (tDrop te):=by
 intro pins s σ H D I h;exact wpAny_Expr_any (thn (he pins s σ H _ I h) fun v s1 ⟨x,H1,I1,r1,q1⟩=>⟨σ,H1,I1,q1⟩) I.quiet hs
def tRet (te:TE):TS:=fun D σ H=>te σ H D.rt
theorem aB (he:PE X e te):PS X (.Return (some e) pos) (tRet te):=by
 intro pins s σ H D I h;exact wpAny_Return_some (thn (he pins s σ H _ I h) fun v s1 ⟨x,H1,I1,r1,q1⟩=>⟨x,σ,H1,I1,r1,q1⟩)
def tIfS (c:TT)(t u:TS):TS:=fun D σ H=>c σ H fun b H1=>if b=true then t D σ H1 else u D σ H1
theorem b6 {c:Expr}{a b:List Stmt}{tc:TT}(hc:PT X c tc)(ha:PSs X a t)(hb:PSs X b u):PS X (.If c a b pos) (tIfS tc t u):=by
 intro pins s σ H D I h;refine wpAny_If (thn (hc pins s σ H _ I h) fun d s1 ⟨H1,I1,q1⟩=>?_);cases d with
 | true=>exact ha pins s1 σ H1 D I1 q1
 | false=>exact hb pins s1 σ H1 D I1 q1
def tNever:TS:=fun _ _ _=>False
theorem ps_never:PS X st tNever:=fun _ _ _ _ _ _ h=>h.elim
end
abbrev TG:=V->St->Hp->(St->Hp->Prop)->Prop
abbrev TGs:=List V->St->Hp->(St->Hp->Prop)->Prop
def PG (X:Cx)(target:Expr)(t:TG):Prop:=
 ∀(pins:List (Addr×Obj)) (s:Shared) (σ:St) (H:Hp) (v:V) (u:Value) (Q:St->Hp->Prop),Inv X pins σ H s->RelV v u->t v σ H Q →
  wpAny (model X.prog X.w) X.A (assign target X.env u) (fun _ s'=>∃σ' H',Inv X pins σ' H' s'/\Q σ' H') X.xe s
def PGs (X:Cx)(ts:List Expr)(t:TGs):Prop:=
 ∀(pins:List (Addr×Obj)) (s:Shared) (σ:St) (H:Hp) (vs:List V) (us:List Value) (Q:St->Hp->Prop),Inv X pins σ H s->Vals vs us->t vs σ H Q →
  wpAny (model X.prog X.w) X.A (assignInOrder ((assignEach ts X.env).map (·.2)) us) (fun _ s'=>∃σ' H',Inv X pins σ' H' s'/\Q σ' H') X.xe s
abbrev TSet:=V->V->V->Hp->(Hp->Prop)->Prop
def PSet (X:Cx)(t:TSet):Prop:=
 ∀(pins:List (Addr×Obj)) (s:Shared) (σ:St) (H:Hp) (o i v:V) (ov iv u:Value) (Q:Hp->Prop),Inv X pins σ H s->RelV o ov->RelV i iv->RelV v u->t o i v H Q →
  wpAny (model X.prog X.w) X.A (setItem ov iv u) (fun _ s'=>∃H',Inv X pins σ H' s'/\Q H') X.xe s
abbrev TIp:=V->V->Hp->VK->Prop
def PIp (X:Cx)(op:Operator)(t:TIp):Prop:=
 ∀(pins:List (Addr×Obj)) (s:Shared) (σ:St) (H:Hp) (x y:V) (v u:Value) (Q:VK),Inv X pins σ H s->RelV x v->RelV y u->t x y H Q →
  wpAny (model X.prog X.w) X.A (inplaceOp op v u) (EP X pins σ Q) X.xe s
section
variable {X:Cx}{pos:Pos}
def jk (i:Nat):TG:=fun v σ H Q=>Q (σ.set i (some v)) H
theorem bj {i:Nat}{x:Str}(hN:X.N.Nodup)(hi:X.N[i]? = some x)(hx:Loc X.env.scope x)(hf:X.fn x=true∨X.env.scope.names.lookup x=some .local:=by first | exact .inl rfl | exact .inr rfl | assumption):PG X (.Name x pos) (jk i):=by
 intro pins s σ H v u Q I r h;exact wpAny_assign_Name (en I hN hi hx r (fun s' I'=>⟨_,H,I',h⟩) hf)
def gNil:TGs:=fun vs σ H Q=>vs=[]/\Q σ H
def gCons (t:TG)(u:TGs):TGs:=fun vs σ H Q=>∃v r,vs=v::r/\t v σ H fun σ' H'=>u r σ' H' Q
theorem iO:PGs X [] gNil:=by
 intro pins s σ H vs us Q I r h;obtain⟨e,h⟩:=h;subst e;cases r;exact assignInOrder_nil ⟨σ,H,I,h⟩
theorem dw {e:Expr}{es:List Expr}{t:TG}{u:TGs}(h1:PG X e t)(h2:PGs X es u)(hs:(assignEach (e::es) X.env).map (·.2)=assign e X.env::(assignEach es X.env).map (·.2):=by rfl):PGs X (e::es) (gCons t u):=by
 intro pins s σ H vs us Q I r h;obtain⟨v,vr,e1,h⟩:=h;subst e1;cases r with
 | cons r rr =>
  rw[hs];refine assignInOrder_cons (thn (h1 pins s σ H _ _ _ I r h) fun _ s1 ⟨σ1,H1,I1,q1⟩=>?_);exact h2 pins s1 σ1 H1 _ _ Q I1 rr q1
def gTup (K:PySem.W.Frag)(n:Nat)(t:TGs):TG:=fun v σ H Q=>∃a xs,v = .ref a/\SqT K H a xs/\xs.length=n/\t xs σ H Q
theorem pg_tup {es:List Expr}{k:Nat}{t:TGs}{n:Nat}(hc:X.calm=true)(h:PGs X es t)(hn:(assignEach es X.env).length=n:=by rfl)(hst:(assignEach es X.env).findIdx? (·.1)=none:=by rfl):PG X (.Tuple es k pos) (gTup X.K n t):=by
 intro pins s σ H v u Q I r hw;obtain⟨a,xs,e1,hq,hl,hw⟩:=hw;subst e1;cases r;obtain⟨its,rv,ht,hz⟩:=I.tuple hq;refine assign_Tuple_tuple (I.ok.hd hc) ht (by simp[hn,←hl,rv.length]) hst fun h' hx=>?_
 have I1:Inv X pins σ H { s with heap:=h' }:=I.kept (t':=s.toks) fun b o e=>hx b o (Nat.ne_of_lt (Heap.lt_size e)) e
 exact h pins _ σ H xs _ Q I1 (by simpa using rv) hw
def gSub (to ti:TE)(t:TSet):TG:=fun v σ H Q=>to σ H fun o H1=>ti σ H1 fun i H2=>t o i v H2 fun H3=>Q σ H3
theorem fY {o i:Expr}{to ti:TE}{t:TSet}(ho:PE X o to)(hi:PE X i ti)(hs:PSet X t)
 (ha:∀v,assign (.Subscript o i pos) X.env v=(do
   let ov ←holding [v] (eval o X.env)
   let iv ←holding [v,ov] (eval i X.env)
   standAt pos
   holding [v,ov,iv] (setItem ov iv v)
   release [v,ov,iv] []):=by intro _;rfl):PG X (.Subscript o i pos) (gSub to ti t):=by
 intro pins s σ H v u Q I r h;rw[ha];refine wpAny_bind (wpAny_holding (thn (ho pins s σ H _ I h) fun ov s1 ⟨x,H1,I1,r1,q1⟩=>?_));refine wpAny_bind (wpAny_holding (thn (hi pins s1 σ H1 _ I1 q1) fun iv s2 ⟨y,H2,I2,r2,q2⟩=>?_));refine wpAny_bind (wpAny_standAt (wpAny_bind (wpAny_holding (thn (hs pins s2 σ H2 x y v ov iv u _ I2 r1 r2 r q2) fun _ s3 ⟨H3,I3,q3⟩=>?_))));exact wpAny_release ⟨σ,H3,I3,q3⟩
def tAsg (te:TE)(g:TG):TS:=fun D σ H=>te σ H fun x H1=>g x σ H1 D.nx
theorem eQ {tg e:Expr}{te:TE}{g:TG}(he:PE X e te)(hg:PG X tg g)(hs:swapsWithSole [tg] e pos.line X.env=pure false:=by rfl)(hw:swappedStores [tg] e X.env=pure none:=by rfl)
 (h1:(assignEach [tg] X.env).map (·.2)=[assign tg X.env]:=by rfl):PS X (.Assign [tg] e pos) (tAsg te g):=by
 intro pins s σ H D I h;refine wpAny_Assign_stores (thn (he pins s σ H _ I h) fun v s1 ⟨x,H1,I1,r1,q1⟩=>?_) hs hw;rw[h1];exact thn (hg pins s1 σ H1 x v _ I1 r1 q1) fun _ s2 q=>q
theorem aQ {i:Nat}{x:Str}{e:Expr}{te:TE}{pos':Pos}(hN:X.N.Nodup)(hi:X.N[i]? = some x)(hx:Loc X.env.scope x)(he:PE X e te)(hs:swapsWith e (some (.Name x pos')) pos.line X.env=pure false:=by rfl)(hf:X.fn x=true∨X.env.scope.names.lookup x=some .local:=by first | exact .inl rfl | exact .inr rfl | assumption) :
 PS X (.Assign [.Name x pos'] e pos) (tAsg te (jk i)):=by
 intro pins s σ H D I h;refine wpAny_Assign_Name (thn (he pins s σ H _ I h) fun v s1 ⟨y,H1,I1,r1,q1⟩=>?_) hs;exact en I1 hN hi hx r1 (fun s2 I2=>⟨_,H1,I2,q1⟩) hf
def tAug (i:Nat)(te:TE)(ti:TIp):TS:=fun D σ H=>∃x,σ[i]? = some (some x)/\te σ H fun y H1=>ti x y H1 fun z H2=>D.nx (σ.set i (some z)) H2
theorem ps_aug {i:Nat}{x:Str}{e:Expr}{te:TE}{op:Operator}{ti:TIp}{pos':Pos}(hN:X.N.Nodup)(hi:X.N[i]? = some x)(hx:Loc X.env.scope x)(he:PE X e te)(ho:PIp X op ti)(hf:X.fn x=true∨X.env.scope.names.lookup x=some .local:=by first | exact .inl rfl | exact .inr rfl | assumption) :
 PS X (.AugAssign (.Name x pos') op e pos) (tAug i te ti):=by
 intro pins s σ H D I h;obtain⟨v,e1,h⟩:=h;obtain⟨m,hn,hl⟩:=I.loc;have vis:Vis X.env.scope x:=by rcases hx with k | k;exact .inl k;exact .inr (.inl k)
 obtain⟨u,r,l⟩:=hl i x v hi e1 vis;refine wpAny_AugAssign_Name ?_;have go:wpAny (model X.prog X.w) X.A (eval e X.env) (fun w s₂=>wpAny (model X.prog X.w) X.A (inplaceOp op u w) (fun r s₃=>wpAny (model X.prog X.w) X.A (storeName X.env x r) (fun _=>SP X pins D .next) X.xe s₃) X.xe s₂) X.xe s:=by
  refine thn (he pins s σ H _ I h) fun w s1 ⟨y,H1,I1,r1,q1⟩=>?_;refine thn (ho pins s1 σ H1 v y u w _ I1 r r1 q1) fun z s2 ⟨zv,H2,I2,r2,q2⟩=>?_;exact en I2 hN hi hx r2 (fun s3 I3=>⟨_,H2,I3,q2⟩) hf
 rcases l with⟨hk,hm⟩ | ⟨hk,c,hc,hcell⟩
 . exact wpAny_loadName_local I.ok.kind hk hn hm go
 . rcases hk with hk | hk
   . exact wpAny_loadName_cell I.ok.kind hk hc hcell go
   . rcases hx with k | k
     . have:X.env.scope.names.lookup x=some .free:=hk;rw[k]at this;cases this
     . have:X.env.scope.names.lookup x=some .free:=hk;rw[k]at this;cases this
def ipI (f:Int->Int->Int):TIp:=fun x y H Q=>∃i j,x = .int i/\y = .int j/\Q (.int (f i j)) H
theorem ip_add:PIp X .Add (ipI fun i j=>i+j):=by
 intro pins s σ H x y v u Q I r1 r2 h;obtain⟨i,j,e1,e2,q⟩:=h;subst e1;subst e2;obtain⟨t,rfl⟩:=r1;obtain⟨t',rfl⟩:=r2;exact iadd_int ⟨.int _,H,I.tok _,⟨_,rfl⟩,q⟩
end
section
variable {X:Cx}{pos:Pos}
def tWhile (c:TT)(tb:TS):TS:=fun D σ H=>∃W:Nat->St->Hp->Prop,(∃m,W m σ H)/\∀m σ H,W m σ H →
 c σ H fun b H1=>if b=true then ∃N:St->Hp->Prop,(∀σ' H',N σ' H'->∃m',m' < m/\W m' σ' H')/\tb { D with nx:=N,ct:=N,bk:=D.nx } σ H1 else D.nx σ H1
theorem ps_while {c:Expr}{body:List Stmt}{tc:TT}{tb:TS}(hp:PassesOwn (model X.prog X.w) X.A X.env X.xe)(hc:PT X c tc)(hb:PSs X body tb):PS X (.While c body [] pos) (tWhile tc tb):=by
 intro pins s σ H D I h;obtain⟨W,⟨m0,w0⟩,turn⟩:=h;refine wpAny_While (codeAny_whileLoop (fun n s'=>∃σ' H',Inv X pins σ' H' s'/\W n σ' H') ?_ m0 ⟨σ,H,I,w0⟩);rintro n s1 ⟨σ1,H1,I1,w1⟩;refine wpAny_passesOwn hp (thn (hc pins s1 σ1 H1 _ I1 (turn n σ1 H1 w1)) fun b s2 ⟨H2,I2,q2⟩=>?_);cases b with
 | true =>
  obtain⟨N,hN,q2⟩:=q2;rw[if_pos rfl];refine wpAny_passesOwn hp (thn (hb pins s2 σ1 H2 _ I2 q2) fun f s3 q3=>?_);cases f with
  | next =>
   obtain⟨σ3,H3,I3,n3⟩:=q3;obtain⟨m',hm,w3⟩:=hN σ3 H3 n3;exact⟨m',hm,σ3,H3,I3,w3⟩
  | cont =>
   obtain⟨σ3,H3,I3,n3⟩:=q3;obtain⟨m',hm,w3⟩:=hN σ3 H3 n3;exact⟨m',hm,σ3,H3,I3,w3⟩
  | brk=>exact q3
  | ret v=>exact q3
 | false =>
  rw[if_neg Bool.false_ne_true];exact wpAny_execs_nil ⟨σ1,H2,I2,q2⟩
end
structure It where
 go:Nat->Hp->Prop
 yld:Nat->Hp->V->Hp->Prop
 stop:Nat->Hp->Prop
def FpOk (X:Cx)(pins:List (Addr×Obj))(H:Hp)(b:Addr):Prop:=
 H b=none/\b≠X.env.locals/\b∉X.fs/\(b∈X.ex∨X.s₀.heap.objs.size≤b)/\(∀x c,X.env.cells.lookup x=some c->c≠b)/\∀p∈X.pn++pins,p.1≠b
theorem Inv.fpOk {X:Cx}{pins:List (Addr×Obj)}{σ:St}{H H':Hp}{s:Shared}{b:Addr}(I:Inv X pins σ H s)(hb:s.heap.objs.size≤b)(hn:H' b=none):FpOk X pins H' b:=by
 refine⟨hn,Nat.ne_of_gt (Nat.lt_of_lt_of_le I.lt hb),I.nofs hb,.inr (Nat.le_trans I.sz hb),fun x c e z=>?_,fun p hp z=>?_⟩
 . obtain⟨v,q⟩:=I.cell x c e;exact absurd (Nat.lt_of_lt_of_le q.lt (by rw[z];exact hb)) (Nat.lt_irrefl _)
 . exact absurd (Nat.lt_of_lt_of_le (Heap.lt_size (I.pin p hp).1) (by rw[z];exact hb)) (Nat.lt_irrefl _)
structure Turn (P:Program) (w:World) (K:PySem.W.Frag) (tg:Expr) (J:It) (fp:List Addr) (it:Addr) (tn:Nat->Heap->Prop):Prop where
 mem:it∈fp
 obj:∀i h,tn i h->∀b∈fp,∃o,h.get? b=some o/\∀v,o.data≠.cell v
 keep:∀i h h',tn i h->(∀b∈fp,∀o,h.get? b=some o->h'.get? b=some o)->tn i h'
 item:∀(X:Cx),X.prog=P->X.w=w->X.K=K->X.calm=true->∀(i:Nat) (pins:List (Addr×Obj)) (s:Shared) (σ:St) (H:Hp) (E:Value->Shared->Prop),Inv X pins σ H s->(∀b∈fp,FpOk X pins H b)->tn i s.heap->J.go i H →
  wpAny (model P w) X.A (pyNext (.ref it)) (fun r s1=>∃u,r=some u ∧
   wpAny (model P w) X.A (letOwnedTupleGo tg (.ref it) u) (fun _ s2=>∃x H',Inv X pins σ H' s2/\RelV x u/\J.yld i H x H'/\tn (i+1) s2.heap/\∀b∈fp,H' b=none) E s1) E s
 done:∀(X:Cx),X.prog=P->X.w=w->X.K=K->X.calm=true->∀(i:Nat) (pins:List (Addr×Obj)) (s:Shared) (σ:St) (H:Hp) (E:Value->Shared->Prop),Inv X pins σ H s->(∀b∈fp,FpOk X pins H b)->tn i s.heap->J.stop i H →
  wpAny (model P w) X.A (pyNext (.ref it)) (fun r s1=>r=none/\Inv X pins σ H s1) E s
 self:∀(A:Around) (i:Nat) (s:Shared) (Q:Value->Shared->Prop) (E:Value->Shared->Prop),tn i s.heap->Q (.ref it) s->wpAny (model P w) A (pyIter (.ref it)) Q E s
abbrev TI:=St->Hp->(It->Hp->Prop)->Prop
def PIE (X:Cx)(pins:List (Addr×Obj))(σ:St)(tg:Expr)(R:It->Hp->Prop)(itv:Value)(s2:Shared):Prop:=
 ∃(it:Addr) (fp:List Addr) (tn:Nat->Heap->Prop) (J:It) (H':Hp),itv = .ref it/\Inv X pins σ H' s2/\Turn X.prog X.w X.K tg J fp it tn/\tn 0 s2.heap/\(∀b∈fp,FpOk X pins H' b)/\R J H'
def PI (X:Cx)(tg iter:Expr)(wi:TI):Prop:=
 ∀(pins:List (Addr×Obj)) (s:Shared) (σ:St) (H:Hp) (R:It->Hp->Prop),Inv X pins σ H s->wi σ H R →
  wpAny (model X.prog X.w) X.A (eval iter X.env) (fun v s1=>wpAny (model X.prog X.w) X.A (pyIter v) (PIE X pins σ tg R) X.xe s1) X.xe s
theorem jj {M:Model}{A:Around}{E:Value->Shared->Prop}{s:Shared}{tg:Expr}{it:Addr}{u:Value}{o:Obj}{n:String}{vs:Array Value}{Q:Unit->Shared->Prop}(ho:s.heap.get? it=some o)(hc:o.cls = .type n)(hd:o.data = .fields vs)(hn:["enumerate", "zip", "dict_itemiterator", "dict_reverseitemiterator", "odict_iterator", "itertools.zip_longest", "itertools.pairwise"].contains n=false)(hQ:Q () s):wpAny M A (letOwnedTupleGo tg (.ref it) u) Q E s:=by
 unfold letOwnedTupleGo;cases tg<;>first
  | exact wpAny_pure hQ
  | (cases u<;>first
      | exact wpAny_pure hQ
      | (refine wpAny_bind (wpAny_load ho ?_)
         rw[hc,hd];show wpAny M A (if (["enumerate", "zip", "dict_itemiterator", "dict_reverseitemiterator", "odict_iterator", "itertools.zip_longest", "itertools.pairwise"].contains n&&vs[0]? == some (rawInt _))=true then _ else _) Q E s
         rw[if_neg (by intro h;rw[hn,Bool.false_and]at h;cases h)]
         exact wpAny_pure hQ))
def Itl (K:PySem.W.Frag)(a:Addr):It:=
 ⟨fun i H=>∃xs x,SqL K H a xs/\xs[i]? = some x,fun i H x H'=>H'=H/\∀xs,SqL K H a xs->xs[i]? = some x,fun i H=>∃xs,SqL K H a xs/\xs.length≤i⟩
def Itr (lo:Int)(n:Nat):It:=⟨fun i _=>i < n,fun i H x H'=>H'=H/\x = .int (lo+i),fun i _=>n≤i⟩
theorem turn_list {P:Program}{w:World}{K:PySem.W.Frag}{tg:Expr}(a it:Addr):Turn P w K tg (Itl K a) [it] it (fun i h=>h.IsListIter it a i) where
 mem:=by simp
 obj:=fun i h st b hb=>by
  have e:b=it:=by simpa using hb
  subst e;obtain⟨o,e,c,d⟩:=st;exact⟨o,e,fun v z=>by rw[d]at z;cases z⟩
 keep:=fun i h h' st k=>st.at fun o e=>k it (by simp) o e
 item:=by
  intro X hP hw hK hc i pins s σ H E I hf st hg;subst hP hw hK;obtain⟨xs,x,hq,hx⟩:=hg;obtain⟨its,rv,p,hz⟩:=I.list hq;obtain⟨u,hu,ru⟩:=rv.get hx;obtain⟨f0,f1,f2,f3,f4,f5⟩:=hf it (by simp)
  refine wpAny_pyNext_list_item st p.isList (x:=u) (by simpa using hu) fun h' st' sb=>?_
  have I1:Inv X pins σ H { s with heap:=h' }:=I.turned (t':=s.toks) (fun b o hb e=>(sb.2 b hb).trans e) f0 f1 f3 f4 f5
  obtain⟨o,e,c,d⟩:=id st';exact⟨u,rfl,jj (s:={ s with heap:=h' }) e c d (by decide) ⟨x,H,I1,ru,⟨rfl,fun ys hy=>by rw[I.list_inj hy hq];exact hx⟩,st',fun b hb=>(hf b hb).1⟩⟩
 done:=by
  intro X hP hw hK hc i pins s σ H E I hf st hg;subst hP hw hK;obtain⟨xs,hq,hx⟩:=hg;obtain⟨its,rv,p,hz⟩:=I.list hq;obtain⟨f0,f1,f2,f3,f4,f5⟩:=hf it (by simp)
  have hl:=rv.length;exact wpAny_pyNext_list_end (I.ok.hd hc) st p.isList (by simp;omega) fun h' eb=>⟨rfl,I.turned (t':=s.toks) (fun b o hb e=>eb b o hb e) f0 f1 f3 f4 f5⟩
 self:=fun _ _ _ _ _ st h=>wpAny_pyIter_listiter st h
theorem turn_range {P:Program}{w:World}{K:PySem.W.Frag}{tg:Expr}(it:Addr)(lo:Int)(n:Nat):Turn P w K tg (Itr lo n) [it] it (fun i h=>IsRangeIter h it (lo+(i:Nat)*1) ((n:Int) - (i:Nat)) 1) where
 mem:=by simp
 obj:=fun i h st b hb=>by
  have e:b=it:=by simpa using hb
  subst e;exact⟨_,st,fun v z=>by
   have z':Data.fields _=Data.cell v:=z;cases z'⟩
 keep:=fun i h h' st k=>k it (by simp) _ st
 item:=by
  intro X hP hw hK hc i pins s σ H E I hf st hg;subst hP hw hK;obtain⟨f0,f1,f2,f3,f4,f5⟩:=hf it (by simp)
  have W:=Walks.range (prog:=X.prog) (w:=X.w) (I.ok.hd hc) it lo 1 n;refine W.item i s _ _ hg st fun v h' tk hv st' kk=>?_;obtain⟨t,rfl⟩:=hv;have I1:Inv X pins σ H { s with heap:=h',toks:=tk }:=I.turned (fun b o hb e=>kk b o (by simpa using hb) e) f0 f1 f3 f4 f5
  refine⟨_,rfl,jj (s:={ s with heap:=h',toks:=tk }) (n:="range_iterator") st' rfl rfl (by decide) ⟨.int (lo+i),H,I1,⟨t,?_⟩,⟨rfl,rfl⟩,st',fun b hb=>(hf b hb).1⟩⟩
  rw[Int.mul_one]
 done:=by
  intro X hP hw hK hc i pins s σ H E I hf st hg;subst hP hw hK;obtain⟨f0,f1,f2,f3,f4,f5⟩:=hf it (by simp)
  exact wpAny_pyNext_range_end (I.ok.hd hc) st (by have:n≤i:=hg;omega) fun h' eb=>⟨rfl,I.turned (t':=s.toks) (fun b o hb e=>eb b o hb e) f0 f1 f3 f4 f5⟩
 self:=fun _ _ _ _ _ st h=>wpAny_pyIter_rangeiter st h
end L2
namespace L2
open PySem PySem.Spec PyProof.Rows
section
variable {X:Cx}{tg:Expr}
def jD (K:PySem.W.Frag)(tl:TE):TI:=fun σ H R=>tl σ H fun x H1=>∃a,x = .ref a/\(∃xs,SqL K H1 a xs)/\R (Itl K a) H1
theorem gO {l:Expr}{tl:TE}(hl:PE X l tl):PI X tg l (jD X.K tl):=by
 intro pins s σ H R I h;refine thn (hl pins s σ H _ I h) fun v s1 ⟨x,H1,I1,r1,q1⟩=>?_;obtain⟨a,e,⟨xs,hq⟩,q⟩:=q1;subst e;cases r1;obtain⟨its,rv,p,hz⟩:=I1.list hq;refine wpAny_pyIter_list p.isList ?_;refine⟨s1.heap.objs.size,[s1.heap.objs.size],_,_,H1,rfl,I1.kept (t':=s1.toks) fun b o e=>Heap.get?_push_of_some _ e,turn_list a _,⟨_,Heap.get?_push_size _ rfl,rfl,rfl⟩,fun b hb=>?_,q⟩;have e:b=s1.heap.objs.size:=by simpa using hb
 subst e;exact I1.fpOk (Nat.le_refl _) (I1.hok.fresh (Nat.le_refl _))
theorem hJ {pins:List (Addr×Obj)}{σ:St}{H:Hp}{s:Shared}{R:It->Hp->Prop}{E:Value->Shared->Prop}{lo hi:Int}{t u v:Tok}{tk:Nat}(I:Inv X pins σ H s)(h1:-(2 ^ 62)≤lo)(h2:lo < 2 ^ 62)(h3:-(2 ^ 62)≤hi)(h4:hi < 2 ^ 62)(q:R (Itr lo (hi - lo).toNat) H):wpAny (model X.prog X.w) X.A (pyIter (.ref s.heap.objs.size)) (PIE X pins σ tg R) E { s with heap:=s.heap.push { cls:=.type "range",data:=.fields #[.int lo t,.int hi u,.int 1 v] },toks:=tk }:=by
 refine wpAny_pyIter_range (IsRange.new ..) (small_one h1 h2 h3 h4) ?_;have I1:Inv X pins σ H { s with heap:=s.heap.push { cls:=.type "range",data:=.fields #[.int lo t,.int hi u,.int 1 v] },toks:=tk }:=I.kept fun b o e=>Heap.get?_push_of_some _ e
 refine⟨(s.heap.push { cls:=.type "range",data:=.fields #[.int lo t,.int hi u,.int 1 v] }).objs.size,[(s.heap.push { cls:=.type "range",data:=.fields #[.int lo t,.int hi u,.int 1 v] }).objs.size],_,_,H,rfl,
  I1.kept (t':=tk) fun b o e=>Heap.get?_push_of_some _ e,turn_range _ lo (hi - lo).toNat,?_,fun b hb=>?_,q⟩
 . have e1:lo+((0:Nat):Int)*1=lo:=by simp
   have e2:(((hi - lo).toNat:Nat):Int) - ((0:Nat):Int)=Builtin.Range.rangeSize lo hi 1:=by rw[rangeSize_one];split<;>omega
   show IsRangeIter _ _ (lo+((0:Nat):Int)*1) ((((hi - lo).toNat:Nat):Int) - ((0:Nat):Int)) 1;rw[e1,e2];exact Heap.get?_push_size _ rfl
 . have e:b=(s.heap.push { cls:=.type "range",data:=.fields #[.int lo t,.int hi u,.int 1 v] }).objs.size:=by simpa using hb
   subst e;exact I1.fpOk (Nat.le_refl _) (I1.hok.fresh (Nat.le_refl _))
def iRng1 (ta:TA):TI:=fun σ H R=>ta σ H fun vs H1=>∃j:Int,vs=[.int j]/\-(2 ^ 62)≤j/\j < 2 ^ 62/\R (Itr 0 j.toNat) H1
def iRng2 (ta:TA):TI:=fun σ H R=>ta σ H fun vs H1=>∃i j:Int,vs=[.int i,.int j]/\(-(2 ^ 62)≤i/\i < 2 ^ 62/\-(2 ^ 62)≤j/\j < 2 ^ 62)/\R (Itr i (j - i).toNat) H1
theorem bg {a:Expr}{ta:TA}{p pos:Pos}(hg:Gl X "range")(hm:X.mg "range" = none)(ha:PA X [a] ta)(hs:starEach [a] X.env=[(false,eval a X.env)]:=by rfl):PI X tg (.Call (.Name "range" p) [a] [] pos) (iRng1 ta):=by
 intro pins s σ H R I h;refine Call_ (ef I hg hm boot_range (PyProof.Rows.callWith_type1 (thn (ha pos pins s σ H _ I h) fun us s1 ⟨vs,H1,I1,r1,q1⟩=>?_) hs rfl));obtain⟨j,e,q1,q2,q⟩:=q1;subst e;cases r1 with
 | cons r rr =>
  cases rr;obtain⟨t,rfl⟩:=r;exact call_range_1 (hJ I1 (by omega) (by omega) q1 q2 (by simpa using q))
theorem pi_range2 {a b:Expr}{ta:TA}{p pos:Pos}(hg:Gl X "range")(hm:X.mg "range" = none)(ha:PA X [a,b] ta)(hs:starEach [a,b] X.env=[(false,eval a X.env),(false,eval b X.env)]:=by rfl)(hs2:starEach [b] X.env=[(false,eval b X.env)]:=by rfl) :
 PI X tg (.Call (.Name "range" p) [a,b] [] pos) (iRng2 ta):=by
 intro pins s σ H R I h;refine Call_ (ef I hg hm boot_range (PyProof.Rows.callWith_type1 (thn (ha pos pins s σ H _ I h) fun us s1 ⟨vs,H1,I1,r1,q1⟩=>?_) (by rw[hs,hs2]) (by rw[hs2];rfl)))
 obtain⟨i,j,e,⟨q1,q2,q3,q4⟩,q⟩:=q1;subst e;cases r1 with
 | cons r rr =>
  cases rr with
  | cons r' rr =>
   cases rr;obtain⟨t,rfl⟩:=r;obtain⟨t',rfl⟩:=r';exact call_range_2 (hJ I1 q1 q2 q3 q4 q)
def tFor (wi:TI)(g:TG)(tb:TS):TS:=fun D σ H=>wi σ H fun J H1=>∃W:Nat->Nat->St->Hp->Prop,(∃m,W 0 m σ H1)/\∀i m σ H,W i m σ H →
 (J.stop i H/\D.nx σ H)∨(J.go i H/\∃N:St->Hp->Prop,(∀σ' H',N σ' H'->∃m',m' < m/\W (i+1) m' σ' H')/\∀x H',J.yld i H x H'->g x σ H' fun σ2 H2=>tb { D with nx:=N,ct:=N,bk:=D.nx } σ2 H2)
def fV (fp:List Addr)(h:Heap):List (Addr×Obj):=fp.filterMap fun b=>(h.get? b).map fun o=>(b,o)
theorem dq {fp:List Addr}{h:Heap}{b:Addr}{o:Obj}(hb:b∈fp)(e:h.get? b=some o):(b,o)∈fV fp h:=List.mem_filterMap.mpr ⟨b,hb,by rw[e];rfl⟩
theorem of_pinsAt {fp:List Addr}{h:Heap}{p:Addr×Obj}(hp:p∈fV fp h):p.1∈fp/\h.get? p.1=some p.2:=by
 obtain⟨b,hb,e⟩:=List.mem_filterMap.mp hp;cases q:h.get? b with
 | none=>rw[q]at e;cases e
 | some o =>
  rw[q]at e;have e':(b,o)=p:=Option.some.inj e;subst e';exact⟨hb,q⟩
theorem Inv.pinned {pins:List (Addr×Obj)}{σ:St}{H:Hp}{s:Shared}{fp:List Addr}(I:Inv X pins σ H s)(hf:∀b∈fp,FpOk X pins H b)(ho:∀b∈fp,∃o,s.heap.get? b=some o/\∀v,o.data≠.cell v):Inv X (pins++fV fp s.heap) σ H s:=
 I.pins_of fun p hp=>(List.mem_append.mp hp).elim (fun z=>I.pin p (List.mem_append_right _ z)) fun z=>by
  obtain⟨hb,e⟩:=of_pinsAt z;obtain⟨f0,f1,f2,_⟩:=hf p.1 hb;obtain⟨o,e',d⟩:=ho p.1 hb;rw[e]at e';cases e';exact⟨e,f0,f1,f2,d⟩
theorem Inv.unpinned {pins pl:List (Addr×Obj)}{σ:St}{H:Hp}{s:Shared}(I:Inv X (pins++pl) σ H s):Inv X pins σ H s:=I.pins_of fun p hp=>I.pin p (List.mem_append_right _ (List.mem_append_left _ hp))
theorem bV {iter:Expr}{body:List Stmt}{wi:TI}{g:TG}{tb:TS}{pos:Pos}(hp:PassesOwn (model X.prog X.w) X.A X.env X.xe)(hc:X.calm=true)(hi:PI X tg iter wi)(hg:PG X tg g)(hb:PSs X body tb)(hs:∀x,foldedSetIterable iter X.env x=pure x:=by intro _;rfl):PS X (.For tg iter body [] pos) (tFor wi g tb):=by
 intro pins s σ H D I h;refine wpAny_For (thn (hi pins s σ H _ I h) fun v s1 h1=>thn h1 fun itv s2 h2=>?_) hs;obtain⟨it,fp,tn,J,H2,e,I2,T,st2,f2,W,⟨m0,w0⟩,turn⟩:=h2;subst e;have stat:∀{H':Hp},(∀b∈fp,H' b=none)->∀b∈fp,FpOk X pins H' b:=fun hn b hb=>⟨hn b hb,(f2 b hb).2⟩;refine codeAny_forLoop_any (fun n s'=>∃i σ' H',Inv X pins σ' H' s'/\tn i s'.heap/\(∀b∈fp,H' b=none)/\W i n σ' H') ?_ m0 ⟨0,σ,H2,I2,st2,fun b hb=>(f2 b hb).1,w0⟩;rintro n s3 ⟨i,σ3,H3,I3,st3,fr3,w3⟩;rcases turn i n σ3 H3 w3 with⟨stop,qn⟩ | ⟨go,N,hN,step⟩
 . refine wpAny_passesOwn hp (thn (T.done X rfl rfl rfl hc i pins s3 σ3 H3 X.xe I3 (stat fr3) st3 stop) fun r s4 ⟨hr,I4⟩=>?_);subst hr;exact wpAny_execs_nil ⟨σ3,H3,I4,qn⟩
 . refine wpAny_passesOwn hp (thn (T.item X rfl rfl rfl hc i pins s3 σ3 H3 X.xe I3 (stat fr3) st3 go) fun r s4 ⟨u,hr,h4⟩=>?_);subst hr;refine wpAny_passesOwn hp (thn h4 fun _ s5 ⟨x,H5,I5,r5,y5,st5,fr5⟩=>?_);have I5':=I5.pinned (stat fr5) (T.obj _ _ st5);refine wpAny_passesOwn hp (thn (hg _ s5 σ3 H5 x u _ I5' r5 (step x H5 y5)) fun _ s6 ⟨σ6,H6,I6,q6⟩=>?_);refine wpAny_passesOwn hp (thn (hb _ s6 σ6 H6 _ I6 q6) fun f s7 q7=>?_);have again:∀{σ7:St} {H7:Hp},Inv X (pins++fV fp s5.heap) σ7 H7 s7->N σ7 H7->∃m,m < n/\∃i σ' H',Inv X pins σ' H' s7/\tn i s7.heap/\(∀b∈fp,H' b=none)/\W i m σ' H':=fun{σ7 H7} I7 n7=>by
    obtain⟨m',hm,w7⟩:=hN σ7 H7 n7;refine⟨m',hm,i+1,σ7,H7,I7.unpinned,T.keep _ _ _ st5 fun b hb o e=>(I7.pin (b,o) (List.mem_append_right _ (List.mem_append_right _ (dq hb e)))).1,fun b hb=>?_,w7⟩;obtain⟨o,e,d⟩:=T.obj _ _ st5 b hb;exact(I7.pin (b,o) (List.mem_append_right _ (List.mem_append_right _ (dq hb e)))).2.1
   cases f with
   | next=>obtain⟨σ7,H7,I7,n7⟩:=q7;exact again I7 n7
   | cont=>obtain⟨σ7,H7,I7,n7⟩:=q7;exact again I7 n7
   | brk=>obtain⟨σ7,H7,I7,q7⟩:=q7;exact⟨σ7,H7,I7.unpinned,q7⟩
   | ret v=>obtain⟨x7,σ7,H7,I7,r7,q7⟩:=q7;exact⟨x7,σ7,H7,I7.unpinned,r7,q7⟩
end
theorem cJ {K:PySem.W.Frag}{a:Addr}{xs:List V}{g:TG}{tb:TS}{D:Ends}{σ:St}{H:Hp}(Pv:Nat->St->Hp->Prop)(h0:Pv 0 σ H)(hl:∀i σ H,i≤xs.length->Pv i σ H->SqL K H a xs)(hs:∀i x σ H,xs[i]? = some x->Pv i σ H->g x σ H fun σ2 H2=>tb { D with nx:=Pv (i+1),ct:=Pv (i+1),bk:=D.nx } σ2 H2)(hd:∀σ H,Pv xs.length σ H->D.nx σ H) :
 ∃W:Nat->Nat->St->Hp->Prop,(∃m,W 0 m σ H)/\∀i m σ H,W i m σ H →
  ((Itl K a).stop i H/\D.nx σ H)∨((Itl K a).go i H/\∃N:St->Hp->Prop,(∀σ' H',N σ' H'->∃m',m' < m/\W (i+1) m' σ' H')/\∀x H',(Itl K a).yld i H x H'->g x σ H' fun σ2 H2=>tb { D with nx:=N,ct:=N,bk:=D.nx } σ2 H2):=by
 refine⟨fun i m σ H=>m=xs.length - i/\i≤xs.length/\Pv i σ H,⟨xs.length,by simp,Nat.zero_le _,h0⟩,?_⟩
 rintro i m σ H ⟨rfl,hi,p⟩;have q:=hl i σ H hi p;by_cases hlt:i < xs.length
 . refine .inr ⟨⟨xs,xs[i],q,by simp[hlt]⟩,Pv (i+1),fun σ' H' p'=>⟨xs.length - (i+1),by omega,rfl,hlt,p'⟩,fun x H' y=>?_⟩
   obtain⟨e,y⟩:=y;subst e;exact hs i x σ _ (y xs q) p
 . have e:i=xs.length:=by omega
   subst e;exact .inl ⟨⟨xs,q,Nat.le_refl _⟩,hd σ H p⟩
theorem cp {lo:Int}{n:Nat}{g:TG}{tb:TS}{D:Ends}{σ:St}{H:Hp}(Pv:Nat->St->Hp->Prop)(h0:Pv 0 σ H)(hs:∀i σ H,i < n->Pv i σ H->g (.int (lo+i)) σ H fun σ2 H2=>tb { D with nx:=Pv (i+1),ct:=Pv (i+1),bk:=D.nx } σ2 H2)(hd:∀σ H,Pv n σ H->D.nx σ H) :
 ∃W:Nat->Nat->St->Hp->Prop,(∃m,W 0 m σ H)/\∀i m σ H,W i m σ H →
  ((Itr lo n).stop i H/\D.nx σ H)∨((Itr lo n).go i H/\∃N:St->Hp->Prop,(∀σ' H',N σ' H'->∃m',m' < m/\W (i+1) m' σ' H')/\∀x H',(Itr lo n).yld i H x H'->g x σ H' fun σ2 H2=>tb { D with nx:=N,ct:=N,bk:=D.nx } σ2 H2):=by
 refine⟨fun i m σ H=>m=n - i/\i≤n/\Pv i σ H,⟨n,by simp,Nat.zero_le _,h0⟩,?_⟩
 rintro i m σ H ⟨rfl,hi,p⟩;by_cases hlt:i < n
 . refine .inr ⟨hlt,Pv (i+1),fun σ' H' p'=>⟨n - (i+1),by omega,rfl,hlt,p'⟩,fun x H' y=>?_⟩
   obtain⟨e,y⟩:=y;subst e y;exact hs i σ _ hlt p
 . have e:i=n:=by omega
   subst e;exact .inl ⟨Nat.le_refl _,hd σ H p⟩
end L2
namespace L2
open PySem PySem.Spec PyProof.Rows
abbrev R2:=V->V->Hp->VK->Prop
def OpR (X:Cx)(f:Value->Value->Sem Value)(r:R2):Prop:=
 ∀(pins:List (Addr×Obj)) (s:Shared) (σ:St) (H:Hp) (x y:V) (v u:Value) (Q:VK),Inv X pins σ H s->RelV x v->RelV y u->r x y H Q →
  wpAny (model X.prog X.w) X.A (f v u) (EP X pins σ Q) X.xe s
def UnR (X:Cx)(f:Value->Sem Value)(r:V->Hp->VK->Prop):Prop:=
 ∀(pins:List (Addr×Obj)) (s:Shared) (σ:St) (H:Hp) (x:V) (v:Value) (Q:VK),Inv X pins σ H s->RelV x v->r x H Q →
  wpAny (model X.prog X.w) X.A (f v) (EP X pins σ Q) X.xe s
def cE (X:Cx)(f:Value)(r:List V->Hp->VK->Prop):Prop:=
 ∀(pins:List (Addr×Obj)) (s:Shared) (σ:St) (H:Hp) (xs:List V) (us:List Value) (Q:VK),Inv X pins σ H s->Vals xs us->r xs H Q →
  wpAny (model X.prog X.w) X.A (call f us) (EP X pins σ Q) X.xe s
def tOp (r:R2)(ta tb:TE):TE:=fun σ H Q=>ta σ H fun x H1=>tb σ H1 fun y H2=>r x y H2 Q
def tUn (r:V->Hp->VK->Prop)(ta:TE):TE:=fun σ H Q=>ta σ H fun x H1=>r x H1 Q
def rI (C:Int->Int->Prop)(g:Int->Int->V):R2:=fun x y H Q=>∃i j,x = .int i/\y = .int j/\C i j/\Q (g i j) H
def rI0 (g:Int->Int->V):R2:=fun x y H Q=>∃i j,x = .int i/\y = .int j/\Q (g i j) H
def rU (g:Int->V):V->Hp->VK->Prop:=fun x H Q=>∃i,x = .int i/\Q (g i) H
section
variable {X:Cx}{a b c:Expr}{ta tb tc:TE}{pos:Pos}
theorem binT (ha:PE X a ta)(hb:PE X b tb){pins:List (Addr×Obj)}{s:Shared}{σ:St}{H:Hp}{R:V->V->Hp->Prop}(I:Inv X pins σ H s)(h:ta σ H fun x H1=>tb σ H1 fun y H2=>R x y H2){Q:Value->Shared->Prop}{f:Value->Value->Sem Value}(hf:∀v u s2 x y H2,Inv X pins σ H2 s2->RelV x v->RelV y u->R x y H2->wpAny (model X.prog X.w) X.A (f v u) Q X.xe s2):wpAny (model X.prog X.w) X.A (eval a X.env) (fun v s₁=>wpAny (model X.prog X.w) X.A (eval b X.env) (fun u s₂=>wpAny (model X.prog X.w) X.A (f v u) Q X.xe s₂) X.xe s₁) X.xe s:=by
 refine thn (ha pins s σ H _ I h) fun v s1 ⟨x,H1,I1,r1,q1⟩=>?_;refine thn (hb pins s1 σ H1 _ I1 q1) fun u s2 ⟨y,H2,I2,r2,q2⟩=>?_;exact hf v u s2 x y H2 I2 r1 r2 q2
theorem ar {op:Operator}{r:R2}(ho:OpR X (binaryOp op) r)(ha:PE X a ta)(hb:PE X b tb):PE X (.BinOp a op b pos) (tOp r ta tb):=by
 intro pins s σ H Q I h;exact wpAny_BinOp (binT ha hb I h fun v u s2 x y H2 I2 rx ry q=>ho pins s2 σ H2 x y v u Q I2 rx ry q)
theorem jd {op:UnaryOp}{r:V->Hp->VK->Prop}(ho:UnR X (unaryOp op) r)(ha:PE X a ta):PE X (.UnaryOp op a pos) (tUn r ta):=by
 intro pins s σ H Q I h;exact UnaryOp_ (thn (ha pins s σ H _ I h) fun v s1 ⟨x,H1,I1,r1,q1⟩=>ho pins s1 σ H1 x v Q I1 r1 q1)
theorem opI {f:Value->Value->Sem Value}{C:Int->Int->Prop}{g:Int->Int->Int}(rule:∀(i j:Int) (t u:Tok) (s:Shared) (Q:Value->Shared->Prop) (E:Value->Shared->Prop),C i j->Q (.int (g i j) s.toks) { s with toks:=s.toks+1 }->wpAny (model X.prog X.w) X.A (f (.int i t) (.int j u)) Q E s) :
 OpR X f (rI C fun i j=>.int (g i j)):=by
 intro pins s σ H x y v u Q I rx ry h;obtain⟨i,j,rfl,rfl,hc,q⟩:=h;obtain⟨t,rfl⟩:=rx;obtain⟨t',rfl⟩:=ry;exact rule i j t t' s _ _ hc ⟨.int (g i j),H,I.tok _,⟨_,rfl⟩,q⟩
theorem opI0 {f:Value->Value->Sem Value}{g:Int->Int->Int}(rule:∀(i j:Int) (t u:Tok) (s:Shared) (Q:Value->Shared->Prop) (E:Value->Shared->Prop),Q (.int (g i j) s.toks) { s with toks:=s.toks+1 }->wpAny (model X.prog X.w) X.A (f (.int i t) (.int j u)) Q E s) :
 OpR X f (rI0 fun i j=>.int (g i j)):=by
 intro pins s σ H x y v u Q I rx ry h;obtain⟨i,j,rfl,rfl,q⟩:=h;obtain⟨t,rfl⟩:=rx;obtain⟨t',rfl⟩:=ry;exact rule i j t t' s _ _ ⟨.int (g i j),H,I.tok _,⟨_,rfl⟩,q⟩
theorem opB0 {f:Value->Value->Sem Value}{g:Int->Int->Bool}(rule:∀(i j:Int) (t u:Tok) (s:Shared) (Q:Value->Shared->Prop) (E:Value->Shared->Prop),Q (.bool (g i j)) s->wpAny (model X.prog X.w) X.A (f (.int i t) (.int j u)) Q E s):OpR X f (rI0 fun i j=>.bl (g i j)):=by
 intro pins s σ H x y v u Q I rx ry h;obtain⟨i,j,rfl,rfl,q⟩:=h;obtain⟨t,rfl⟩:=rx;obtain⟨t',rfl⟩:=ry;exact rule i j t t' s _ _ ⟨.bl (g i j),H,I,rfl,q⟩
def CDiv (i j:Int):Prop:=0 < j/\j < 1073741824
def CPow (i j:Int):Prop:=0≤j/\j≤1000000/\i.natAbs < 2 ^ 64
def CMul (i j:Int):Prop:=(-(2 ^ 64) < i/\i < 2 ^ 64)∨(-(2 ^ 64) < j/\j < 2 ^ 64)
theorem CMul.ok {i j:Int}(h:CMul i j):IntMulOk i j:=by
 rcases h with⟨h1,h2⟩ | ⟨h1,h2⟩
 . exact .of_left (intBits_le_64 h1 h2)
 . exact .of_right (intBits_le_64 h1 h2)
theorem aY:OpR X (binaryOp .Add) (rI0 fun i j=>.int (i+j)):=opI0 fun _ _ _ _ _ _ _ q=>add_int q
theorem bQ:OpR X (binaryOp .Sub) (rI0 fun i j=>.int (i - j)):=opI0 fun _ _ _ _ _ _ _ q=>sub_int q
theorem dn:OpR X (binaryOp .Mult) (rI CMul fun i j=>.int (i*j)):=opI fun _ _ _ _ _ _ _ hc q=>mul_int q hc.ok
theorem cV:OpR X (binaryOp .FloorDiv) (rI CDiv fun i j=>.int (i / j)):=opI fun i j _ _ _ _ _ hc q=>by
 have h1:(0:Int) < j:=hc.1;have h2:j < 1073741824:=hc.2;exact floordiv_int (by omega) (by rw[Int.fdiv_eq_ediv_of_nonneg i (by omega)];exact q) (.inl (PyProof.noPylong_small (by omega)))
theorem b5:OpR X (binaryOp .Mod) (rI (fun _ j=>0 < j) fun i j=>.int (i % j)):=opI fun i j _ _ _ _ _ hc q=>by
 have h1:(0:Int) < j:=hc;exact mod_int' (by omega) (by rw[Int.fmod_eq_emod_of_nonneg i (by omega)];exact q)
theorem e9:OpR X (binaryOp .Pow) (rI CPow fun i j=>.int (i ^ j.toNat)):=opI fun _ _ _ _ _ _ _ hc q=>pow_int_small hc.1 hc.2.1 hc.2.2 q
theorem unI {f:Value->Sem Value}{g:Int->Int}(rule:∀(i:Int) (t:Tok) (s:Shared) (Q:Value->Shared->Prop) (E:Value->Shared->Prop),Q (.int (g i) s.toks) { s with toks:=s.toks+1 }->wpAny (model X.prog X.w) X.A (f (.int i t)) Q E s) :
 UnR X f (rU fun i=>.int (g i)):=by
 intro pins s σ H x v Q I rx h;obtain⟨i,rfl,q⟩:=h;obtain⟨t,rfl⟩:=rx;exact rule i t s _ _ ⟨.int (g i),H,I.tok _,⟨_,rfl⟩,q⟩
theorem im:UnR X (unaryOp .USub) (rU fun i=>.int (-i)):=unI fun _ _ _ _ _ q=>neg_int q
end
def scal:V->V->Bool
 | .non,.non=>true | .non,.int _=>true | .int _,.non=>true | .non,.bl _=>true | .bl _,.non=>true | .non,.str _=>true | .str _,.non=>true
 | .int _,.int _=>true | .bl _,.bl _=>true | .str _,.str _=>true | .byt _,.byt _=>true
 | .int _,.str _=>true | .str _,.int _=>true | .bl _,.str _=>true | .str _,.bl _=>true
 | _,_=>false
def rEq:R2:=fun x y H Q=>scal x y=true/\Q (.bl (decide (x=y))) H
def rNe:R2:=fun x y H Q=>scal x y=true/\Q (.bl (!decide (x=y))) H
theorem iW {i j:Int}:decide (V.int i=V.int j)=(i == j):=by
 rw[Bool.eq_iff_iff];simp
theorem jp {i j:Bool}:decide (V.bl i=V.bl j)=(i == j):=by
 rw[Bool.eq_iff_iff];simp
theorem iV {i j:Str}:decide (V.str i=V.str j)=(i == j):=by
 rw[Bool.eq_iff_iff];simp
theorem iX {i j:Array UInt8}:decide (V.byt i=V.byt j)=(i.toList == j.toList):=by
 rw[Bool.eq_iff_iff];cases i;cases j;simp
section
variable {X:Cx}{a b c:Expr}{ta tb tc:TE}{pos:Pos}
theorem b9 {pins:List (Addr×Obj)}{σ:St}{H:Hp}{s:Shared}{Q:VK}{k k':Bool}(I:Inv X pins σ H s)(q:Q (.bl k) H)(e:k=k'):EP X pins σ Q (.bool k') s:=by
 subst e;exact⟨.bl k,H,I,rfl,q⟩
theorem aV:OpR X (compareOp .Eq) rEq:=by
 intro pins s σ H x y v u Q I rx ry h;obtain⟨hs,q⟩:=h;cases x with
 | non =>
  cases rx;cases y with
  | non=>cases ry;exact PySem.EqNone.eq_none_none (b9 I q (by simp))
  | bl j=>cases ry;exact PySem.EqNone.eq_none_bool (b9 I q (by simp))
  | int j=>obtain⟨t',rfl⟩:=ry;exact PySem.EqNone.eq_none_int (b9 I q (by simp))
  | str j=>obtain⟨t',rfl⟩:=ry;exact PySem.EqNone.eq_none_str (b9 I q (by simp))
  | _=>exact absurd (show false=true from hs) Bool.false_ne_true
 | bl i =>
  cases rx;cases y with
  | non=>cases ry;exact PySem.EqNone.eq_bool_none (b9 I q (by simp))
  | bl j=>cases ry;exact eq_bool (b9 I q jp)
  | str j=>obtain⟨t',rfl⟩:=ry;exact PySem.EqMixed.eq_bool_str (b9 I q (by simp))
  | _=>exact absurd (show false=true from hs) Bool.false_ne_true
 | int i =>
  obtain⟨t,rfl⟩:=rx;cases y with
  | non=>cases ry;exact PySem.EqNone.eq_int_none (b9 I q (by simp))
  | int j=>obtain⟨t',rfl⟩:=ry;exact eq_int (b9 I q iW)
  | str j=>obtain⟨t',rfl⟩:=ry;exact PySem.EqMixed.eq_int_str (b9 I q (by simp))
  | _=>exact absurd (show false=true from hs) Bool.false_ne_true
 | str i =>
  obtain⟨t,rfl⟩:=rx;cases y with
  | non=>cases ry;exact PySem.EqNone.eq_str_none (b9 I q (by simp))
  | bl j=>cases ry;exact PySem.EqMixed.eq_str_bool (b9 I q (by simp))
  | int j=>obtain⟨t',rfl⟩:=ry;exact PySem.EqMixed.eq_str_int (b9 I q (by simp))
  | str j=>obtain⟨t',rfl⟩:=ry;exact eq_str (b9 I q iV)
  | _=>exact absurd (show false=true from hs) Bool.false_ne_true
 | byt i =>
  obtain⟨t,rfl⟩:=rx;cases y with
  | byt j=>obtain⟨t',rfl⟩:=ry;exact PySem.W.eq_bytes (b9 I q iX)
  | _=>exact absurd (show false=true from hs) Bool.false_ne_true
 | _=>cases y<;>exact absurd (show false=true from hs) Bool.false_ne_true
theorem dy:OpR X (compareOp .NotEq) rNe:=by
 intro pins s σ H x y v u Q I rx ry h;obtain⟨hs,q⟩:=h;cases x with
 | non =>
  cases rx;cases y with
  | non=>cases ry;exact PySem.EqNone.ne_none_none (b9 I q (by simp))
  | bl j=>cases ry;exact PySem.EqNone.ne_none_bool (b9 I q (by simp))
  | int j=>obtain⟨t',rfl⟩:=ry;exact PySem.EqNone.ne_none_int (b9 I q (by simp))
  | str j=>obtain⟨t',rfl⟩:=ry;exact PySem.EqNone.ne_none_str (b9 I q (by simp))
  | _=>exact absurd (show false=true from hs) Bool.false_ne_true
 | bl i =>
  cases rx;cases y with
  | non=>cases ry;exact PySem.EqNone.ne_bool_none (b9 I q (by simp))
  | bl j=>cases ry;exact ne_bool (b9 I q (congrArg not jp))
  | str j=>obtain⟨t',rfl⟩:=ry;exact PySem.EqMixed.ne_bool_str (b9 I q (by simp))
  | _=>exact absurd (show false=true from hs) Bool.false_ne_true
 | int i =>
  obtain⟨t,rfl⟩:=rx;cases y with
  | non=>cases ry;exact PySem.EqNone.ne_int_none (b9 I q (by simp))
  | int j=>obtain⟨t',rfl⟩:=ry;exact ne_int (b9 I q (congrArg not iW))
  | str j=>obtain⟨t',rfl⟩:=ry;exact PySem.EqMixed.ne_int_str (b9 I q (by simp))
  | _=>exact absurd (show false=true from hs) Bool.false_ne_true
 | str i =>
  obtain⟨t,rfl⟩:=rx;cases y with
  | non=>cases ry;exact PySem.EqNone.ne_str_none (b9 I q (by simp))
  | bl j=>cases ry;exact PySem.EqMixed.ne_str_bool (b9 I q (by simp))
  | int j=>obtain⟨t',rfl⟩:=ry;exact PySem.EqMixed.ne_str_int (b9 I q (by simp))
  | str j=>obtain⟨t',rfl⟩:=ry;exact ne_str (b9 I q (congrArg not iV))
  | _=>exact absurd (show false=true from hs) Bool.false_ne_true
 | byt i =>
  obtain⟨t,rfl⟩:=rx;cases y with
  | byt j=>obtain⟨t',rfl⟩:=ry;exact PySem.W.ne_bytes (b9 I q (congrArg not iX))
  | _=>exact absurd (show false=true from hs) Bool.false_ne_true
 | _=>cases y<;>exact absurd (show false=true from hs) Bool.false_ne_true
theorem dP:OpR X (compareOp .Lt) (rI0 fun i j=>.bl (decide (i < j))):=opB0 fun _ _ _ _ _ _ _ q=>lt_int q
theorem op_le:OpR X (compareOp .LtE) (rI0 fun i j=>.bl (decide (i≤j))):=opB0 fun _ _ _ _ _ _ _ q=>le_int q
theorem gp:OpR X (compareOp .Gt) (rI0 fun i j=>.bl (decide (j < i))):=opB0 fun _ _ _ _ _ _ _ q=>gt_int q
theorem gr:OpR X (compareOp .GtE) (rI0 fun i j=>.bl (decide (j≤i))):=opB0 fun _ _ _ _ _ _ _ q=>ge_int q
theorem av (b:Expr){op:CmpOp}(h:op≠.In:=by decide)(h2:op≠.NotIn:=by decide):behindInMarks op b=false:=by
 have e1:(op == CmpOp.In)=false:=by cases op<;>first | rfl | exact absurd rfl h
 have e2:(op == CmpOp.NotIn)=false:=by cases op<;>first | rfl | exact absurd rfl h2
 cases b<;>simp[behindInMarks,e1,e2]
theorem aU {op:CmpOp}{r:R2}(ho:OpR X (compareOp op) r)(ha:PE X a ta)(hb:PE X b tb)(hm:behindInMarks op b=false):PE X (.Compare a [op] [b] pos) (tOp r ta tb):=by
 intro pins s σ H Q I h;exact wpAny_Compare1 (binT ha hb I h fun v u s2 x y H2 I2 rx ry q=>ho pins s2 σ H2 x y v u Q I2 rx ry q) hm
def tTest (t:TE):TT:=fun σ H Q=>t σ H fun x H'=>∃k,x = .bl k/\Q k H'
theorem ax {op:CmpOp}{r:R2}(ho:OpR X (compareOp op) r)(ha:PE X a ta)(hb:PE X b tb)(hm:behindInMarks op b=false):PT X (.Compare a [op] [b] pos) (tTest (tOp r ta tb)):=by
 intro pins s σ H Q I h;refine wpAny_isTrue_Compare1 (thn (ha pins s σ H _ I h) fun v s1 ⟨x,H1,I1,r1,q1⟩=>thn (hb pins s1 σ H1 _ I1 q1) fun u s2 ⟨y,H2,I2,r2,q2⟩ =>
  thn (ho pins s2 σ H2 x y v u _ I2 r1 r2 q2) fun c s3 ⟨z,H3,I3,r3,k,e,q3⟩=>?_) hm
 subst e;cases r3;exact wpAny_truthy_bool ⟨H3,I3,q3⟩
def tChain (r r':R2)(ta tb tc:TE):TE:=fun σ H Q=>ta σ H fun x H1=>tb σ H1 fun y H2=>r x y H2 fun z H3=>∃k,z = .bl k ∧
 (if k=true then tc σ H3 fun w' H4=>r' y w' H4 Q else Q (.bl false) H3)
theorem pe_chain {op op':CmpOp}{r r':R2}(ho:OpR X (compareOp op) r)(ho':OpR X (compareOp op') r')(ha:PE X a ta)(hb:PE X b tb)(hc:PE X c tc)(hm:lastMarks [op,op'] [b,c]=false:=by with_unfolding_all rfl):PE X (.Compare a [op,op'] [b,c] pos) (tChain r r' ta tb tc):=by
 intro pins s σ H Q I h;refine Compare_chain (thn (ha pins s σ H _ I h) fun v s1 ⟨x,H1,I1,r1,q1⟩=>chain_link (thn (hb pins s1 σ H1 _ I1 q1) fun u s2 ⟨y,H2,I2,r2,q2⟩ =>
  thn (ho pins s2 σ H2 x y v u _ I2 r1 r2 q2) fun d s3 ⟨z,H3,I3,r3,k,e,q3⟩=>?_)) hm
 subst e;cases r3;refine wpAny_truthy_bool ?_;cases k with
 | false=>exact ite_ff ⟨.bl false,H3,I3,rfl,q3⟩
 | true=>exact ite_tt (chain_last (thn (hc pins s3 σ H3 _ I3 q3) fun w' s4 ⟨z',H4,I4,r4,q4⟩=>ho' pins s4 σ H4 y z' u w' Q I4 r2 r4 q4))
theorem gT:(sizeLine:Nat) < 2 ^ 63:=by rw[sizeLine_eq];decide
theorem f6 {x:V}{us:List Value}(r:Vals [x] us):∃u,us=[u]/\RelV x u:=by
 cases r with
 | cons r1 r2=>cases r2;exact⟨_,rfl,r1⟩
theorem iZ {x y:V}{us:List Value}(r:Vals [x,y] us):∃u w',us=[u,w']/\RelV x u/\RelV y w':=by
 cases r with
 | cons r1 r2 =>
  cases r2 with
  | cons r3 r4=>cases r4;exact⟨_,_,rfl,r1,r3⟩
theorem gD (hc:X.calm=true):cE X (.builtin "max") (fun xs H Q=>∃i j,xs=[.int i,.int j]/\Q (.int (if j > i then j else i)) H):=by
 intro pins s σ H xs us Q I r h;obtain⟨i,j,rfl,q⟩:=h;obtain⟨u,w',rfl,⟨t,rfl⟩,⟨t',rfl⟩⟩:=iZ r;refine max_two_ints (I.ok.hd hc) fun h' tk k=>⟨_,H,I.kept k,?_,q⟩;by_cases hj:j > i
 . rw[if_pos hj,if_pos hj];exact⟨_,rfl⟩
 . rw[if_neg hj,if_neg hj];exact⟨_,rfl⟩
theorem call_min2 (hc:X.calm=true):cE X (.builtin "min") (fun xs H Q=>∃i j,xs=[.int i,.int j]/\Q (.int (if j < i then j else i)) H):=by
 intro pins s σ H xs us Q I r h;obtain⟨i,j,rfl,q⟩:=h;obtain⟨u,w',rfl,⟨t,rfl⟩,⟨t',rfl⟩⟩:=iZ r;refine min_two_ints (I.ok.hd hc) fun h' tk k=>⟨_,H,I.kept k,?_,q⟩;by_cases hj:j < i
 . rw[if_pos hj,if_pos hj];exact⟨_,rfl⟩
 . rw[if_neg hj,if_neg hj];exact⟨_,rfl⟩
theorem dM:cE X (.type "int") (fun xs H Q=>(∃i,xs=[.int i]/\Q (.int i) H)∨∃k,xs=[.bl k]/\Q (.int (if k then 1 else 0)) H):=by
 intro pins s σ H xs us Q I r h;rcases h with⟨i,rfl,q⟩ | ⟨k,rfl,q⟩
 . obtain⟨u,rfl,t,rfl⟩:=f6 r;exact call_int_int ⟨.int i,H,I,⟨_,rfl⟩,q⟩
 . obtain⟨u,rfl,r1⟩:=f6 r;cases r1;exact call_int_bool ⟨.int (if k then 1 else 0),H,I.tok _,⟨_,rfl⟩,q⟩
end
end L2
namespace L2
open PySem PySem.Spec PyProof.Rows
structure ObjM (h:Heap) (x dx C:Addr) (mA:Str->Option Value):Prop where
 obj:h.get? x=some (PySem.W.instObj C dx)
 ns:h.Ns1 dx mA
 ne:dx≠x
theorem lookIn_ns {h:Heap}{dx:Addr}{mA:Str->Option Value}(n:h.Ns1 dx mA):∃od,h.get? dx=some od/\∀name,PySem.W.lookIn name od=some (mA name):=by
 obtain⟨o,es,ep,ho,hd,hk,_,hm⟩:=n;refine⟨o,ho,fun name=>?_⟩;have e:=hm name;unfold nsFind findBy at e;rw[←Array.find?_toList]at e;unfold PySem.W.lookIn;rw[hd];dsimp only
 split
 . rename_i y q;rw[q]at e;exact congrArg some e
 . rename_i q;rw[q]at e;have a:es.toList.any (·.refKey)=false:=by
    rw[List.any_eq_false];intro y hy;obtain⟨z,t,hkey⟩:=hk y (Array.mem_toList_iff.mp hy);simp[DictEntry.refKey,hkey]
   have a':¬es.toList.any (·.refKey)=true:=by rw[a];exact Bool.false_ne_true
   rw[if_neg a'];exact congrArg some e
theorem ObjM.look {h:Heap}{x dx C:Addr}{mA:Str->Option Value}(I:ObjM h x dx C mA):∃od,PySem.W.InstAt h x (PySem.W.instObj C dx) C (some od)/\∀name,PySem.W.lookIn name od=some (mA name):=
 let ⟨od,ho,hl⟩:=lookIn_ns I.ns
 ⟨od,⟨I.obj,rfl,rfl,ho⟩,hl⟩
section
variable {prog:Program}{w:World}{A:Around}{E:Value->Shared->Prop}{s:Shared}{K:PySem.W.Frag}{x dx C f:Addr}{mA:Str->Option Value}{name:Str}{v:Value}
theorem get_meth {pl:Sem Bool}{Q:Value×List Value->Shared->Prop}(X:K.In s.heap)(I:ObjM s.heap x dx C mA)(hg:PySem.W.plainGet K C name=true)(hf:PySem.W.findIn K (.ref C) name=some (some (.ref f)))(ht:PySem.W.isFn K (.ref f)=true)(hv:mA name=none)(h:Q (.ref f,[.ref x]) s):wpAny (model prog w) A (getMethod (.ref x) name pl) Q E s:=by
 obtain⟨od,J,hl⟩:=I.look;exact PySem.W.method_fn X J (PySem.W.plainGet_of hg).1 (PySem.W.plainGet_of hg).2 hf (beq_iff_eq.mp ht) (by show(PySem.W.lookIn name od).map (·.isSome)=some false;rw[hl,hv];rfl) h
theorem make_map0 {R:Result->Shared->Prop}(X:K.In s.heap)(hm:PySem.W.makesIn K C=true)(hi:PySem.W.findIn K (.ref C) "__init__" = some (some (.builtin "object.__init__")))(hb:∀self,PySem.W.Looks (model prog w) s.heap (bindSpecial (.builtin "object.__init__") self) (.builtin "object.__init__",[self]))(h:codeAny (model prog w) (A.under (.builtin "type.__call__" ⟨[.ref C],[]⟩)) (.call (.builtin "object.__init__") ⟨[.ref (s.heap.objs.size+1)],[]⟩) (PySem.W.InitBack (s.heap.objs.size+1) R) { s with heap:=(s.heap.push PySem.W.emptyDict).push (PySem.W.instObj C s.heap.objs.size) }) :
 codeAny (model prog w) A (.call (.ref C) ⟨[],[]⟩) R s:=by
 obtain⟨hh,g,d,t,os⟩:=s;exact PySem.W.make_core (PySem.W.makes_of X hm) (PySem.W.looks_findIn X hi) hb (.inr ⟨rfl,rfl⟩) h
end
theorem RelO.none_of {o:Option Value}(r:RelO none o):o=none:=by
 cases o with
 | none=>rfl
 | some u=>exact(show False from r).elim
section
variable {P:Program}{w:World}{H H':Hp}{h h':Heap}{a C dx:Addr}{fs fs':List (Str×V)}
theorem ins_get (hok:HOk P w H h)(e:H a=some (.ins C dx fs)):∃mA,ObjM h a dx C mA/\(∀f,RelO (fs.lookup f) (mA f))/\PySem.Within mA (fs.map (·.1))/\fs.length≤1000/\H dx=some (.own a):=by
 obtain⟨d,z,ne,ob,mA,n,r,q⟩:=(show ObjOk P w H h a (.ins C dx fs)from hok a _ e)
 exact⟨mA,⟨ob,n,ne⟩,r,q,z,d⟩
end
structure Cls (K:PySem.W.Frag) (C:Addr):Prop where
 pg:PySem.W.plainGet K C Str.empty=true
 hd:PySem.W.hasDictIn K C=true
 po:PySem.W.plainOver K C=true
 sa:PySem.W.findIn K (.ref C) "__setattr__" = some (some (.builtin "object.__setattr__"))
theorem Cls.get {K:PySem.W.Frag}{C:Addr}(c:Cls K C)(f:Str):PySem.W.plainGet K C f=true:=c.pg
structure Meth (K:PySem.W.Frag) (C:Addr) (m:Str) (f:Addr):Prop where
 at_:PySem.W.findIn K (.ref C) m=some (some (.ref f))
 fn:PySem.W.isFn K (.ref f)=true
 kp:PySem.W.keepIn K (.ref f)=true
section
variable {X:Cx}{pins:List (Addr×Obj)}{σ:St}{H:Hp}{s:Shared}{a C dx:Addr}{fs:List (Str×V)}{f:Str}{v:V}{A:Around}{E:Value->Shared->Prop}
theorem g7 {m:Str}{g:Addr}{pl:Sem Bool}{Q:Value×List Value->Shared->Prop}(I:Inv X pins σ H s)(e:H a=some (.ins C dx fs))(c:Cls X.K C)(k:Meth X.K C m g)(l:fs.lookup m=none)(h:Q (.ref g,[.ref a]) s):wpAny (model X.prog X.w) A (getMethod (.ref a) m pl) Q E s:=by
 obtain⟨mA,O,r,_,_,_⟩:=ins_get I.hok e;have hn:mA m=none:=RelO.none_of (by rw[←l];exact r m)
 exact get_meth I.kIn O (c.get m) k.at_ k.fn hn h
theorem Inv.made (I:Inv X pins σ H s):Inv X pins σ (upd (upd H s.heap.objs.size (.own (s.heap.objs.size+1))) (s.heap.objs.size+1) (.ins C s.heap.objs.size [])) { s with heap:=(s.heap.push PySem.W.emptyDict).push (PySem.W.instObj C s.heap.objs.size) }:=by
 have e1:(s.heap.push PySem.W.emptyDict).get? s.heap.objs.size=some PySem.W.emptyDict:=Heap.get?_push_size s.heap rfl;have e2:((s.heap.push PySem.W.emptyDict).push (PySem.W.instObj C s.heap.objs.size)).get? (s.heap.objs.size+1)=some (PySem.W.instObj C s.heap.objs.size):=by
  have:=Heap.get?_push_size (s.heap.push PySem.W.emptyDict) (o:=PySem.W.instObj C s.heap.objs.size) rfl
  rwa [Heap.size_push]at this
 have e3:(s.heap.push PySem.W.emptyDict).Ns s.heap.objs.size (fun _=>none):=⟨PySem.W.emptyDict,#[],_,e1,rfl,(fun e he=>absurd he (by simp)),fun _=>rfl⟩
 have I1:=I.laid (a:=s.heap.objs.size) (o:=.own (s.heap.objs.size+1)) (h':=s.heap.push PySem.W.emptyDict) (t':=s.toks) (fun b u q=>Heap.get?_push_of_some _ q) (Nat.le_refl _) ⟨_,e1⟩;refine I1.laid (a:=s.heap.objs.size+1) (o:=.ins C s.heap.objs.size []) (t':=s.toks) (fun b u q=>Heap.get?_push_of_some _ q) (Nat.le_of_eq (Heap.size_push _ _)) ?_;have ne:s.heap.objs.size≠s.heap.objs.size+1:=Nat.ne_of_lt (Nat.lt_succ_self _);refine⟨by rw[ae ne,a9],Nat.zero_le _,ne,e2,fun _=>none,(Heap.Ns1.of_empty e3).at fun o q=>Heap.get?_push_of_some _ q,fun _=>True.intro,fun y hy=>absurd rfl hy⟩
end
section
variable {X:Cx}{o e value:Expr}{f:Str}{pos pos' tpos:Pos}{ta tv:TE}
end
section
variable {X:Cx}{pins:List (Addr×Obj)}{σ:St}{H:Hp}{s:Shared}{A:Around}{E:Value->Shared->Prop}{Q:Value->Shared->Prop}{c:Value}{b:Bool}
inductive TyOf (K:PySem.W.Frag) (H:Hp):V->Value->Prop where
 | non:TyOf K H .non (.type "NoneType")
 | bl (x:Bool):TyOf K H (.bl x) (.type "bool")
 | int (i:Int):TyOf K H (.int i) (.type "int")
 | str (x:Str):TyOf K H (.str x) (.type "str")
 | flt (x:UInt64):TyOf K H (.flt x) (.type "float")
 | lst {a:Addr} {xs:List V} (e:H a=some (.lst xs)):TyOf K H (.ref a) (.type "list")
 | frz {a:Addr} {o:Obj} {xs:List V} (e:H a=some (.frz o (.lst xs))):TyOf K H (.ref a) (.type "list")
 | tup {a:Addr} {xs:List V} (e:H a=some (.tup xs)):TyOf K H (.ref a) (.type "tuple")
 | dK {a:Addr} {kvs:List (Key×V)} (e:H a=some (.dK kvs)):TyOf K H (.ref a) (.type "dict")
 | dT {a:Addr} {kvs:List (List Key×V)} (e:H a=some (.dT kvs)):TyOf K H (.ref a) (.type "dict")
 | ins {a C dx:Addr} {fs:List (Str×V)} (e:H a=some (.ins C dx fs)) (cl:Cls K C) (ha:PySem.W.findIn K (.ref C) "__class__" = some (some (.builtin "object.__class__")))
  (hn:PySem.W.specialIn K (.builtin "object.__class__") "__get__" = some (some (.builtin "getset_descriptor.__get__"))) (htk:PySem.W.takesIn K (.builtin "object.__class__")=some true)
  (hm:PySem.W.mroIn K C (.type "object")=some true):TyOf K H (.ref a) (.ref C)
theorem isinst_ok {x:V}{u t:Value}(I:Inv X pins σ H s)(rx:RelV x u)(ty:TyOf X.K H x t)(e:PySem.W.kitOne X.K t c=some b)(h:∀tk,Q (.bool b) { s with toks:=tk }) :
 wpAny (model X.prog X.w) A (call (.builtin "isinstance") [u,c]) Q E s:=by
 cases ty with
 | non=>cases(show u=Value.none from rx);exact PySem.W.kia_one PySem.W.kitx_none I.kIn True.intro e (fun z=>nomatch z) h
 | bl y=>cases(show u=Value.bool y from rx);exact PySem.W.kia_one PySem.W.kitx_bool I.kIn True.intro e (fun z=>nomatch z) h
 | int i=>obtain⟨t,q⟩:=(show ∃t,u=Value.int i t from rx);cases q;exact PySem.W.kia_one PySem.W.kitx_int I.kIn True.intro e (fun z=>nomatch z) h
 | str y=>obtain⟨t,q⟩:=(show ∃t,u=Value.str y t from rx);cases q;exact PySem.W.kia_one PySem.W.kitx_str I.kIn True.intro e (fun z=>nomatch z) h
 | flt y=>obtain⟨t,q⟩:=(show ∃t,u=Value.float y t from rx);cases q;exact PySem.W.kia_one PySem.W.kitx_float I.kIn True.intro e (fun z=>nomatch z) h
 | @lst a xs ea =>
  cases(show u=Value.ref a from rx)
  obtain⟨_,_,n,_,h1⟩:=(show ObjOk X.prog X.w H s.heap a (.lst xs)from I.hok a _ ea)
  exact PySem.W.kia_one PySem.W.kitx_list I.kIn ⟨_,h1,rfl⟩ e (fun z=>nomatch z) h
 | @frz a ob xs ea =>
  cases(show u=Value.ref a from rx)
  obtain⟨_,_,_,n,_,h1⟩:=(show ObjOk X.prog X.w H s.heap a (.frz ob (.lst xs))from I.hok a _ ea)
  exact PySem.W.kia_one PySem.W.kitx_list I.kIn ⟨_,h1,rfl⟩ e (fun z=>nomatch z) h
 | @tup a xs ea =>
  cases(show u=Value.ref a from rx)
  obtain⟨_,_,_,p⟩:=(show ObjOk X.prog X.w H s.heap a (.tup xs)from I.hok a _ ea)
  obtain⟨o,h1,h2,_⟩:=p;exact PySem.W.kia_one PySem.W.kitx_tuple I.kIn ⟨o,h1,h2⟩ e (fun z=>nomatch z) h
 | @dK a kvs ea =>
  cases(show u=Value.ref a from rx)
  obtain⟨_,_,vs,_,p⟩:=(show ObjOk X.prog X.w H s.heap a (.dK kvs)from I.hok a _ ea)
  obtain⟨o,es,ep,h1,h2,_⟩:=p;exact PySem.W.kia_one PySem.W.kitx_dict I.kIn ⟨o,h1,h2.1⟩ e (fun z=>nomatch z) h
 | @dT a kvs ea =>
  cases(show u=Value.ref a from rx)
  obtain⟨_,_,xs,_,o,es,ep,h1,h2,_⟩:=(show ObjOk X.prog X.w H s.heap a (.dT kvs)from I.hok a _ ea)
  exact PySem.W.kia_one PySem.W.kitx_dict I.kIn ⟨o,h1,h2.1⟩ e (fun z=>nomatch z) h
 | @ins a C dx fs ea cl ha hn htk hm =>
  cases(show u=Value.ref a from rx)
  obtain⟨mA,O,_⟩:=ins_get I.hok ea;obtain⟨od,J,_⟩:=O.look;exact PySem.W.kia_one (PySem.W.kitx_own (cl.get _) cl.hd ha hn htk hm) I.kIn J e (fun z=>nomatch z) h
end
end L2
namespace L2
open PySem PySem.Spec PyProof.Rows
structure Room (k:Nat) (A:Around):Prop where
 hd:A.handled=none
 dp:A.depth+3*k+5 < recursionLimit
 un:A.units+16*k+200 < cLine
theorem Room.mono {j k:Nat}{A:Around}(r:Room k A)(h:j≤k):Room j A:=⟨r.hd,by have:=r.dp;omega,by have:=r.un;omega⟩
theorem Room.deeper {k:Nat}{A:Around}(r:Room (k+1) A)(env:Env):Room k (A.deeper env):=
 ⟨r.hd,by have:=r.dp;show A.depth+1+3*k+5 < _;omega,by have:=r.un;show A.units+3+16*k+200 < _;omega⟩
theorem Room.depth {k:Nat}{A:Around}(r:Room k A):A.depth < recursionLimit:=by have:=r.dp;omega
theorem Room.units {k:Nat}{A:Around}(r:Room k A):A.units+64 < cLine:=by have:=r.un;omega
def tNil:TA:=fun _ H Q=>Q [] H
def bZ (ta:TE)(tr:TA):TA:=fun σ H Q=>ta σ H fun x H1=>tr σ H1 fun xs H2=>Q (x::xs) H2
section
variable {X:Cx}{e:Expr}{es:List Expr}{te:TE}{t:TA}{pos:Pos}
theorem a4:PA X [] tNil:=fun _ _ _ _ H Q I h=>Calls.spliced_nil ⟨[],H,I,.nil,h⟩
theorem a2 (ha:PE X e te)(hr:PA X es t)(hs:starEach (e::es) X.env=(false,eval e X.env)::starEach es X.env:=by rfl):PA X (e::es) (bZ te t):=by
 intro pos pins s σ H Q I h;rw[hs];show wpAny _ _ (spliced ((false,eval e X.env)::backTo pos (starEach es X.env))) _ _ s;refine Calls.spliced_cons (thn (ha pins s σ H _ I h) fun u s1 ⟨x,H1,I1,r1,q1⟩=>?_);exact thn (hr pos pins s1 σ H1 _ I1 q1) fun us s2 ⟨xs,H2,I2,r2,q2⟩=>⟨x::xs,H2,I2,.cons r1 r2,q2⟩
def tTup (t:TA):TE:=fun σ H Q=>t σ H fun xs H1=>xs.length≤sizeLine/\∀p,H1 p=none->Q (.ref p) (upd H1 p (.tup xs))
def tLst (t:TA):TE:=fun σ H Q=>t σ H fun xs H1=>xs.length≤sizeLine/\∀p,H1 p=none->Q (.ref p) (upd H1 p (.lst xs))
theorem g4 {x1}(h:PA X es t):PE X (.Tuple es x1 pos) (tTup t):=by
 intro pins s σ H Q I hq;refine wpAny_Tuple_spliced (thn (h pos pins s σ H _ I hq) fun us s1 ⟨xs,H1,I1,r,z,q⟩=>⟨by rw[←r.length];exact z,?_⟩)
 have hf:H1 s1.heap.objs.size=none:=I1.hok.fresh (Nat.le_refl _);refine⟨.ref s1.heap.objs.size,upd H1 s1.heap.objs.size (.tup xs),I1.laid (t':=s1.toks) (fun b u e=>Heap.get?_push_of_some _ e) (Nat.le_refl _) ?_,rfl,q _ hf⟩;exact⟨z,us,r,⟨_,Heap.get?_push_size _ rfl,rfl,_,rfl⟩⟩
theorem aK (h:PA X es t):PE X (.List es pos) (tLst t):=by
 intro pins s σ H Q I hq;refine wpAny_List_spliced (thn (h pos pins s σ H _ I hq) fun us s1 ⟨xs,H1,I1,r,z,q⟩=>⟨by rw[←r.length];exact z,?_⟩)
 have hf:H1 s1.heap.objs.size=none:=I1.hok.fresh (Nat.le_refl _);refine⟨.ref s1.heap.objs.size,upd H1 s1.heap.objs.size (.lst xs),I1.laid (t':=s1.toks) (fun b u e=>Heap.get?_push_of_some _ e) (Nat.le_refl _) ?_,rfl,q _ hf⟩;exact⟨z,us,0,r,Heap.get?_push_size _ rfl⟩
end
abbrev Sp:=List V->Hp->VK->XK->Prop
abbrev CXT:=List Env->Hp->Shared->XK->Value->Shared->Prop
structure Env0 (P:Program) (w:World) (K:PySem.W.Frag) (mg:Str->Option Value) (base:Heap) (A:Around) (outer:List Env) (s:Shared) (H:Hp):Prop where
 frames:A.frames=some outer
 mod:Mod K mg base
 bs:∀b o,base.get? b=some o->s.heap.get? b=some o/\H b=none
 bsz:base.objs.size≤s.heap.objs.size
 funs:s.heap.FunFrames base outer
 frf:∀b∈frs outer,H b=none
 hok:HOk P w H s.heap
 bare:AllBare s.gens
def CE (outer:List Env)(P:Program)(w:World)(H:Hp)(s:Shared)(Q:VK)(u:Value)(s':Shared):Prop:=
 ∃v H',s'.os=s.os/\AllBare s'.gens/\Un (frs outer) [] H H' s.heap s'.heap/\HOk P w H' s'.heap/\RelV v u/\Q v H'
def CR (CX:CXT)(outer:List Env)(P:Program)(w:World)(H:Hp)(s:Shared)(Q:VK)(E:XK)(r:Result)(s':Shared):Prop:=
 match r with
 | .ok (.ret u)=>CE outer P w H s Q u s'
 | .ok _=>False
 | .error e=>CX outer H s E e s'
structure FnOk (P:Program) (w:World) (K:PySem.W.Frag) (mg:Str->Option Value) (base:Heap) (CX:CXT) (k:Nat) (f:Addr) (fd:FuncData) (ps:List Str) (sp:Sp):Prop where
 len:∀vs H Q E,sp vs H Q E->vs.length=ps.length
 run:∀(A:Around) (outer:List Env) (s:Shared) (H:Hp) (args:Args) (us:List Value) (vs:List V) (Q:VK) (E:XK),Room k A->Env0 P w K mg base A outer s H->BindsTo s fd args (ps.zip us)->Vals vs us->sp vs H Q E →
  codeAny (model P w) A (.call (.ref f) args) (CR CX outer P w H s Q E) s
theorem FnOk.mono {P:Program}{w:World}{K:PySem.W.Frag}{mg:Str->Option Value}{base:Heap}{CX:CXT}{j k:Nat}{f:Addr}{fd:FuncData}{ps:List Str}{sp:Sp}(F:FnOk P w K mg base CX j f fd ps sp)(h:j≤k):FnOk P w K mg base CX k f fd ps sp:=⟨F.len,fun A outer s H args us vs Q E hr=>F.run A outer s H args us vs Q E (hr.mono h)⟩
theorem FnOk.imp {P:Program}{w:World}{K:PySem.W.Frag}{mg:Str->Option Value}{base:Heap}{CX:CXT}{k:Nat}{f:Addr}{fd:FuncData}{ps:List Str}{sp sp':Sp}(F:FnOk P w K mg base CX k f fd ps sp)(h:∀vs H Q E,sp' vs H Q E->sp vs H Q E):FnOk P w K mg base CX k f fd ps sp':=
 ⟨fun vs H Q E q=>F.len vs H Q E (h _ _ _ _ q),fun A outer s H args us vs Q E hr he hb hv hs=>F.run A outer s H args us vs Q E hr he hb hv (h _ _ _ _ hs)⟩
section
variable {X:Cx}{pins:List (Addr×Obj)}{σ:St}{H:Hp}{s s':Shared}
theorem Inv.env0 (I:Inv X pins σ H s):Env0 X.prog X.w X.K X.mg X.base X.A X.stack s H:=
 ⟨I.ok.frames,I.ok.mod,I.bs,Nat.le_trans I.ok.bsz I.sz,I.stack,I.stkFree,I.hok,I.bare⟩
theorem Inv.after {Q:VK}{u:Value}(I:Inv X pins σ H s)(h:CE X.stack X.prog X.w H s Q u s'):EP X pins σ Q u s':=by
 obtain⟨v,H',os,bare,un,hok,r,q⟩:=h;obtain⟨hh,g,d,t,os'⟩:=s';obtain rfl:os'=s.os:=os;exact⟨v,H',I.call (h':=hh) (g':=g) (d':=d) (t':=t) (ch:=[]) un hok bare (fun b z=>absurd z (by simp)),r,q⟩
end
def ju (sp:Sp)(dvs:List V)(E:XK)(t:TA):TE:=fun σ H Q=>t σ H fun vs H1=>sp (vs++dvs) H1 Q E
def tMeth (C:Addr)(m:Str)(sp:Sp)(dvs:List V)(E:XK)(ta:TE)(t:TA):TE:=fun σ H Q=>ta σ H fun x H1=>∃a dx fs,x = .ref a/\H1 a=some (.ins C dx fs)/\fs.lookup m=none ∧
 t σ H1 fun vs H2=>sp (x::(vs++dvs)) H2 Q E
def Binds (K:PySem.W.Frag)(fd:FuncData)(ps:List Str)(ds:List Value):Prop:=
 ∀(s:Shared) (us:List Value),K.In s.heap->(us++ds).length=ps.length->BindsTo s fd ⟨us,[]⟩ (ps.zip (us++ds))
theorem Binds.all {K:PySem.W.Frag}{fd:FuncData}{ps:List Str}(h:∀us:List Value,us.length=ps.length->bindArgs fd ⟨us,[]⟩=pure (ps.zip us)):Binds K fd ps []:=fun s us _ hl=>by
 rw[List.append_nil]at hl⊢;exact .of_eq (h us hl)
def eZ (CX:CXT)(X:Cx)(E:XK):Prop:=∀(pins:List (Addr×Obj)) (σ:St) (H:Hp) (s:Shared) (e:Value) (s':Shared),Inv X pins σ H s->CX X.stack H s E e s'->X.xe e s'
section
variable {X:Cx}{CX:CXT}{k:Nat}{f C:Addr}{fd:FuncData}{ps:List Str}{sp:Sp}{dvs:List V}{ds:List Value}{E:XK}{x m:Str}{p pos apos:Pos}{e o:Expr}{es:List Expr}{ta:TE}{t:TA}
theorem gM {pins:List (Addr×Obj)}{σ:St}{H:Hp}{s:Shared}{Q:VK}{us:List Value}{vs:List V}(F:FnOk X.prog X.w X.K X.mg X.base CX k f fd ps sp)(hr:Room k X.A)(hb:Binds X.K fd ps ds)(hd:Vals dvs ds)(hx:eZ CX X E)(I:Inv X pins σ H s)(r:Vals vs us)(h:sp (vs++dvs) H Q E):wpAny (model X.prog X.w) X.A (call (.ref f) us) (EP X pins σ Q) X.xe s:=by
 have r2:Vals (vs++dvs) (us++ds):=r.append hd;have hl:(us++ds).length=ps.length:=by rw[←r2.length];exact F.len _ _ _ _ h
 refine wpAny_call (codeAny_mono (F.run X.A X.stack s H ⟨us,[]⟩ (us++ds) (vs++dvs) Q E hr I.env0 (hb s us I.kIn hl) r2 h) fun r s' hq=>?_);cases r with
 | error e=>exact hx pins σ H s e s' I hq
 | ok fl =>
  cases fl with
  | ret u=>exact I.after hq
  | next=>exact False.elim hq
  | brk=>exact False.elim hq
  | cont=>exact False.elim hq
theorem aj (F:FnOk X.prog X.w X.K X.mg X.base CX k f fd ps sp)(hr:Room k X.A)(hg:Gl X x)(hm:X.mg x=some (.ref f))(hk:PySem.W.keepIn X.K (.ref f)=true)(hb:Binds X.K fd ps ds)(hd:Vals dvs ds)(hx:eZ CX X E)(ha:PA X (e::es) t)(hdb:(x == ("__debug__" : Str))=false:=by decide)(he:starEach (e::es) X.env=(false,eval e X.env)::starEach es X.env:=by rfl)(hpl:(backTo pos (starEach es X.env)).any (·.1)=false:=by rfl) :
 PE X (.Call (.Name x p) (e::es) [] pos) (ju sp dvs E t):=by
 intro pins s σ H Q I h;refine wpAny_Call_Name_kw (ff I hg hm ?_ hdb);refine PySem.W.callWith_K (h₀:=X.base) I.ok.mod.kin hk (thn (ha pos pins s σ H _ I h) fun us s1 ⟨vs,H1,I1,r,q⟩=>⟨I1.kIn,?_⟩) he hpl;exact gM F hr hb hd hx I1 r q
theorem pe_call0 (F:FnOk X.prog X.w X.K X.mg X.base CX k f fd ps sp)(hr:Room k X.A)(hg:Gl X x)(hm:X.mg x=some (.ref f))(hk:PySem.W.keepIn X.K (.ref f)=true)(hb:Binds X.K fd ps ds)(hd:Vals dvs ds)(hx:eZ CX X E)(hdb:(x == ("__debug__" : Str))=false:=by decide):PE X (.Call (.Name x p) [] [] pos) (ju sp dvs E tNil):=by
 intro pins s σ H Q I h;refine wpAny_Call_Name_kw (ff I hg hm ?_ hdb);exact PySem.W.callWith_K0 I.kIn hk (gM (us:=[]) F hr hb hd hx I .nil h)
theorem gR {pl:Sem Bool}(he:PE X o ta)(c:Cls X.K C)(hm:Meth X.K C m f)(F:FnOk X.prog X.w X.K X.mg X.base CX k f fd ps sp)(hr:Room k X.A)(hb:Binds X.K fd ps ds)(hd:Vals dvs ds)(hx:eZ CX X E)(ha:PA X (e::es) t)(hst:starEach (e::es) X.env=(false,eval e X.env)::starEach es X.env:=by rfl)(hpl:(backTo pos (starEach es X.env)).any (·.1)=false:=by rfl)
 (ht:eval (.Call (.Attribute o m apos) (e::es) [] pos) X.env=(do
   let ov ←eval o X.env
   standAt apos.atName
   let (f,first) ←holding [ov] (getMethod ov m pl)
   callWith pos f first (backTo pos (starEach (e::es) X.env)) (backToKw pos (keywordEach [] X.env))):=by rfl) :
 PE X (.Call (.Attribute o m apos) (e::es) [] pos) (tMeth C m sp dvs E ta t):=by
 intro pins s σ H Q I h;refine PySem.W.methodCall_KW (pl:=pl) (thn (he pins s σ H _ I h) fun u s1 ⟨x,H1,I1,rx,a,dx,fs,ex,ea,l,q⟩=>?_) ht;subst ex;obtain rfl:u=Value.ref a:=rx;refine g7 I1 ea c hm l ?_;refine PySem.W.callWith_K (first:=[.ref a]) (h₀:=X.base) I.ok.mod.kin hm.kp (thn (ha pos pins s1 σ H1 _ I1 q) fun us s2 ⟨vs,H2,I2,r,q2⟩=>⟨I2.kIn,?_⟩) hst hpl;exact gM (us:=.ref a::us) (vs:=.ref a::vs) F hr hb hd hx I2 (.cons rfl r) q2
end
section
variable {X:Cx}{CX:CXT}{k:Nat}{f C:Addr}{fd:FuncData}{ps ks:List Str}{sp:Sp}{E:XK}{x m:Str}{p pos apos kpos:Pos}{e o:Expr}{es:List Expr}{kws:List Keyword}{te ta:TE}{t tk:TA}{nm:Option Str}
variable {g:List Value->List Value->List Value}{gV:List V->List V->List V}
end
structure FnScope (N P:List Str) (sc:Scope):Prop where
 kind:sc.kind = .function
 co:sc.isCoroutine=false
 gen:sc.isGenerator=false
 nd:N.Nodup
 pre:N.take P.length=P
 par:∀x∈P,sc.names.lookup x=some .local∨sc.names.lookup x=some .cell
 nofree:∀y∈sc.names,y.2≠.free
theorem gE {kindOf:Str->Option NameKind}{x:Str}:∀{binds:List (Str×Value)} {m:Str->Option Value},(∀v,(x,v)∉binds)->bindL kindOf binds m x=m x
 | [],_,_=>rfl
 | (n,v)::r,m,h=>by
  unfold bindL;rw[gE fun w hw=>h w (List.mem_cons_of_mem _ hw)]
  split
  . have:x≠n:=by rintro rfl;exact h v List.mem_cons_self
    simp[this]
  . rfl
theorem gG {kindOf:Str->Option NameKind}{x:Str}:∀{binds:List (Str×Value)} {m:Str->Option Value},(∀v,(x,v)∉binds)->bindC kindOf binds m x=m x
 | [],_,_=>rfl
 | (n,v)::r,m,h=>by
  unfold bindC;rw[gG fun w hw=>h w (List.mem_cons_of_mem _ hw)]
  split
  . rfl
  . have:x≠n:=by rintro rfl;exact h v List.mem_cons_self
    simp[this]
theorem gF {kindOf:Str->Option NameKind}{x:Str}{v:Value}:∀{P:List Str} {vs:List Value} {i:Nat} {m:Str->Option Value},P.Nodup->P[i]? = some x->vs[i]? = some v->kindOf x=some .local →
 bindL kindOf (P.zip vs) m x=some v
 | [],_,_,_,_,h,_,_=>by simp at h
 | _::_,[],_,_,_,_,h,_=>by simp at h
 | p::P,w::vs,0,m,nd,h1,h2,hk=>by
  simp at h1 h2;subst h1;subst h2;show bindL kindOf ((p,w)::P.zip vs) m p=_;unfold bindL;rw[gE fun v hv=>(List.nodup_cons.mp nd).1 (List.of_mem_zip hv).1,if_pos hk];simp
 | p::P,w::vs,i+1,m,nd,h1,h2,hk=>by
  show bindL kindOf ((p,w)::P.zip vs) m x=_;unfold bindL;exact gF (i:=i) (List.nodup_cons.mp nd).2 (by simpa using h1) (by simpa using h2) hk
theorem gH {kindOf:Str->Option NameKind}{x:Str}{v:Value}:∀{P:List Str} {vs:List Value} {i:Nat} {m:Str->Option Value},P.Nodup->P[i]? = some x->vs[i]? = some v->kindOf x≠some .local →
 bindC kindOf (P.zip vs) m x=some v
 | [],_,_,_,_,h,_,_=>by simp at h
 | _::_,[],_,_,_,_,h,_=>by simp at h
 | p::P,w::vs,0,m,nd,h1,h2,hk=>by
  simp at h1 h2;subst h1;subst h2;show bindC kindOf ((p,w)::P.zip vs) m p=_;unfold bindC;rw[gG fun v hv=>(List.nodup_cons.mp nd).1 (List.of_mem_zip hv).1,if_neg hk];simp
 | p::P,w::vs,i+1,m,nd,h1,h2,hk=>by
  show bindC kindOf ((p,w)::P.zip vs) m x=_;unfold bindC;exact gH (i:=i) (List.nodup_cons.mp nd).2 (by simpa using h1) (by simpa using h2) hk
def start (N:List Str)(vs:List V):St:=vs.map some++List.replicate (N.length - vs.length) none
def cxOf (CX:CXT)(P:Program)(w:World)(K:PySem.W.Frag)(mg:Str->Option Value)(base:Heap)(N:List Str)(qual:Str)(scope:Scope)(f:Addr)(cd:Value)(A:Around)(outer:List Env)(s:Shared)(H:Hp)(E:XK):Cx where
 prog:=P
 w:=w
 K:=K
 mg:=mg
 base:=base
 A:=A.deeper (envOfC qual scope s.heap.objs.size f cd)
 N:=N
 s₀:=s
 H₀:=H
 env:=envOfC qual scope s.heap.objs.size f cd
 outer:=outer
 stack:=envOfC qual scope s.heap.objs.size f cd::outer
 ex:=[]
 calm:=true
 fn:=fun _=>true
 pn:=[]
 xe:=fun e s'=>wpAny (model P w) (A.deeper (envOfC qual scope s.heap.objs.size f cd)) (leaving (envOfC qual scope s.heap.objs.size f cd) e) (fun _ s''=>CX outer H s E e s'') (fun e' s''=>CX outer H s E e' s'') s'
theorem i9 {sc:Scope}{n:Nat}{x:Str}(h:sc.names.lookup x=some .cell):∃c,(cellsFrom n sc.names []).lookup x=some c:=by
 have q:=PySem.W.cellsFrom_some sc.names n [] (.inl h);exact Option.isSome_iff_exists.mp q
theorem inv_start {CX:CXT}{P:Program}{w:World}{K:PySem.W.Frag}{mg:Str->Option Value}{base:Heap}{N ps:List Str}{qual:Str}{scope:Scope}{f:Addr}{cd:Value}{A:Around}{outer:List Env}{s s1:Shared}{H:Hp}{E:XK}{us:List Value}{vs:List V}(S:FnScope N ps scope)(hd:A.handled=none)(e0:Env0 P w K mg base A outer s H)(hl:vs.length=ps.length)(r:Vals vs us)(x:InCallC s s.heap.objs.size (bindL (envOfC qual scope s.heap.objs.size f cd).kindOf (ps.zip us) fun _=>none) (cellsFrom (s.heap.objs.size+1) scope.names []) (bindC (envOfC qual scope s.heap.objs.size f cd).kindOf (ps.zip us) fun _=>none) s1):Inv (cxOf CX P w K mg base N qual scope f cd A outer s H E) [] (start N vs) H s1:=by
 have hpl:ps.length≤N.length:=by have:=congrArg List.length S.pre;rw[List.length_take]at this;omega
 obtain⟨h1,tk,rfl,hk⟩:=x.done;have noA:∀b:Addr,b∉(cxOf CX P w K mg base N qual scope f cd A outer s H E).ex:=fun b z=>absurd (show b∈([]:List Addr)from z) (by simp)
 refine⟨⟨e0.mod,S.kind,rfl,rfl,Nat.le_refl _,fun y z c h1 h2=>?_,fun y hy=>?_,fun y c _ h=>?_,fun _=>hd,Around.frames_deeper e0.frames,.inr ⟨rfl,rfl⟩,fun b z=>absurd z (noA b),e0.bs,e0.bsz,fun b _ _=>noA b,fun b z=>absurd z (noA b),e0.funs,e0.frf⟩,
  rfl,e0.bare,Un.kept hk,⟨_,x.toInCall.ns,fun i y v h1 h2 h3=>?_⟩,fun y c h=>⟨_,x.cell y c h⟩,e0.hok.fresh (Nat.le_refl _),fun y c h=>?_,fun p hp=>absurd (show p∈([]:List (Addr×Obj))from hp) (by simp),e0.hok.kept hk,?_⟩
 . exact name_of_addr x.apart (PySem.mem_of_lookup h1) (PySem.mem_of_lookup h2)
 . have hy:scope.names.lookup y=some .cell∨scope.names.lookup y=some .free:=hy;rcases hy with hy | hy
   . exact i9 hy
   . exact absurd rfl (S.nofree _ (PySem.mem_of_lookup hy))
 . exact Nat.le_of_lt (x.above y c (PySem.mem_of_lookup h))
 . have hi:i < vs.length:=by
    unfold start at h2;by_cases hi:i < vs.length
    . exact hi
    . rw[List.getElem?_append_right (by simpa using hi)]at h2
      rw[List.getElem?_replicate]at h2
      split at h2<;>cases h2
   have ha:vs[i]? = some v:=by
    unfold start at h2;rw[List.getElem?_append_left (by simpa using hi),List.getElem?_map]at h2
    cases e:vs[i]? with
    | none=>rw[e]at h2;cases h2
    | some a=>rw[e]at h2;cases h2;rfl
   obtain⟨u,hu,rv⟩:=r.get ha;have hp:ps[i]? = some y:=by
    rw[←S.pre,List.getElem?_take_of_lt (by omega)];exact h1
   have ndP:ps.Nodup:=by rw[←S.pre];exact S.nd.sublist (List.take_sublist _ _)
   refine⟨u,rv,?_⟩;rcases S.par y (List.mem_of_getElem? hp)with k | k
   . exact .inl ⟨k,gF ndP hp hu k⟩
   . obtain⟨c,e⟩:=i9 (n:=s.heap.objs.size+1) k;refine .inr ⟨.inl k,c,e,?_⟩;have q:=x.cell y c e;rw[gH ndP hp hu (by show scope.names.lookup y≠_;rw[k];decide)]at q
     exact q
 . exact e0.hok.fresh (Nat.le_of_lt (x.above y c (PySem.mem_of_lookup h)))
 . unfold start;show _=N.length;rw[List.length_append,List.length_map,List.length_replicate];omega
theorem fn_of {CX:CXT}{P:Program}{w:World}{K:PySem.W.Frag}{mg:Str->Option Value}{base:Heap}{k:Nat}{f:Addr}{name qual:Str}{params:Arguments}{body:List Stmt}{scope:Scope}{dV kV doc pm cdv ct oc:Value}{an od:Option Addr}{osl:Array (Option Value)}{N ps:List Str}{sp:Sp}(lk:K.lookup f=some ⟨oc,od,.func (PySem.W.fnOf name qual params body scope dV kV doc pm an cdv ct),osl⟩)(hcd:PySem.W.codeIn K cdv qual=true)(S:FnScope N ps scope)(len:∀vs H Q E,sp vs H Q E->vs.length=ps.length)(hbody:∀(A:Around) (outer:List Env) (s:Shared) (H:Hp) (vs:List V) (Q:VK) (E:XK),Room k (A.deeper (envOfC qual scope s.heap.objs.size f cdv))->sp vs H Q E->∃t,PSs (cxOf CX P w K mg base N qual scope f cdv A outer s H E) body t/\t { nx:=fun _ H'=>Q .non H',rt:=Q } (start N vs) H) :
 FnOk P w K mg base CX (k+1) f (PySem.W.fnOf name qual params body scope dV kV doc pm an cdv ct) ps sp:=by
 refine⟨len,fun A outer s H args us vs Q E hr e0 hb r hsp=>?_⟩;have hl:=len _ _ _ _ hsp;have KX:K.In s.heap:=e0.mod.kin.keeps fun b o e=>(e0.bs b o e).1;have lim:s.heap.NoLimit:=e0.mod.nolimit.keeps fun b o e=>(e0.bs b o e).1;have hkind:∀y∈ps.zip us,scope.names.lookup y.1=some .local∨(scope.names.lookup y.1=some .cell/\((cellsFrom (s.heap.objs.size+1) scope.names []).lookup y.1).isSome=true):=fun⟨n,v⟩ hy=>by
  rcases S.par n (List.of_mem_zip hy).1 with q | q
  . exact .inl q
  . exact .inr ⟨q,PySem.W.cellsFrom_some _ _ _ (.inl q)⟩
 refine codeAny_call_function hr.depth (KX _ _ lk) rfl S.co S.gen rfl (PySem.W.codeRec_of KX hcd) (hb _ _ _ _ ?_);refine wpAny_newFunctionEnv_cells S.kind hkind fun env he s1 x=>?_;subst he;refine⟨lim.keeps x.toInCall.keep,codeAny_func ?_⟩;obtain⟨t,ht,hq⟩:=hbody A outer s H vs Q E (hr.deeper _) hsp;have I:Inv (cxOf CX P w K mg base N qual scope f cdv A outer s H E) [] (start N vs) H s1:=inv_start S hr.hd e0 hl r x;refine wpAny_mono (ht [] s1 (start N vs) H _ I hq) (fun fl s' hs=>?_) fun e s' hs=>hs;have fin:∀{σ':St} {H':Hp} {v:V} {u:Value},Inv (cxOf CX P w K mg base N qual scope f cdv A outer s H E) [] σ' H' s'->RelV v u->Q v H'->CE outer P w H s Q u s':=
  fun{σ' H' v u} J rv q=>⟨v,H',J.os,J.bare,J.base,J.hok,rv,q⟩
 cases fl with
 | ret u =>
  obtain⟨v,σ',H',J,rv,q⟩:=hs;exact fin J rv q
 | next =>
  obtain⟨σ',H',J,q⟩:=hs;exact fin (v:=V.non) (u:=Value.none) J rfl q
 | brk =>
  obtain⟨_,_,_,q⟩:=hs;exact False.elim q
 | cont =>
  obtain⟨_,_,_,q⟩:=hs;exact False.elim q
end L2
namespace L2
open PySem PySem.Spec PyProof.Rows
section
variable {X:Cx}{x:Str}{p pos:Pos}{e:Expr}{es:List Expr}{t:TA}{id T:String}{r:List V->Hp->VK->Prop}
def tCB (r:List V->Hp->VK->Prop)(t:TA):TE:=fun σ H Q=>t σ H fun vs H1=>r vs H1 Q
theorem ak (hc:cE X (.builtin id) r)(hg:Gl X x)(hm:X.mg x=none)(hv:bootBuiltins x=some (.builtin id))(ha:PA X (e::es) t)(hn:x ≠ "__name__":=by decide)(hdb:(x == ("__debug__" : Str))=false:=by decide)
 (he:starEach (e::es) X.env=(false,eval e X.env)::starEach es X.env:=by rfl) (hpl:(backTo pos (starEach es X.env)).any (·.1)=false:=by rfl):PE X (.Call (.Name x p) (e::es) [] pos) (tCB r t):=by
 intro pins s σ H Q I h;refine wpAny_Call_Name_kw (ef I hg hm hv ?_ hn hdb);exact PyProof.Rows.callWith_builtin1 (thn (ha pos pins s σ H _ I h) fun us s1 ⟨vs,H1,I1,r1,q1⟩=>hc pins s1 σ H1 vs us Q I1 r1 q1) he hpl
theorem cF (hc:cE X (.type T) r)(hg:Gl X x)(hm:X.mg x=none)(hv:bootBuiltins x=some (.type T))(ha:PA X (e::es) t)(hn:x ≠ "__name__":=by decide)(hdb:(x == ("__debug__" : Str))=false:=by decide)
 (he:starEach (e::es) X.env=(false,eval e X.env)::starEach es X.env:=by rfl) (hpl:(backTo pos (starEach es X.env)).any (·.1)=false:=by rfl):PE X (.Call (.Name x p) (e::es) [] pos) (tCB r t):=by
 intro pins s σ H Q I h;refine wpAny_Call_Name_kw (ef I hg hm hv ?_ hn hdb);exact PyProof.Rows.callWith_type1 (thn (ha pos pins s σ H _ I h) fun us s1 ⟨vs,H1,I1,r1,q1⟩=>hc pins s1 σ H1 vs us Q I1 r1 q1) he hpl
end
end L2
namespace HT
open PySem PyProof.Rows
section
open PySem.SeqAt
open PySem.AutoSeq1 (wpAny_loadPart')
open PySem.MeetsSeq PySem.MeetsSeq2 PySem.MeetsSeq3
end
section
variable {prog:Program}{w:World}{A:Around}{E:Value->Shared->Prop}{s:Shared}
def sIx (n d:Nat):Option Int->Nat
 | none=>d
 | some v=>if v < 0 then (v+(n:Int)).toNat else min v.toNat n
theorem sIx_none (n d:Nat):sIx n d none=d:=rfl
theorem sIx_nat (n d k:Nat):sIx n d (some (k:Int))=min k n:=by
 show(if (k:Int) < 0 then ((k:Int)+(n:Int)).toNat else min (k:Int).toNat n)=min k n
 rw[if_neg (by omega),Int.toNat_natCast]
end
end HT
namespace L2
open PySem PySem.Spec PyProof.Rows
abbrev TO:=St->Hp->(Option Int->Hp->Prop)->Prop
def PO (X:Cx)(e:Option Expr)(t:TO):Prop:=
 ∀(pins:List (Addr×Obj)) (s:Shared) (σ:St) (H:Hp) (Q:Option Int->Hp->Prop),Inv X pins σ H s->t σ H Q →
  wpAny (model X.prog X.w) X.A (evalPart e X.env) (fun u s'=>∃o H',Inv X pins σ H' s'/\IsPart u o/\Q o H') X.xe s
def tNoPart:TO:=fun _ H Q=>Q none H
def tPart (t:TE):TO:=fun σ H Q=>t σ H fun x H1=>∃i,x = .int i/\Q (some i) H1
theorem eh {ns:List Int}:∀{us:List Value},Vals (ns.map V.int) us->IntsAre us ns:=by
 induction ns with
 | nil=>intro us r;rw[List.map_nil]at r;cases r;exact .nil
 | cons n ns ih =>
  intro us r;rw[List.map_cons]at r;cases r with
  | cons r1 r2 =>
   obtain⟨t,e⟩:=r1;subst e;exact .cons n t (ih r2)
section
variable {X:Cx}{e:Expr}{te:TE}{lo hi:Option Expr}{tl th:TO}{pos p2:Pos}
theorem bv:PO X none tNoPart:=by
 intro pins s σ H Q I h;rw[evalPart_none];exact wpAny_pure ⟨none,H,I,.none,h⟩
theorem bu (h:PE X e te):PO X (some e) (tPart te):=by
 intro pins s σ H Q I hw;rw[evalPart_some];refine thn (h pins s σ H _ I hw) fun u s1 ⟨x,H1,I1,r1,q1⟩=>?_;obtain⟨i,rfl,q⟩:=q1;obtain⟨t,rfl⟩:=r1;exact⟨some i,H1,I1,.int i t,q⟩
def SlR (X:Cx)(r:V->Option Int->Option Int->Hp->VK->Prop):Prop:=
 ∀(pins:List (Addr×Obj)) (s:Shared) (σ:St) (H:Hp) (x:V) (v vl vu:Value) (lo hi:Option Int) (sl:Addr) (Q:VK),Inv X pins σ H s->RelV x v->s.heap.IsSliceOf sl vl vu .none->IsPart vl lo->IsPart vu hi->r x lo hi H Q →
  ∃T id,typeLookup (.type T) "__getitem__" = pure (some (.builtin id))/\s.TypeIs v T/\wpAny (model X.prog X.w) X.A (getItem v (.ref sl)) (EP X pins σ Q) X.xe s
def tSl (r:V->Option Int->Option Int->Hp->VK->Prop)(te:TE)(tl th:TO):TE:=fun σ H Q=>te σ H fun x H1=>tl σ H1 fun l H2=>th σ H2 fun u H3=>r x l u H3 Q
theorem be {r:V->Option Int->Option Int->Hp->VK->Prop}(hr:SlR X r)(he:PE X e te)(hl:PO X lo tl)(hu:PO X hi th):PE X (.Subscript e (.Slice lo hi none p2) pos) (tSl r te tl th):=by
 intro pins s σ H Q I h;refine Subscript_ (thn (he pins s σ H _ I h) fun v s1 ⟨x,H1,I1,r1,q1⟩=>?_);refine wpAny_Slice (thn (hl pins s1 σ H1 _ I1 q1) fun vl s2 ⟨l,H2,I2,pl,q2⟩=>thn (hu pins s2 σ H2 _ I2 q2) fun vu s3 ⟨u,H3,I3,pu,q3⟩=>?_);rw[evalPart_none];refine wpAny_pure ?_;have I4:Inv X pins σ H3 { s3 with heap:=s3.heap.push { cls:=.type "slice",data:=.fields #[vl,vu,.none] } }:=I3.kept (t':=s3.toks) fun b ob q=>Heap.get?_push_of_some _ q
 obtain⟨T,id,hT,ht,hg⟩:=hr pins { s3 with heap:=s3.heap.push { cls:=.type "slice",data:=.fields #[vl,vu,.none] } } σ H3 x v vl vu l u s3.heap.objs.size Q I4 r1 (Heap.IsSliceOf.new ..) pl pu q3
 show wpAny (model X.prog X.w) X.A (subscriptTail e (.Slice lo hi none p2) v (.ref s3.heap.objs.size)) (EP X pins σ Q) X.xe { s3 with heap:=s3.heap.push { cls:=.type "slice",data:=.fields #[vl,vu,.none] } }
 exact tail_any (ops:=[.ref s3.heap.objs.size,v]) ht hT hg (by with_unfolding_all rfl)
def cutV (xs:List V)(lo hi:Option Int):List V:=(xs.drop (HT.sIx xs.length 0 lo)).take (HT.sIx xs.length xs.length hi - HT.sIx xs.length 0 lo)
theorem cutV_length (xs:List V)(lo hi:Option Int):(cutV xs lo hi).length≤xs.length:=by
 unfold cutV;rw[List.length_take,List.length_drop];omega
end
end L2
namespace L2
open PySem PySem.Spec PyProof.Rows
def ixN (n:Nat)(i:Int):Option Nat:=if 0≤i then (if i < n then some i.toNat else none)else if -(n:Int)≤i then some (i+n).toNat else none
def atI {α:Type}(xs:List α)(i:Int):Option α:=(ixN xs.length i).bind fun j=>xs[j]?
theorem iS {n:Nat}{i:Int}{j:Nat}(h:ixN n i=some j):seqIndex? i n=some j/\j < n/\-(n:Int)≤i/\i < n:=by
 unfold ixN at h;by_cases h0:0≤i
 . rw[if_pos h0]at h;by_cases h1:i < n
   . rw[if_pos h1]at h;have e:i.toNat=j:=Option.some.inj h;exact⟨by rw[seqIndex_of h0 h1,e],by omega,by omega,h1⟩
   . rw[if_neg h1]at h;cases h
 . rw[if_neg h0]at h;by_cases h1:-(n:Int)≤i
   . rw[if_pos h1]at h;have e:(i+n).toNat=j:=Option.some.inj h;exact⟨by rw[seqIndex_neg (by omega) h1,e],by omega,h1,by omega⟩
   . rw[if_neg h1]at h;cases h
theorem atI_get {α:Type}{xs:List α}{i:Int}{v:α}(h:atI xs i=some v):∃j,seqIndex? i xs.length=some j/\xs[j]? = some v/\j < xs.length/\-(xs.length:Int)≤i/\i < xs.length:=by
 unfold atI at h;cases e:ixN xs.length i with
 | none=>rw[e]at h;cases h
 | some j =>
  rw[e]at h;obtain⟨h1,h2,h3,h4⟩:=iS e;exact⟨j,h1,h,h2,h3,h4⟩
theorem cw {α:Type}{xs:List α}{j:Nat}{v:α}(h:xs[j]? = some v):atI xs (j:Int)=some v:=by
 have hj:j < xs.length:=(List.getElem?_eq_some_iff.mp h).1;have e:ixN xs.length (j:Int)=some j:=by
  unfold ixN;rw[if_pos (by omega),if_pos (by omega)];simp
 unfold atI;rw[e];exact h
def iY (b:Expr):Prop:=∀o i,subscripted b false o i=operate [o,i] (getItem o i)
def IxR (X:Cx)(r:R2):Prop:=
 ∀(value slice:Expr) (pins:List (Addr×Obj)) (s:Shared) (σ:St) (H:Hp) (x y:V) (v u:Value) (Q:VK),Inv X pins σ H s->RelV x v->RelV y u->r x y H Q →
  subscripted slice false v u=operate [v,u] (getItem v u)->wpAny (model X.prog X.w) X.A (subscriptTail value slice v u) (EP X pins σ Q) X.xe s
def MtR (X:Cx)(id:String)(r:V->List V->Hp->VK->Prop):Prop:=
 ∀(pins:List (Addr×Obj)) (s:Shared) (σ:St) (H:Hp) (x:V) (xs:List V) (v:Value) (us:List Value) (Q:VK),Inv X pins σ H s->RelV x v->Vals xs us->r x xs H Q →
  wpAny (model X.prog X.w) X.A (call (.builtin id) (v::us)) (EP X pins σ Q) X.xe s
section
variable {X:Cx}{a b:Expr}{ta tb:TE}{pos:Pos}
theorem aF {r:R2}(hr:IxR X r)(ha:PE X a ta)(hb:PE X b tb)(hs:iY b):PE X (.Subscript a b pos) (tOp r ta tb):=by
 intro pins s σ H Q I h;exact Subscript_ (binT ha hb I h fun v u s2 x y H2 I2 rx ry q=>hr a b pins s2 σ H2 x y v u Q I2 rx ry q (hs _ _))
def rIxL (K:PySem.W.Frag):R2:=fun x y H Q=>∃p xs i v,x = .ref p/\y = .int i/\SqL K H p xs/\atI xs i=some v/\Q v H
theorem b7:IxR X (rIxL X.K):=by
 intro value slice pins s σ H x y v u Q I rx ry h hs;obtain⟨p,xs,i,z,rfl,rfl,hq,he,q⟩:=h;cases rx;obtain⟨t,rfl⟩:=ry;obtain⟨its,r,pl,hz⟩:=I.list hq;obtain⟨j,h1,h2,h3,h4,h5⟩:=atI_get he;obtain⟨w,ew,rw'⟩:=r.get h2;have hl:=r.length;have hn:=gT;have fin:EP X pins σ Q w s:=⟨z,H,I,rw',q⟩;by_cases h0:0≤i
 . have hj:i.toNat=j:=by
    rw[seqIndex_of h0 h5]at h1;exact Option.some.inj h1
   exact item_listR pl.isList h0 (by omega) (by rw[hj];simpa using ew) fin hs
 . have hj:(i+(its.toArray.size:Int)).toNat=j:=by
    rw[seqIndex_neg (by omega) h4]at h1
    rw[List.size_toArray,←hl];exact Option.some.inj h1
   exact subscriptTail_builtinR (x:=w) pl.isList.typeIs slot_list_getitem.lookup
    (wpAny_getItem_list_neg (Q:=fun r s'=>r=w/\EP X pins σ Q r s') pl.isList (by omega) (by rw[List.size_toArray]<;>omega) (by omega) (by rw[hj];simpa using ew) ⟨rfl,fin⟩) hs
theorem mapSeq_set (its:List Value)(n j:Nat)(u:Value):Obj.mapSeq (·.setIfInBounds j u) { cls:=.type "list",data:=.seq its.toArray n }={ cls:=.type "list",data:=.seq (its.set j u).toArray n }:=by
 simp[Obj.mapSeq]
theorem Inv.lst {pins:List (Addr×Obj)}{σ:St}{H:Hp}{s:Shared}{p:Addr}{xs:List V}(I:Inv X pins σ H s)(h:H p=some (.lst xs)):∃(its:List Value) (n:Nat),Vals xs its/\s.heap.get? p=some { cls:=.type "list",data:=.seq its.toArray n }/\xs.length≤sizeLine:=by
 obtain⟨z,its,n,r,e⟩:=I.hok p _ h;exact⟨its,n,r,e,z⟩
theorem Inv.lstUpd {pins:List (Addr×Obj)}{σ:St}{H:Hp}{s:Shared}{p:Addr}{xs ys:List V}{its its':List Value}{n n':Nat}{f:Obj->Obj}(I:Inv X pins σ H s)(h:H p=some (.lst xs))(ho:s.heap.get? p=some { cls:=.type "list",data:=.seq its.toArray n })(hf:f { cls:=.type "list",data:=.seq its.toArray n }={ cls:=.type "list",data:=.seq its'.toArray n' })(r:Vals ys its')(hz:ys.length≤sizeLine)(t:Nat) :
 Inv X pins σ (upd H p (.lst ys)) { s with heap:=s.heap.update p f,toks:=t }:=by
 have e:(s.heap.update p f).get? p=some { cls:=.type "list",data:=.seq its'.toArray n' }:=by
  rw[Heap.get?_update_self f ho (by rw[hf]<;>rfl),hf]
 refine I.write (x:=p) (e:=p) (by rw[h];trivial) (.inl rfl) (fun b u hb q=>(Heap.get?_update_other _ _ (Ne.symm hb)).trans q) ⟨_,e⟩ ?_
 exact⟨hz,its',n',r,e⟩
def rSetL:V->V->V->Hp->(Hp->Prop)->Prop:=fun o i v H Q=>∃p xs k j,o = .ref p/\i = .int k/\H p=some (.lst xs)/\ixN xs.length k=some j/\Q (upd H p (.lst (xs.set j v)))
theorem du:PSet X rSetL:=by
 intro pins s σ H o i v ov iv u Q I ro ri rv h;obtain⟨p,xs,k,j,rfl,rfl,hp,hj,q⟩:=h;cases ro;obtain⟨t,rfl⟩:=ri;obtain⟨its,n,r,ho,hz⟩:=I.lst hp;obtain⟨h1,h2,h3,h4⟩:=iS hj;have hl:=r.length;have hn:=gT;have I':Inv X pins σ (upd H p (.lst (xs.set j v))) { s with heap:=s.heap.update p (Obj.mapSeq (·.setIfInBounds j u)) }:=
  I.lstUpd hp ho (mapSeq_set its n j u) (r.set rv j) (by rw[List.length_set];exact hz) s.toks
 by_cases h0:0≤k
 . have hk:k.toNat=j:=by
    rw[seqIndex_of h0 h4]at h1;exact Option.some.inj h1
   exact PySem.W.ki_setAt ho h0 (by omega) (by rw[List.size_toArray,←hl];exact h4) (by rw[hk];exact⟨_,I',q⟩)
 . have hk:(k+(its.toArray.size:Int)).toNat=j:=by
    rw[seqIndex_neg (by omega) h3]at h1
    rw[List.size_toArray,←hl];exact Option.some.inj h1
   exact PySem.W.ki_setBack ho (by omega) (by rw[List.size_toArray,←hl];exact h3) (by omega) (by rw[hk];exact⟨_,I',q⟩)
theorem slice_bounds (lo hi:Option Int)(n:Nat):(sliceBounds lo hi none n).1=((HT.sIx n 0 lo:Nat):Int)/\(sliceBounds lo hi none n).2.1=((HT.sIx n n hi:Nat):Int)/\(sliceBounds lo hi none n).2.2=1:=by
 refine⟨?_,?_,rfl⟩
 . cases lo with
   | none=>simp[sliceBounds,HT.sIx]
   | some i =>
    simp only[sliceBounds,HT.sIx,Option.getD_none,show(1:Int) > 0 by decide,if_true]
    by_cases h:i < 0
    . simp only[h,if_true]<;>omega
    . simp only[h,if_false]<;>omega
 . cases hi with
   | none=>simp[sliceBounds,HT.sIx]
   | some i =>
    simp only[sliceBounds,HT.sIx,Option.getD_none,show(1:Int) > 0 by decide,if_true]
    by_cases h:i < 0
    . simp only[h,if_true]<;>omega
    . simp only[h,if_false]<;>omega
theorem slicePick_cut (its:List Value)(lo hi:Option Int):slicePick its.toArray lo hi none=((its.drop (HT.sIx its.length 0 lo)).take (HT.sIx its.length its.length hi - HT.sIx its.length 0 lo)).toArray:=by
 obtain⟨h1,h2,h3⟩:=slice_bounds lo hi its.toArray.size;unfold slicePick;rw[h1,h2,h3];simp only[sliceRange_one,pick_run,List.size_toArray]<;>rfl
def rSlL (K:PySem.W.Frag):V->Option Int->Option Int->Hp->VK->Prop:=fun x lo hi H Q=>∃a xs,x = .ref a/\SqL K H a xs/\∀p,H p=none->Q (.ref p) (upd H p (.lst (cutV xs lo hi)))
theorem iE:SlR X (rSlL X.K):=by
 intro pins s σ H x v vl vu lo hi sl Q I rx hs pl pu h;obtain⟨a,xs,rfl,hx,q⟩:=h;cases rx;obtain⟨its,r,ht,hz⟩:=I.list hx;have hlen:=r.length;refine⟨"list",_,slot_list_getitem.lookup,ht.isList.typeIs,?_⟩;refine wpAny_getItem_list_slice ht.isList hs pl pu .none (by simp) ?_ (by rw[List.size_toArray]<;>omega)
 rw[slicePick_cut,←hlen];refine⟨.ref s.heap.objs.size,_,I.laid (t':=s.toks) (o:=.lst (cutV xs lo hi)) (fun b ob q=>Heap.get?_push_of_some _ q) (Nat.le_refl _) ?_,rfl,q _ (I.hok.fresh (Nat.le_refl _))⟩;exact⟨Nat.le_trans (cutV_length xs lo hi) hz,_,0,(r.drop (HT.sIx xs.length 0 lo)).take (HT.sIx xs.length xs.length hi - HT.sIx xs.length 0 lo),Heap.get?_push_size _ rfl⟩
def cf:V->Bool
 | .non=>true
 | .bl _=>true
 | .int _=>true
 | .str _=>true
 | _=>false
def eqV:V->V->Bool
 | .non,.non=>true
 | .bl a,.bl b=>a == b
 | .bl a,.int b=>(if a then 1 else 0) == b
 | .int a,.bl b=>a == (if b then 1 else 0)
 | .int a,.int b=>a == b
 | .str a,.str b=>a == b
 | _,_=>false
theorem jl {A:Around}{s:Shared}{y x:V}{u v:Value}(ry:RelV y u)(rx:RelV x v)(fy:cf y=true)(fx:cf x=true):SeqAt.EqAt A s u v (eqV y x):=by
 cases y with
 | non =>
  cases ry;cases x with
  | non=>cases rx;exact SeqAt.EqAt.same _
  | bl b=>cases rx;exact SeqAt.EqAt.none_bool b
  | int b=>obtain⟨t,rfl⟩:=rx;exact SeqAt.EqAt.none_int b t
  | str b=>obtain⟨t,rfl⟩:=rx;exact SeqAt.EqAt.none_str b t
  | _=>exact absurd (show false=true from fx) Bool.false_ne_true
 | bl a =>
  cases ry;cases x with
  | non=>cases rx;exact SeqAt.EqAt.bool_none a
  | bl b=>cases rx;exact SeqAt.EqAt.bool_bool a b
  | int b=>obtain⟨t,rfl⟩:=rx;exact SeqAt.EqAt.bool_int a b t
  | str b=>obtain⟨t,rfl⟩:=rx;exact SeqAt.EqAt.bool_str a b t
  | _=>exact absurd (show false=true from fx) Bool.false_ne_true
 | int a =>
  obtain⟨t',rfl⟩:=ry;cases x with
  | non=>cases rx;exact SeqAt.EqAt.int_none a t'
  | bl b=>cases rx;exact SeqAt.EqAt.int_bool a t' b
  | int b=>obtain⟨t,rfl⟩:=rx;exact SeqAt.EqAt.int_int a t' b t
  | str b=>obtain⟨t,rfl⟩:=rx;exact SeqAt.EqAt.int_str a t' b t
  | _=>exact absurd (show false=true from fx) Bool.false_ne_true
 | str a =>
  obtain⟨t',rfl⟩:=ry;cases x with
  | non=>cases rx;exact SeqAt.EqAt.str_none a t'
  | bl b=>cases rx;exact SeqAt.EqAt.str_bool a t' b
  | int b=>obtain⟨t,rfl⟩:=rx;exact SeqAt.EqAt.str_int a t' b t
  | str b=>obtain⟨t,rfl⟩:=rx;exact SeqAt.EqAt.str_str a t' b t
  | _=>exact absurd (show false=true from fx) Bool.false_ne_true
 | _=>exact absurd (show false=true from fy) Bool.false_ne_true
def eqU (x:V)(u:Value):Bool:=match u with
 | .none=>eqV .non x
 | .bool b=>eqV (.bl b) x
 | .int i _=>eqV (.int i) x
 | .str z _=>eqV (.str z) x
 | _=>false
theorem iu {x y:V}{u:Value}(r:RelV y u)(f:cf y=true):eqU x u=eqV y x:=by
 cases y with
 | non=>cases r;rfl
 | bl b=>cases r;rfl
 | int i=>obtain⟨t,rfl⟩:=r;rfl
 | str z=>obtain⟨t,rfl⟩:=r;rfl
 | _=>exact absurd (show false=true from f) Bool.false_ne_true
theorem eJ {x:V}:∀{xs:List V} {us:List Value},Vals xs us->xs.all cf=true->us.any (eqU x)=xs.any fun y=>eqV y x
 | _,_,.nil,_=>rfl
 | y::xs,u::us,.cons r t,f=>by
  rw[List.all_cons,Bool.and_eq_true]at f;rw[List.any_cons,List.any_cons,iu r f.1,eJ t f.2]
theorem dh {A:Around}{s:Shared}{x:V}{v:Value}(rx:RelV x v)(fx:cf x=true):∀{xs:List V} {us:List Value},Vals xs us->xs.all cf=true->∀u∈us,SeqAt.EqAt A s u v (eqU x u)
 | _,_,.nil,_=>fun u hu=>by cases hu
 | y::xs,u::us,.cons r t,f=>fun u' hu=>by
  rw[List.all_cons,Bool.and_eq_true]at f;rcases List.mem_cons.mp hu with rfl | hu
  . rw[iu r f.1];exact jl r rx f.1 fx
  . exact dh rx fx t f.2 u' hu
def inV (x:V)(xs:List V):Bool:=xs.any fun y=>eqV y x
def rIn (K:PySem.W.Frag)(neg:Bool):R2:=fun x y H Q=>∃p xs,y = .ref p/\(SqL K H p xs∨SqT K H p xs)/\cf x=true/\xs.all cf=true/\Q (.bl (if neg then !inV x xs else inV x xs)) H
theorem gn:OpR X (compareOp .In) (rIn X.K false):=by
 intro pins s σ H x y v u Q I rx ry h;obtain⟨p,xs,rfl,hq,fx,fs,q⟩:=h;cases ry;rcases hq with hq | hq
 . obtain⟨its,r,pl,hz⟩:=I.list hq;refine SeqAt.in_listAt (eqU x) pl.isList (fun w hw=>dh rx fx r fs w (by simpa using hw)) ⟨.bl _,H,I,rfl,?_⟩
   rw[show its.toArray.any (eqU x)=its.any (eqU x) by simp,eJ r fs]
   exact q
 . obtain⟨its,r,pl,hz⟩:=I.tuple hq;refine SeqAt.in_tupleAt (eqU x) pl (fun w hw=>dh rx fx r fs w (by simpa using hw)) ⟨.bl _,H,I,rfl,?_⟩
   rw[show its.toArray.any (eqU x)=its.any (eqU x) by simp,eJ r fs]
   exact q
theorem op_notIn_seq:OpR X (compareOp .NotIn) (rIn X.K true):=by
 intro pins s σ H x y v u Q I rx ry h;obtain⟨p,xs,rfl,hq,fx,fs,q⟩:=h;cases ry;rcases hq with hq | hq
 . obtain⟨its,r,pl,hz⟩:=I.list hq;refine SeqAt.notIn_listAt (eqU x) pl.isList (fun w hw=>dh rx fx r fs w (by simpa using hw)) ⟨.bl _,H,I,rfl,?_⟩
   rw[show its.toArray.any (eqU x)=its.any (eqU x) by simp,eJ r fs]
   exact q
 . obtain⟨its,r,pl,hz⟩:=I.tuple hq;refine SeqAt.notIn_tupleAt (eqU x) pl (fun w hw=>dh rx fx r fs w (by simpa using hw)) ⟨.bl _,H,I,rfl,?_⟩
   rw[show its.toArray.any (eqU x)=its.any (eqU x) by simp,eJ r fs]
   exact q
theorem bB:cE X (.builtin "len") (fun xs H Q=>∃p ys,xs=[.ref p]/\(SqL X.K H p ys∨SqT X.K H p ys)/\Q (.int ys.length) H):=by
 intro pins s σ H xs us Q I r h;obtain⟨p,ys,rfl,hq,q⟩:=h;obtain⟨u,rfl,rx⟩:=f6 r;cases rx;have hn:=gT;rcases hq with hq | hq
 . obtain⟨its,r',pl,hz⟩:=I.list hq;have hlen:=r'.length;exact Calls.call_len_list pl.isList (by simp only[List.size_toArray]<;>omega) ⟨.int ys.length,H,I.tok _,⟨s.toks+1,by rw[List.size_toArray,hlen]⟩,q⟩
 . obtain⟨its,r',pl,hz⟩:=I.tuple hq;have hlen:=r'.length;exact len_tuple pl (by simp only[List.size_toArray]<;>omega) ⟨.int ys.length,H,I.tok _,⟨s.toks+1,by rw[List.size_toArray,hlen]⟩,q⟩
theorem call_list_of:cE X (.type "list") (fun xs H Q=>∃p ys,xs=[.ref p]/\(SqL X.K H p ys∨SqT X.K H p ys)/\∀l,H l=none->Q (.ref l) (upd H l (.lst ys))):=by
 intro pins s σ H xs us Q I r h;obtain⟨p,ys,rfl,hq,q⟩:=h;obtain⟨u,rfl,rx⟩:=f6 r;cases rx;have fin:∀(its:List Value),Vals ys its->ys.length≤sizeLine->∀(h':Heap) (c':Nat),(∀b o',s.heap.get? b=some o'->h'.get? b=some o') →
  h'.get? s.heap.objs.size=some { cls:=.type "list",dict:=none,data:=.seq its.toArray c',slots:=#[] }->EP X pins σ Q (.ref s.heap.objs.size) { s with heap:=h' }:=fun its r' hz h' c' kp e =>
  ⟨.ref s.heap.objs.size,_,I.laid (t':=s.toks) kp (Nat.le_refl _) (show ObjOk X.prog X.w _ h' _ (.lst ys)from⟨hz,its,c',r',e⟩),rfl,q _ (I.hok.fresh (Nat.le_refl _))⟩
 rcases hq with hq | hq
 . obtain⟨its,r',pl,hz⟩:=I.list hq;have hlen:=r'.length;obtain⟨o,ho,hc,n,hd⟩:=pl.isList;exact call_list_seq p (.inl rfl) ho hc hd (fun h' c' kp e=>fin its r' hz h' c' kp e) (by simp only[List.size_toArray]<;>omega)
 . obtain⟨its,r',pl,hz⟩:=I.tuple hq;have hlen:=r'.length;obtain⟨o,ho,hc,n,hd⟩:=pl;exact call_list_seq p (.inr rfl) ho hc hd (fun h' c' kp e=>fin its r' hz h' c' kp e) (by simp only[List.size_toArray]<;>omega)
def tyV (K:PySem.W.Frag)(T:String)(x:V)(H:Hp):Prop:=match x with
 | .str _=>T = "str"
 | .int _=>T = "int"
 | .ref p=>(T = "list"/\∃xs,SqL K H p xs)∨(T = "tuple"/\∃o,K.lookup p=some o/\o.cls = .type "tuple"/\o.dict=none) ∨
  (T = "dict"/\((∃kvs,H p=some (.dK kvs))∨∃kvs,H p=some (.dT kvs)))∨(T = "set"/\∃S n,H p=some (.set S n))
 | _=>False
theorem tyV_is {pins:List (Addr×Obj)}{σ:St}{H:Hp}{s:Shared}{T:String}{x:V}{v:Value}(I:Inv X pins σ H s)(r:RelV x v)(ty:tyV X.K T x H):s.TypeIs v T/\∀a,v = .ref a->∃ob,s.heap.get? a=some ob/\ob.dict=none:=by
 cases x with
 | str z =>
  obtain⟨t,rfl⟩:=r;cases(show T = "str" from ty)
  exact⟨typeIs_str s z t,fun _ e=>nomatch e⟩
 | int i =>
  obtain⟨t,rfl⟩:=r;cases(show T = "int" from ty)
  exact⟨typeIs_int s i t,fun _ e=>nomatch e⟩
 | ref p =>
  cases r;rcases ty with⟨rfl,xs,hq⟩ | ⟨rfl,o,hk,hc,hd⟩ | ⟨rfl,hk⟩ | ⟨rfl,S,n,hk⟩
  . obtain⟨its,_,pl,_⟩:=I.list hq;refine⟨pl.isList.typeIs,fun a e=>?_⟩;cases e;obtain⟨o,n,e,c,hd,_⟩:=pl;exact⟨o,e,hd⟩
  . refine⟨⟨o,I.kIn p o hk,hc⟩,fun a e=>?_⟩;cases e;exact⟨o,I.kIn _ o hk,hd⟩
  . have z:∃o,s.heap.get? p=some o/\o.ExactDict:=by
     rcases hk with⟨kvs,hk⟩ | ⟨kvs,hk⟩
     . obtain⟨_,_,_,_,o,_,_,e,ex,_⟩:=I.hok p _ hk;exact⟨o,e,ex⟩
     . obtain⟨_,_,_,_,o,_,_,e,ex,_⟩:=I.hok p _ hk;exact⟨o,e,ex⟩
    obtain⟨o,e,ex⟩:=z;refine⟨⟨o,e,ex.1⟩,fun a e2=>?_⟩;cases e2;exact⟨o,e,ex.2.1⟩
  . obtain⟨o,_,_,_,e,ex,_⟩:=I.hok p _ hk;refine⟨⟨o,e,ex.1⟩,fun a e2=>?_⟩;cases e2;exact⟨o,e,ex.2.1⟩
 | _=>exact False.elim ty
def tBM (K:PySem.W.Frag)(T:String)(r:V->List V->Hp->VK->Prop)(to:TE)(t:TA):TE:=fun σ H Q=>to σ H fun x H1=>tyV K T x H1/\t σ H1 fun xs H2=>r x xs H2 Q
variable {o e:Expr}{es:List Expr}{to:TE}{t:TA}{name:Str}{apos cpos:Pos}{T id:String}{r:V->List V->Hp->VK->Prop}
theorem eE (pa:PlainAttrs T)(slot:Slot T name id)(hty:typeOf (.builtin id)=pure (.type "method_descriptor"))(hm:MtR X id r)(ho:PE X o to)(ha:PA X (e::es) t)(hbase:attributeBase o name X.env (eval o X.env)=eval o X.env:=by rfl)
 (hfew:((backTo cpos (starEach (e::es) X.env)).all (fun x=>!x.1)&&(backToKw cpos (keywordEach [] X.env)).all (fun x=>x.1.isSome)
   && decide ((e::es).length+([]:List Keyword).length+(if ([]:List Keyword).isEmpty then 0 else 1) < 30))=true:=by rfl)
 (hline:(apos.endLine == cpos.line)=true:=by rfl) (hs:starEach (e::es) X.env=(false,eval e X.env)::starEach es X.env:=by rfl) (hplain:(backTo cpos (starEach es X.env)).any (·.1)=false:=by rfl) :
 PE X (.Call (.Attribute o name apos) (e::es) [] cpos) (tBM X.K T r to t):=by
 intro pins s σ H Q I h;refine wpAny_Call_method_late hbase hfew hline rfl (thn (ho pins s σ H _ I h) fun v s1 ⟨x,H1,I1,r1,ty,q1⟩=>?_);obtain⟨h1,h2⟩:=tyV_is I1 r1 ty;refine⟨T,id,pa,slot,hty,h1,h2,?_⟩;have hA:=ha cpos pins s1 σ H1 _ I1 q1;rw[hs]at hA⊢;refine Calls.callWith_builtin (by show(false||(backTo cpos (starEach es X.env)).any (·.1))=false;rw[hplain]<;>rfl) (Calls.evalArgs_plain ?_)
 exact thn hA fun us s2 ⟨vs,H2,I2,r2,q2⟩=>hm pins s2 σ H2 x vs v us Q I2 r1 r2 q2
end
end L2
namespace L2
open PySem PySem.Spec PyProof.Rows
def MtM (X:Cx)(id:String)(r:V->List V->Hp->VK->Prop):Prop:=
 ∀(pins:List (Addr×Obj)) (s:Shared) (σ:St) (H:Hp) (x:V) (xs:List V) (v:Value) (us:List Value) (Q:VK),Inv X pins σ H s->RelV x v->Vals xs us->r x xs H Q →
  wpAny (model X.prog X.w) X.A (call (.builtin id) (v::us)) (EP X pins σ Q) X.xe s
theorem Vals.one:∀{x:V} {us:List Value},Vals [x] us->∃u,us=[u]/\RelV x u
 | _,_,.cons r .nil=>⟨_,rfl,r⟩
theorem Vals.two:∀{x y:V} {us:List Value},Vals [x,y] us->∃u v,us=[u,v]/\RelV x u/\RelV y v
 | _,_,_,.cons r (.cons q .nil)=>⟨_,_,rfl,r,q⟩
theorem Vals.reverse {xs:List V}{us:List Value}(h:Vals xs us):Vals xs.reverse us.reverse:=by
 induction h with
 | nil=>exact .nil
 | cons r t ih=>rw[List.reverse_cons,List.reverse_cons];exact Vals.append ih (.cons r .nil)
section
variable {X:Cx}{pins:List (Addr×Obj)}{σ:St}{H:Hp}{s:Shared}{l b:Addr}{xs ys zs:List V}
theorem Inv.lset {its its':List Value}{n:Nat}{f:Array Value->Array Value}{t':Nat}(I:Inv X pins σ H s)(hH:H l=some (.lst xs))(e:s.heap.get? l=some { cls:=.type "list",data:=.seq its.toArray n })(hf:f its.toArray=its'.toArray)(hv:Vals ys its')(hz:ys.length≤sizeLine) :
 Inv X pins σ (upd H l (.lst ys)) { s with heap:=s.heap.update l (Obj.mapSeq f),toks:=t' }:=by
 have q:=PySem.IsL.update e f;rw[hf]at q;refine I.write (x:=l) (e:=l) (by rw[hH];exact trivial) (.inl rfl) (fun b' u hb hu=>(Heap.get?_update_other s.heap (Obj.mapSeq f) (Ne.symm hb)).trans hu) ⟨_,q⟩ ?_
 exact⟨hz,its',_,hv,q⟩
theorem Inv.lnew {its:List Value}{t':Nat}(I:Inv X pins σ H s)(hv:Vals ys its)(hz:ys.length≤sizeLine):Inv X pins σ (upd H s.heap.objs.size (.lst ys)) { s with heap:=s.heap.push { cls:=.type "list",data:=.seq its.toArray },toks:=t' }:=
 I.laid (fun _ _ q=>Heap.get?_push_of_some _ q) (Nat.le_refl _) ⟨hz,its,0,hv,Heap.get?_push_size _ rfl⟩
theorem Inv.fresh (I:Inv X pins σ H s):H s.heap.objs.size=none:=I.hok.fresh (Nat.le_refl _)
theorem Inv.lstM (I:Inv X pins σ H s)(hH:H l=some (.lst xs)):xs.length≤sizeLine/\∃(its:List Value) (n:Nat),Vals xs its/\xs.length=its.length/\s.heap.get? l=some { cls:=.type "list",data:=.seq its.toArray n }:=by
 obtain⟨z,its,n,r,e⟩:=I.hok l _ hH;exact⟨z,its,n,r,r.length,e⟩
end
section
variable {X:Cx}
def iM:V->List V->Hp->VK->Prop:=fun x vs H Q=>∃l xs y,x = .ref l/\vs=[y]/\H l=some (.lst xs)/\xs.length < sizeLine/\Q .non (upd H l (.lst (xs++[y])))
theorem dg:MtM X "list.append" iM:=by
 intro pins s σ H x vs v us Q I rx rv h;obtain⟨l,xs,y,rfl,rfl,hH,hz,q⟩:=h;cases rx;obtain⟨u,rfl,ru⟩:=rv.one;obtain⟨z,its,n,r,hl,e⟩:=I.lstM hH;refine call_meets F.slot_list_append ⟨_,e,rfl⟩ F.entry_list_append (F.args_list_append_2 _ _) (PySem.list_append l its.toArray n u (by rw[List.size_toArray];omega)) ⟨e,?_⟩
 refine⟨.non,_,I.lset (its':=its++[u]) hH e (by simp) (r.append (.cons ru .nil)) ?_,rfl,q⟩
 rw[List.length_append,List.length_singleton];omega
def rCat:R2:=fun x y H Q=>∃l b xs zs,x = .ref l/\y = .ref b/\H l=some (.lst xs)/\H b=some (.lst zs)/\xs.length+zs.length≤sizeLine/\∀p,H p=none->Q (.ref p) (upd H p (.lst (xs++zs)))
theorem d7:OpR X (binaryOp .Add) rCat:=by
 intro pins s σ H x y v u Q I rx ry h;obtain⟨l,b,xs,zs,rfl,rfl,hH,hB,hz,q⟩:=h;cases rx;cases ry;obtain⟨z,its,n,r,hl,e⟩:=I.lstM hH;obtain⟨z2,its2,n2,r2,hl2,e2⟩:=I.lstM hB;refine PySem.P.add_list e e2 ?_ (by rw[List.size_toArray,List.size_toArray];omega)
 have ea:its.toArray++its2.toArray=(its++its2).toArray:=by simp
 rw[ea];exact⟨.ref _,_,I.lnew (t':=s.toks) (r.append r2) (by rw[List.length_append];omega),rfl,q _ I.fresh⟩
end
section
variable {prog:Program}{w:World}{A:Around}{E:Value->Shared->Prop}{s:Shared}
end
section
variable {X:Cx}
end
end L2
namespace L2
open PySem PySem.Spec PyProof.Rows
section
variable {κ:Type}[DecidableEq κ]
def valV (kvs:List (κ×V))(k:κ):Option V:=(kvs.find? fun kv=>decide (kv.1=k)).map (·.2)
def putK (kvs:List (κ×V))(k:κ)(v:V):List (κ×V):=
 if (kvs.any fun kv=>decide (kv.1=k))=true then kvs.map (fun kv=>if kv.1=k then (kv.1,v)else kv)else kvs++[(k,v)]
theorem fj {p:κ×V}{r:List (κ×V)}{k:κ}(e:p.1=k):valV (p::r) k=some p.2:=by simp[valV,List.find?_cons,e]
theorem fm {p:κ×V}{r:List (κ×V)}{k:κ}(e:¬p.1=k):valV (p::r) k=valV r k:=by simp[valV,List.find?_cons,e]
theorem fo (k:κ):∀kvs:List (κ×V),(kvs.any fun kv=>decide (kv.1=k))=(valV kvs k).isSome
 | []=>rfl
 | p::r=>by
  rw[List.any_cons];by_cases e:p.1=k
  . simp only[fj e,decide_eq_true e,Bool.true_or,Option.isSome_some]
  . rw[fm e,decide_eq_false e,Bool.false_or];exact fo k r
theorem dz (kvs:List (κ×V))(k:κ)(v:V):(putK kvs k v).length≤kvs.length+1:=by
 unfold putK
 split
 . rw[List.length_map];omega
 . rw[List.length_append,List.length_cons,List.length_nil];omega
theorem RelO.isSome_eq {o:Option V}{u:Option Value}(r:RelO o u):o.isSome=u.isSome:=by
 cases o with
 | none=>cases u with
  | none=>rfl
  | some _=>exact(show False from r).elim
 | some _=>cases u with
  | none=>exact(show False from r).elim
  | some _=>rfl
theorem KV.val {kvs:List (κ×V)}{vs:List (κ×Value)}(r:KV kvs vs)(k:κ):RelO (valV kvs k) (valueAt vs k):=by
 unfold KV at r
 induction r with
 | nil=>exact True.intro
 | @cons p q ps qs h t ih =>
  obtain⟨h1,h2⟩:=h;by_cases e:p.1=k
  . have e':q.1=k:=h1.symm.trans e;have b:valueAt (q::qs) k=some q.2:=by simp[valueAt,List.find?_cons,e']
    rw[fj e,b];exact h2
  . have e':¬q.1=k:=fun z=>e (h1.trans z);have b:valueAt (q::qs) k=valueAt qs k:=by simp[valueAt,List.find?_cons,e']
    rw[fm e,b];exact ih
theorem KV.any {kvs:List (κ×V)}{vs:List (κ×Value)}(r:KV kvs vs)(k:κ):(kvs.any fun kv=>decide (kv.1=k))=vs.any fun kv=>decide (kv.1=k):=by
 unfold KV at r
 induction r with
 | nil=>rfl
 | cons h t ih=>rw[List.any_cons,List.any_cons,ih,h.1]
theorem KV.repl {kvs:List (κ×V)}{vs:List (κ×Value)}(r:KV kvs vs)(k:κ){y:V}{u:Value}(ry:RelV y u):KV (kvs.map fun kv=>if kv.1=k then (kv.1,y)else kv) (vs.map fun kv=>if kv.1=k then (kv.1,u)else kv):=by
 unfold KV at r⊢
 induction r with
 | nil=>exact .nil
 | @cons p q ps qs h t ih =>
  rw[List.map_cons,List.map_cons];refine .cons ?_ ih;obtain⟨h1,h2⟩:=h;by_cases e:p.1=k
  . rw[if_pos e,if_pos (h1.symm.trans e)];exact⟨h1,ry⟩
  . rw[if_neg e,if_neg (fun z=>e (h1.trans z))];exact⟨h1,h2⟩
theorem KV.put {kvs:List (κ×V)}{vs:List (κ×Value)}(r:KV kvs vs)(k:κ){y:V}{u:Value}(ry:RelV y u):KV (putK kvs k y) (stored vs k u):=by
 unfold putK stored;rw[r.any k];by_cases e:(vs.any fun kv=>decide (kv.1=k))=true
 . rw[if_pos e,if_pos e];exact r.repl k ry
 . rw[if_neg e,if_neg e];exact Paired.snoc r ⟨rfl,ry⟩
theorem KV.length {kvs:List (κ×V)}{vs:List (κ×Value)}(r:KV kvs vs):kvs.length=vs.length:=Paired.length r
end
theorem iR {P:Program}{w:World}{k:Key}{u:Value}(r:RelV (kV k) u):(bp P w).is k u=true:=by
 cases k with
 | inl i=>obtain⟨t,e⟩:=(show ∃t,u=Value.int i t from r);subst e;exact mixKind_int P w i t
 | inr x=>obtain⟨t,e⟩:=(show ∃t,u=Value.str x t from r);subst e;exact mixKind_str P w x t
theorem gv {P:Program}{w:World}:∀{ks:List Key} {us:List Value},Vals (ks.map kV) us->ItemsAre (bp P w) ks us
 | [],_,r=>by rw[List.map_nil]at r;cases r;exact .nil
 | k::ks,_,r=>by
  rw[List.map_cons]at r;cases r with
  | cons h t=>exact .cons (iR h) (gv t)
abbrev KT (H:Hp):List (List Key×V)->List (List Key×Addr×Value)->Prop:=Paired fun p q=>p.1=q.1/\H q.2.1=some (.tup (p.1.map kV))/\RelV p.2 q.2.2
theorem KT.val {H:Hp}{kvs:List (List Key×V)}{xs:List (List Key×Addr×Value)}(r:KT H kvs xs)(k:List Key):RelO (valV kvs k) ((atKey xs k).map (·.2)):=by
 induction r with
 | nil=>exact True.intro
 | @cons p q ps qs h t ih =>
  obtain⟨h1,_,h2⟩:=h;by_cases e:p.1=k
  . have e':q.1=k:=h1.symm.trans e;have b:atKey (q::qs) k=some q.2:=by simp[atKey,List.find?_cons,e']
    rw[fj e,b];exact h2
  . have e':¬q.1=k:=fun z=>e (h1.trans z);have b:atKey (q::qs) k=atKey qs k:=by simp[atKey,List.find?_cons,e']
    rw[fm e,b];exact ih
theorem KT.repl {H:Hp}{kvs:List (List Key×V)}{xs:List (List Key×Addr×Value)}(r:KT H kvs xs)(k:List Key){y:V}{u:Value}(ry:RelV y u):KT H (kvs.map fun kv=>if kv.1=k then (kv.1,y)else kv) (xs.map (putAt k u)):=by
 induction r with
 | nil=>exact .nil
 | @cons p q ps qs h t ih =>
  rw[List.map_cons,List.map_cons];refine .cons ?_ ih;obtain⟨h1,h2,h3⟩:=h;unfold putAt;by_cases e:p.1=k
  . rw[if_pos e,if_pos (h1.symm.trans e)];exact⟨h1,h2,ry⟩
  . rw[if_neg e,if_neg (fun z=>e (h1.trans z))];exact⟨h1,h2,h3⟩
theorem KT.put {H:Hp}{kvs:List (List Key×V)}{xs:List (List Key×Addr×Value)}(r:KT H kvs xs)(k:List Key){b:Addr}{y:V}{u:Value}(hb:H b=some (.tup (k.map kV)))(ry:RelV y u):KT H (putK kvs k y) (storedH xs k b u):=by
 have e:(kvs.any fun kv=>decide (kv.1=k))=(atKey xs k).isSome:=by
  rw[fo,(r.val k).isSome_eq,Option.isSome_map]
 unfold putK storedH;rw[e];by_cases q:(atKey xs k).isSome=true
 . rw[if_pos q,if_pos q];exact r.repl k ry
 . rw[if_neg q,if_neg q];exact Paired.snoc r ⟨rfl,hb,ry⟩
theorem KT.keeps {H H':Hp}{kvs:List (List Key×V)}{xs:List (List Key×Addr×Value)}(r:KT H kvs xs)(ht:∀b ys,H b=some (.tup ys)->H' b=some (.tup ys)):KT H' kvs xs:=
 Paired.mapP r fun _ _ z=>⟨z.1,ht _ _ z.2.1,z.2.2⟩
section
variable {P:Program}{w:World}{H:Hp}{h:Heap}{a:Addr}
theorem jB {u:HO}(ok:HOk P w H h)(e:Rd H a u):ObjOk P w H h a u:=e.ok ok
theorem jm {kvs:List (Key×V)}(ok:HOk P w H h)(e:Rd H a (.dK kvs)):kvs.length≤sizeLine/\(a == sysModules)=false/\∃vs,KV kvs vs/\h.DictOf (bp P w) a vs:=
 show ObjOk P w H h a (.dK kvs)from jB ok e
theorem jF {kvs:List (Key×V)}(ok:HOk P w H h)(e:H a=some (.dK kvs)):kvs.length≤sizeLine/\(a == sysModules)=false/\∃vs,KV kvs vs/\h.DictOf (bp P w) a vs:=jm ok (.inl e)
theorem ir {ks:List Key}(ok:HOk P w H h)(e:H a=some (.tup (ks.map kV))):(tupleKind (bp P w)).is h ks a:=by
 obtain⟨_,its,r,o,h1,h2,n,h3⟩:=(show ObjOk P w H h a (.tup (ks.map kV))from ok a _ e)
 exact⟨o,its.toArray,n,h1,h2,h3,by simpa using gv r⟩
theorem jE {kvs:List (List Key×V)}(ok:HOk P w H h)(e:Rd H a (.dT kvs)):kvs.length≤sizeLine/\(a == sysModules)=false/\∃xs,KT H kvs xs/\h.DictOfH (tupleKind (bp P w)) a xs:=by
 obtain⟨z,y,xs,r,o,es,ep,h1,h2,h3,h4,h5⟩:=(show ObjOk P w H h a (.dT kvs)from jB ok e)
 refine⟨z,y,xs,r,o,es,ep,h1,h2,h3,h4,fun x hx=>?_,h5⟩;have all:∀{l:List (List Key×V)} {m:List (List Key×Addr×Value)},KT H l m->∀x∈m,(tupleKind (bp P w)).is h x.1 x.2.1:=by
  intro l m q
  induction q with
  | nil=>intro x hx;exact nomatch hx
  | @cons p q ps qs hq t ih =>
   intro x hx;rcases List.mem_cons.mp hx with e | hx
   . subst e;exact ir ok (by rw[←hq.1];exact hq.2.1)
   . exact ih x hx
 exact all r x hx
theorem dt_of {kvs:List (List Key×V)}(ok:HOk P w H h)(e:H a=some (.dT kvs)):kvs.length≤sizeLine/\(a == sysModules)=false/\∃xs,KT H kvs xs/\h.DictOfH (tupleKind (bp P w)) a xs:=jE ok (.inl e)
end
def DGet (H:Hp)(a:Addr)(y:V)(r:Option V):Prop:=
 (∃kvs k,Rd H a (.dK kvs)/\y=kV k/\r=valV kvs k)∨∃kvs k b,Rd H a (.dT kvs)/\y = .ref b/\H b=some (.tup (k.map kV))/\r=valV kvs k
def DPut (H:Hp)(a:Addr)(y v:V)(H':Hp):Prop:=
 (∃kvs k,H a=some (.dK kvs)/\y=kV k/\kvs.length < sizeLine/\H'=upd H a (.dK (putK kvs k v))) ∨
 ∃kvs k b,H a=some (.dT kvs)/\y = .ref b/\H b=some (.tup (k.map kV))/\kvs.length < sizeLine/\H'=upd H a (.dT (putK kvs k v))
theorem DGet.k {H:Hp}{a:Addr}{kvs:List (Key×V)}{k:Key}(e:H a=some (.dK kvs)):DGet H a (kV k) (valV kvs k):=.inl ⟨kvs,k,.inl e,rfl,rfl⟩
theorem DPut.k {H:Hp}{a:Addr}{kvs:List (Key×V)}{k:Key}{v:V}(e:H a=some (.dK kvs))(hl:kvs.length < sizeLine):DPut H a (kV k) v (upd H a (.dK (putK kvs k v))):=.inl ⟨kvs,k,e,rfl,hl,rfl⟩
section
variable {X:Cx}{pins:List (Addr×Obj)}{σ:St}{H:Hp}{s:Shared}{a:Addr}{y v:V}{u r:Value}{o:Option V}{A:Around}{E:Value->Shared->Prop}
theorem Inv.big (I:Inv X pins σ H s):sysModules < s.heap.objs.size:=by
 have h:mainGlobals < s.heap.objs.size:=(I.mod.glob.keeps I.bk).lt;exact Nat.lt_trans (by decide) h
theorem d_notIn {Q:Value->Shared->Prop}(hu:A.units+1 < cLine)(I:Inv X pins σ H s)(g:DGet H a y o)(ry:RelV y u)(h:∀s',Inv X pins σ H s'->Q (.bool (!o.isSome)) s'):wpAny (model X.prog X.w) A (compareOp .NotIn u (.ref a)) Q E s:=by
 rcases g with⟨kvs,k,e,ey,l⟩ | ⟨kvs,k,b,e,ey,eb,l⟩
 . subst ey;obtain⟨z,hd,vs,rel,dd⟩:=jm I.hok e;refine wpAny_notIn_of (iR ry) hd dd.mapOf ?_;rw[←(rel.val k).isSome_eq,←l];exact h _ (I.tok _)
 . subst ey;cases(show u=Value.ref b from ry)
   obtain⟨z,hd,xs,rel,dd⟩:=jE I.hok e;refine wpAny_notIn_heap (tupleKind_room_in1 hu) (ir I.hok eb) hd dd ?_;have q:=(rel.val k).isSome_eq;rw[Option.isSome_map]at q;rw[←q,←l];exact h _ (I.tok _)
theorem gU {h':Heap}{t':Nat}{ob:HO}(I:Inv X pins σ H s)(mu:Mut (H a))(hs:Heap.SameBut a s.heap h')(he:∃q,h'.get? a=some q)(new:ObjOk X.prog X.w (upd H a ob) h' a ob):Inv X pins σ (upd H a ob) { s with heap:=h',toks:=t' }:=
 I.write (x:=a) (e:=a) mu (.inl rfl) (fun b q hb z=>(hs.2 b hb).trans z) he new
theorem jo {P:Program}{w:World}{H':Hp}{h':Heap}{kvs:List (Key×V)}{vs:List (Key×Value)}(z:kvs.length≤sizeLine)(hd:(a == sysModules)=false)(rel:KV kvs vs)(dd:h'.DictOf (bp P w) a vs):ObjOk P w H' h' a (.dK kvs):=⟨z,hd,vs,rel,dd⟩
theorem d_setItem {H':Hp}{Q:Unit->Shared->Prop}(hu:A.units+1 < cLine)(I:Inv X pins σ H s)(g:DPut H a y v H')(ry:RelV y u)(rv:RelV v r)(h:∀s',Inv X pins σ H' s'->Q () s'):wpAny (model X.prog X.w) A (setItem (.ref a) u r) Q E s:=by
 rcases g with⟨kvs,k,e,ey,l,eH⟩ | ⟨kvs,k,b,e,ey,eb,l,eH⟩
 . subst ey eH;obtain⟨z,hd,vs,rel,dd⟩:=jF I.hok e;have hz:vs.length≤sizeLine:=by rw[←rel.length];exact z
   have hl:(putK kvs k v).length≤sizeLine:=by have:=dz kvs k v;omega
   refine wpAny_setItem_pairs (hsz:=hz) (iR ry) dd fun h' dd' hs=>h _ ?_;have he:∃q,h'.get? a=some q:=let ⟨q,_,_,hq,_⟩:=dd';⟨q,hq⟩
   exact gU I (by rw[e];exact True.intro) hs he (jo hl hd (rel.put k rv) dd')
 . subst ey eH;cases(show u=Value.ref b from ry)
   obtain⟨z,hd,xs,rel,dd⟩:=dt_of I.hok e;have hz:xs.length≤sizeLine:=by rw[←Paired.length rel];exact z
   have hl:(putK kvs k v).length≤sizeLine:=by have:=dz kvs k v;omega
   refine wpAny_setItem_heap (hsz:=hz) (tupleKind_room_in1 hu) (ir I.hok eb) dd fun h' dd' hs=>h _ ?_;obtain⟨q,es,ep,hq,h2,h3,h4,_,h5⟩:=dd';refine gU I (by rw[e];exact True.intro) hs ⟨q,hq⟩ ⟨hl,hd,_,(rel.put k eb rv).keeps fun c ys ec=>?_,q,es,ep,hq,h2,h3,h4,h5⟩
   rw[ae (jh ec e (fun z=>nomatch z))];exact ec
end
section
variable {X:Cx}{pins:List (Addr×Obj)}{σ:St}{H:Hp}{s:Shared}{a:Addr}{kvs:List (Key×V)}{k:Key}{u:Value}{A:Around}{E:Value->Shared->Prop}
theorem d_len {Q:Value->Shared->Prop}(I:Inv X pins σ H s)(e:Rd H a (.dK kvs))(h:∀t s',Inv X pins σ H s'->Q (.int kvs.length t) s'):wpAny (model X.prog X.w) A (call (.builtin "len") [.ref a]) Q E s:=by
 obtain⟨z,hd,vs,rel,dd⟩:=jm I.hok e;refine call_len_dict hd dd (by rw[←rel.length];rw[sizeLine_eq]at z;omega) ?_
 rw[←rel.length];exact h _ _ (I.tok _)
end
def tDNotIn (ty td:TE):TE:=fun σ H Q=>ty σ H fun y H1=>td σ H1 fun x H2=>∃a o,x = .ref a/\DGet H2 a y o/\Q (.bl (!o.isSome)) H2
def sDPut (td ty tv:TE):TS:=fun D σ H=>tv σ H fun v H1=>td σ H1 fun x H2=>ty σ H2 fun y H3=>∃a H4,x = .ref a/\DPut H3 a y v H4/\D.nx σ H4
section
variable {X:Cx}{o i e value:Expr}{pos pos' tpos:Pos}{td ty tv:TE}
theorem pc_dnotin (hu:X.A.units+1 < cLine)(hi:PE X i ty)(ho:PE X o td):PC X .NotIn i o (tDNotIn ty td):=by
 intro pins s σ H Q I h;refine thn (hi pins s σ H _ I h) fun iv s1 ⟨y,H1,I1,ry,q1⟩=>thn (ho pins s1 σ H1 _ I1 q1) fun u s2 ⟨x,H2,I2,rx,a,ov,ex,g,q2⟩=>?_;subst ex;obtain rfl:u=Value.ref a:=rx;exact d_notIn hu I2 g ry fun s3 I3=>⟨.bl (!ov.isSome),H2,I3,rfl,q2⟩
theorem gN (hu:X.A.units+1 < cLine)(ho:PE X o td)(hi:PE X i ty)(hv:PE X value tv)(hs:swapsWith value (some (.Subscript o i pos')) pos.line X.env=pure false):PS X (.Assign [.Subscript o i pos'] value pos) (sDPut td ty tv):=by
 intro pins s σ H D I h;refine wpAny_Assign_Subscript (thn (hv pins s σ H _ I h) fun r s1 ⟨v,H1,I1,rv,q1⟩=>thn (ho pins s1 σ H1 _ I1 q1) fun u s2 ⟨x,H2,I2,rx,q2⟩=>thn (hi pins s2 σ H2 _ I2 q2) fun iv s3 ⟨y,H3,I3,ry,a,H4,ex,g,q3⟩=>?_) hs;subst ex;obtain rfl:u=Value.ref a:=rx;exact d_setItem hu I3 g ry rv fun s4 I4=>⟨σ,H4,I4,q3⟩
end
theorem i6 {P:Program}{w:World}{H:Hp}(h:Heap)(hb:sysModules < h.objs.size):ObjOk P w H (h.push { cls:=.type "dict",data:=.dict #[] }) h.objs.size (.dK []):=
 ⟨Nat.zero_le _,beq_eq_false_iff_ne.mpr (Ne.symm (Nat.ne_of_lt hb)),[],.nil,Heap.DictOf.new h⟩
def tDNewK:TE:=fun _ H Q=>∀p,H p=none->Q (.ref p) (upd H p (.dK []))
section
variable {X:Cx}{pos:Pos}
theorem pe_dnewK:PE X (.Dict [] [] pos) tDNewK:=fun pins s σ H Q I h =>
 wpAny_Dict_empty ⟨.ref s.heap.objs.size,_,I.laid (a:=s.heap.objs.size) (o:=.dK []) (t':=s.toks) (fun _ _ q=>Heap.get?_push_of_some _ q) (Nat.le_refl _) (i6 s.heap I.big),rfl,h _ (I.hok.fresh (Nat.le_refl _))⟩
end
def io:List (TE×TE)->St->Hp->(List (V×V)->Hp->Prop)->Prop
 | [],_,H,Q=>Q [] H
 | (tk,tv)::r,σ,H,Q=>tk σ H fun x H1=>tv σ H1 fun y H2=>io r σ H2 fun ps H3=>Q ((x,y)::ps) H3
abbrev VV:List (V×V)->List (Value×Value)->Prop:=Paired fun p q=>RelV p.1 q.1/\RelV p.2 q.2
def PPs (X:Cx)(pos:Pos)(keys:List (Option Expr))(values:List Expr)(trs:List (TE×TE)):Prop:=
 ∀(pins:List (Addr×Obj)) (s:Shared) (σ:St) (H:Hp) (Q:List (V×V)->Hp->Prop),Inv X pins σ H s->io trs σ H Q →
  wpAny (model X.prog X.w) X.A (evalPairs (pairTrees keys values X.env pos)) (fun vs s'=>∃ps H',Inv X pins σ H' s'/\VV ps vs/\Q ps H') X.xe s
theorem pps_nil {X:Cx}{pos:Pos}:PPs X pos [] [] []:=fun pins s σ H Q I h=>pairTrees_nil_walk ⟨[],H,I,.nil,h⟩
theorem pps_cons {X:Cx}{pos:Pos}{k v:Expr}{ks:List (Option Expr)}{vs:List Expr}{tk tv:TE}{trs:List (TE×TE)}(hk:PE X k tk)(hv:PE X v tv)(hr:PPs X pos ks vs trs):PPs X pos (some k::ks) (v::vs) ((tk,tv)::trs):=fun pins s σ H Q I h =>
 pairTrees_cons_walk (thn (hk pins s σ H _ I h) fun u s1 ⟨x,H1,I1,rx,q1⟩=>thn (hv pins s1 σ H1 _ I1 q1) fun w2 s2 ⟨y,H2,I2,ry,q2⟩ =>
  thn (hr pins s2 σ H2 _ I2 q2) fun ws s3 ⟨ps,H3,I3,rel,q3⟩=>⟨(x,y)::ps,H3,I3,.cons ⟨rx,ry⟩ rel,q3⟩)
def eV (kvs more:List (Key×V)):List (Key×V):=more.foldl (fun acc kv=>putK acc kv.1 kv.2) kvs
theorem KV.merge:∀{more:List (Key×V)} {rs:List (Key×Value)} {kvs:List (Key×V)} {vs:List (Key×Value)},KV more rs->KV kvs vs->KV (eV kvs more) (merged vs rs):=by
 intro more rs kvs vs r;unfold KV at r
 induction r generalizing kvs vs with
 | nil=>intro q;exact q
 | @cons p q ps qs h t ih =>
  intro r0;have e:KV (putK kvs p.1 p.2) (stored vs q.1 q.2):=by
   have:=r0.put p.1 h.2;rw[←h.1];exact this
  exact ih e
theorem dQ:∀(more kvs:List (Key×V)),(eV kvs more).length≤kvs.length+more.length
 | [],kvs=>by show kvs.length≤kvs.length+0;omega
 | p::r,kvs=>by
  have h1:=dQ r (putK kvs p.1 p.2);have h2:=dz kvs p.1 p.2;show(eV (putK kvs p.1 p.2) r).length≤_;rw[List.length_cons];omega
theorem gg {P:Program}{w:World}:∀{kvs:List (Key×V)} {ws:List (Value×Value)},VV (kvs.map fun kv=>(kV kv.1,kv.2)) ws->∃rs,Carries (bp P w) ws rs/\KV kvs rs
 | [],_,r=>by rw[List.map_nil]at r;cases r;exact⟨[],True.intro,.nil⟩
 | p::kvs,_,r=>by
  rw[List.map_cons]at r;cases r with
  | @cons a b as bs h t =>
   obtain⟨rs,c,q⟩:=gg (P:=P) (w:=w) t;obtain⟨b1,b2⟩:=b;exact⟨(p.1,b2)::rs,⟨iR h.1,rfl,c⟩,.cons ⟨rfl,h.2⟩ q⟩
def tDisp (trs:List (TE×TE)):TE:=fun σ H Q=>∀p,H p=none->io trs σ (upd H p (.dK [])) fun ps H2=>H2 p=some (.dK [])/\∃kvs:List (Key×V),ps=kvs.map (fun kv=>(kV kv.1,kv.2))/\kvs.length≤15/\Q (.ref p) (upd H2 p (.dK (eV [] kvs)))
theorem pe_disp {X:Cx}{pos:Pos}{keys:List (Option Expr)}{values:List Expr}{trs:List (TE×TE)}(h:PPs X pos keys values trs)(hall:keys.all (·.isSome)=true)(hl:keys.length=values.length)(h0:keys≠[])(h15:keys.length≤15):PE X (.Dict keys values pos) (tDisp trs):=by
 intro pins s σ H Q I q;have hn:=I.hok.fresh (Nat.le_refl s.heap.objs.size);have I1:=I.laid (a:=s.heap.objs.size) (o:=.dK []) (h':=s.heap.push { cls:=.type "dict",data:=.dict #[] }) (t':=s.toks) (fun _ _ q=>Heap.get?_push_of_some _ q) (Nat.le_refl _) (i6 s.heap I.big);refine wpAny_Dict_walk (knd:=bp X.prog X.w) hall hl h0 h15 (thn (h pins _ σ _ _ I1 (q _ hn)) fun ws s2 ⟨ps,H2,I2,rel,e,kvs,ep,lk,q2⟩=>?_);subst ep;obtain⟨rs,c,rk⟩:=gg (P:=X.prog) (w:=X.w) rel;obtain⟨z,hd,vs0,r0,dd⟩:=jF I2.hok e;cases r0;refine⟨rs,c,dd,fun h' dd' hs=>⟨.ref s.heap.objs.size,_,?_,rfl,q2⟩⟩;have hz:(eV [] kvs).length≤sizeLine:=by
  have h1:=dQ kvs [];rw[List.length_nil]at h1;rw[sizeLine_eq];omega
 have he:∃q,h'.get? s.heap.objs.size=some q:=let ⟨q,_,_,hq,_⟩:=dd';⟨q,hq⟩
 exact gU I2 (by rw[e];exact True.intro) hs he (jo hz hd (rk.merge .nil) dd')
section
variable {X:Cx}{pins:List (Addr×Obj)}{σ:St}{H:Hp}{s:Shared}{a:Addr}{y d:V}{u r:Value}{o:Option V}{A:Around}{E:Value->Shared->Prop}
end
section
variable {X:Cx}{o e f:Expr}{apos cpos:Pos}{td ty tx:TE}
end
section
variable {X:Cx}{pins:List (Addr×Obj)}{σ:St}{H:Hp}{s:Shared}{a:Addr}{kvs:List (Key×V)}{A:Around}{E:Value->Shared->Prop}
end
section
variable {X:Cx}{pins:List (Addr×Obj)}{σ:St}{H:Hp}{s:Shared}{a:Addr}{y:V}{u:Value}{A:Around}{E:Value->Shared->Prop}
end
end L2
namespace Att
open PySem PySem.W PySem.Calls PyProof.Rows
theorem ints_of_wellAll {P:Params}{h:Heap}:∀(ns:List Int) (vs:List Value),WellAll P h vs (ns.map WData.int)->IntsAre vs ns:=by
 intro ns
 induction ns with
 | nil =>
  intro vs w;rw[List.map_nil]at w;cases w;exact .nil
 | cons n ns ih =>
  intro vs w;rw[List.map_cons]at w;cases w with
  | cons a b =>
   cases a;exact .cons _ _ (ih _ b)
theorem script_of {l:OpenLaw}{n:Nat}(hn:l.most=some n){P:Params}{h:Heap}{args:List WData}{vals:List Value}(hpre:l.row.toRowW.claim.pre args=true)(hwl:WellAll P h vals args):∃a vs ns,vals=[Value.ref a]/\args=[WData.list (ns.map WData.int)]/\h.get? a=some { cls:=.type "list",data:=.seq vs.toArray }/\IntsAre vs ns/\ns.length≤n:=by
 have hsh:WShape.hasAll [] args [.list .int]=true:=(pre_splitW hpre).1;have hc:l.pre.holds [] { args:=args }=true:=(pre_splitW hpre).2;obtain⟨d,r,rfl,h1,h2⟩:=hasAllW_cons hsh;obtain rfl:=hasAllW_nil h2;obtain⟨xs,rfl,h3⟩:=hasW_list h1;obtain⟨ns,rfl⟩:=items_int h3;have hlen:ns.length≤n:=by
  unfold OpenLaw.pre at hc;have h4:(WTm.not (.lt (.lit (.int (n:Int))) (.len (.arg 0)))).holds [] { args:=[.list (ns.map .int)] }=true:=by
   have h4:=(holds_andW hc).1;rw[hn]at h4;exact h4
  have h5:=condW_of h4 (w_not (w_lt w_lit (w_len_list (w_arg rfl))));rw[List.length_map]at h5;refine Nat.le_of_not_lt fun q=>?_;have q':(n:Int) < ((ns.length:Nat):Int):=by omega
  first
   | (rw[decide_eq_true q']at h5;exact absurd h5 (by decide))
   | (simp at h5;omega)
 cases hwl with
 | cons w1 w2 =>
  cases w2;cases w1 with
  | list ho hall=>exact⟨_,_,ns,rfl,rfl,ho,ints_of_wellAll ns _ hall,hlen⟩
theorem post_true (l:OpenLaw)(args:List WData):l.row.toRowW.claim.post args (.bool true) args=true:=
 postW_of (r:=l.row.toRowW) (X:=(true == true))
  (show WShape.has [] (.bool true) .bool=true by first | rfl | decide | simp[WShape.has,WShape.arms,WShape.armsAll])
  (show(WTm.eq .res (.lit (.bool true))).value [] { args:=args,res:=some (.bool true),after:=args }=some (.bool (true == true))from w_eq_bool (w_res rfl) w_lit) rfl
section
variable {prog:Program}{w:World}{A:Around}{E:Value->Shared->Prop}{s:Shared}{K:Frag}
end
end Att
namespace L2
open PySem PySem.Spec PyProof.Rows
theorem gh:∀{vs:List Value} {ns:List Int},IntsAre vs ns->Vals (ns.map V.int) vs
 | _,_,.nil=>.nil
 | _,_,.cons n t h=>.cons ⟨t,rfl⟩ (gh h)
def Only (H:Hp):Prop:=∀b,H b=none∨∃o xs,H b=some (.frz o (.lst xs))
theorem law_call {P:Program}{w:World}{K:PySem.W.Frag}{mg mb:Str->Option Value}{CX:CXT}{k:Nat}{fa a:Addr}{fd:FuncData}{x:Str}{sp:Sp}{s₁:Shared}{vs:List Value}{ns:List Int}(KX:K.In s₁.heap)(hns:s₁.heap.Ns mainGlobals mg)(hb:s₁.heap.Ns builtinsNs mb)(hbb:∀x:Str,x ≠ "__name__"->mb x=bootBuiltins x)(hlim:s₁.heap.NoLimit)(hbm:∃bm ob,mg "__builtins__" = some (.ref bm)/\bm≠builtinsNs/\s₁.heap.get? bm=some ob/\ob.cls = .type "module"/\ob.dict=some builtinsNs/\ob.data = .plain)(hg:s₁.gens = #[])(ha:s₁.heap.get? a=some { cls:=.type "list",data:=.seq vs.toArray })(hi:IntsAre vs ns)(hl:ns.length≤sizeLine)(hr:Room k callerA)
 (F:∀base:Heap,K.In base->base.Ns mainGlobals mg->FnOk P w K mg base CX k fa fd [x] sp) (hbind:∀(s:Shared) (u:Value),BindsTo s fd ⟨[u],[]⟩ [(x,u)])
 (hsp:∀H:Hp,Only H->SqL K H a (ns.map V.int)->sp [.ref a] H (fun v _=>v = .bl true) fun _ _ _=>False)
 (hCX:∀H e s',CX [] H s₁ (fun _ _ _=>False) e s'->False) :
 codeAny (model P w) callerA (.call (.ref fa) ⟨[.ref a],[]⟩) (fun r s'=>r = .ok (.ret (.bool true))/\OldK s₁.heap s'.heap/\s'.os=s₁.os/\AllBare s'.gens) s₁:=by
 have rv:=gh hi;have lenV:=hi.length;have core:∀H:Hp,Only H->SqL K H a (ns.map V.int)->HOk P w H s₁.heap->(∀b,H b≠none->b=a)->(H a≠none->K.lookup a=none) →
  codeAny (model P w) callerA (.call (.ref fa) ⟨[.ref a],[]⟩) (fun r s'=>r = .ok (.ret (.bool true))/\OldK s₁.heap s'.heap/\s'.os=s₁.os/\AllBare s'.gens) s₁:=by
  intro H hO hS hok hA hK;have base_of:∀{b:Addr} {o:Obj},s₁.heap.get? b=some o->H b=none->(hidT s₁.heap H).get? b=some o:=fun e n=>hidT_get e n;have noA:∀{b:Addr} {o:Obj} {es:Array DictEntry} {ep:Nat},s₁.heap.get? b=some o->o.data = .dict es ep->H b=none:=fun{b o es ep} e d=>by
   cases q:H b with
   | none=>rfl
   | some u =>
    have e':b=a:=hA b (by rw[q];simp)
    subst e';rw[ha]at e;cases e;have d':Data.seq vs.toArray _=Data.dict es ep:=d;cases d'
  have nsK:∀{b:Addr} {m:Str->Option Value},s₁.heap.Ns b m->(hidT s₁.heap H).Ns b m:=fun{b m} ⟨o,es,ep,e,d,r⟩=>⟨o,es,ep,base_of e (noA e d),d,r⟩;have hKb:K.In (hidT s₁.heap H):=fun b o e=>base_of (KX b o e) (by
   cases q:H b with
   | none=>rfl
   | some u =>
    have e':b=a:=hA b (by rw[q];simp)
    subst e';rw[hK (by rw[q];simp)]at e;cases e)
  have hM:Mod K mg (hidT s₁.heap H):=⟨hKb,nsK hns,⟨mb,nsK hb,hbb⟩,let ⟨mc,h1,h2⟩:=hlim;⟨mc,nsK h1,h2⟩,by
   obtain⟨bm,ob,b1,b2,b3,b4⟩:=hbm;refine⟨bm,ob,b1,b2,base_of b3 ?_,b4⟩;cases q:H bm with
   | none=>rfl
   | some u =>
    have e':bm=a:=hA bm (by rw[q];simp)
    subst e';rw[ha]at b3;cases b3;exact absurd b4.1 (by show ¬Value.type "list" = .type "module"; decide +kernel)⟩
  have e0:Env0 P w K mg (hidT s₁.heap H) callerA [] s₁ H:=⟨rfl,hM,fun b o e=>of_hidT e,Nat.le_of_eq (hidT_size _ _),trivial,fun b hb=>absurd (show b∈([]:List Addr)from hb) (by simp),hok,.of_eq hg⟩
  refine codeAny_mono ((F _ hKb (nsK hns)).run callerA [] s₁ H ⟨[.ref a],[]⟩ [.ref a] [.ref a] _ _ hr e0 (hbind s₁ (.ref a)) (.cons rfl .nil) (hsp H hO hS)) fun r s' h=>?_;cases r with
  | error e=>exact(hCX H e s' h).elim
  | ok fl =>
   cases fl with
   | next=>exact False.elim h
   | brk=>exact False.elim h
   | cont=>exact False.elim h
   | ret u =>
    obtain⟨v,H',os,bare,un,hok',r',q⟩:=h;have q':v = .bl true:=q;subst q';obtain rfl:u=Value.bool true:=r';refine⟨rfl,OldK.of_keep fun b o e=>?_,os,bare⟩;cases q:H b with
    | none=>exact un.keep b o e q (by intro z;exact absurd (show b∈([]:List Addr)from z) (by simp)) (by simp)
    | some u =>
     rcases hO b with z | ⟨ob,xs,z⟩
     . rw[q]at z;cases z
     . have z2:=un.frzs b ob _ z;obtain⟨e1,_⟩:=hok b _ z;obtain⟨e2,_⟩:=hok' b _ z2;rw[e]at e1;cases e1;exact e2
 cases hk:K.lookup a with
 | some o =>
  have e:=KX a o hk;rw[ha]at e;cases e;refine core (fun _=>none) (fun _=>.inl rfl) (.inr ⟨_,vs.toArray,_,hk,rfl,rfl,rfl,by rw[List.size_toArray,lenV];exact hl,by simpa using rv⟩) (fun b u z=>by have z':(none:Option HO)=some u:=z;cases z') (fun b z=>absurd rfl z) fun z=>absurd rfl z
 | none =>
  refine core (fun b=>if b=a then some (.frz { cls:=.type "list",data:=.seq vs.toArray } (.lst (ns.map V.int)))else none) (fun b=>?_) (.inl (.inr ⟨{ cls:=.type "list",data:=.seq vs.toArray },if_pos rfl⟩)) (fun b u z=>?_) (fun b z=>?_) fun _=>hk
  . by_cases hb:b=a
    . exact .inr ⟨_,_,if_pos hb⟩
    . exact .inl (if_neg hb)
  . by_cases hb:b=a
    . have z':=(if_pos hb).symm.trans z;cases z';subst hb;exact⟨ha,by rw[List.length_map];exact hl,vs,_,rv,ha⟩
    . have z':=(if_neg hb).symm.trans z;cases z'
  . by_cases hb:b=a
    . exact hb
    . exact absurd (if_neg hb) z
end L2
namespace L2
open PySem PySem.Spec PyProof.Rows
end L2
namespace L2
open PySem PySem.Spec PyProof.Rows
def au (s:Stmt):Arguments:=match s with
 | .FunctionDef _ a _ _ _ _ _ _ _ _=>a
 | _=>{ posonlyargs:=[],args:=[],vararg:=none,kwonlyargs:=[],kw_defaults:=[],kwarg:=none,defaults:=[] }
def aq (s:Stmt):List Stmt:=match s with
 | .FunctionDef _ _ b _ _ _ _ _ _ _=>b
 | _=>[]
def aa (s:Stmt):Scope:=match s with
 | .FunctionDef _ _ _ _ _ _ sc _ _ _=>sc
 | _=>{ kind:=.function,names:=[],isGenerator:=false,isCoroutine:=false }
abbrev CX0:CXT:=fun _ _ _ _ _ _=>False
abbrev E0:XK:=fun _ _ _=>False
theorem aE {X:Cx}:eZ CX0 X E0:=fun _ _ _ _ _ _ _ h=>h.elim
structure Fun (K:PySem.W.Frag) (x qual:Str) (st:Stmt) (f:Addr) (fd:FuncData):Prop where
 ex:∃(oc:Value) (od:Option Addr) (kV doc pm:Value) (an:Option Addr) (cdv ct:Value) (osl:Array (Option Value)),
  fd=PySem.W.fnOf x qual (au st) (aq st) (aa st) .none kV doc pm an cdv ct/\K.lookup f=some ⟨oc,od,.func fd,osl⟩/\PySem.W.codeIn K cdv qual=true
 kp:PySem.W.keepIn K (.ref f)=true
section
variable {P:Program}{w:World}{K:PySem.W.Frag}{mg:Str->Option Value}{base:Heap}
theorem Fun.ok {x qual:Str}{st:Stmt}{f:Addr}{fd:FuncData}{N ps:List Str}{k:Nat}{sp:Sp}(F:Fun K x qual st f fd)(S:FnScope N ps (aa st))(len:∀vs H Q E,sp vs H Q E->vs.length=ps.length)(hbody:∀(cdv:Value) (A:Around) (outer:List Env) (s:Shared) (H:Hp) (vs:List V) (Q:VK) (E:XK),Room k (A.deeper (envOfC qual (aa st) s.heap.objs.size f cdv))->sp vs H Q E->∃t,PSs (cxOf CX0 P w K mg base N qual (aa st) f cdv A outer s H E).nox (aq st) t/\t { nx:=fun _ H'=>Q .non H',rt:=Q } (start N vs) H):FnOk P w K mg base CX0 (k+1) f fd ps sp:=by
 obtain⟨oc,od,kV,doc,pm,an,cdv,ct,osl,rfl,lk,hcd⟩:=F.ex;refine fn_of lk hcd S len fun A outer s H vs Q E hr hsp=>?_;obtain⟨t,h,q⟩:=hbody cdv A outer s H vs Q E hr hsp;exact⟨t,h.nox,q⟩
theorem Fun.binds {x qual:Str}{st:Stmt}{f:Addr}{fd:FuncData}{ps:List Str}(F:Fun K x qual st f fd)(h:∀(kV doc pm:Value) (an:Option Addr) (cdv ct:Value) (us:List Value),us.length=ps.length->bindArgs (PySem.W.fnOf x qual (au st) (aq st) (aa st) .none kV doc pm an cdv ct) ⟨us,[]⟩=pure (ps.zip us)):Binds K fd ps []:=by
 obtain⟨oc,od,kV,doc,pm,an,cdv,ct,osl,rfl,lk,hcd⟩:=F.ex;exact .all (h kV doc pm an cdv ct)
theorem cc {x qual:Str}{st:Stmt}{f:Addr}{oc:Value}{od an:Option Addr}{osl:Array (Option Value)}{kV doc pm cdv ct:Value}(l:K.lookup f=some ⟨oc,od,.func (PySem.W.fnOf x qual (au st) (aq st) (aa st) .none kV doc pm an cdv ct),osl⟩)(c:PySem.W.codeIn K cdv qual=true)(k:PySem.W.keepIn K (.ref f)=true):Fun K x qual st f (PySem.W.fnOf x qual (au st) (aq st) (aa st) .none kV doc pm an cdv ct):=⟨⟨oc,od,kV,doc,pm,an,cdv,ct,osl,rfl,l,c⟩,k⟩
end
theorem iT {A:Around}{k:Nat}(hr:Room k A):A.units+1 < cLine:=Nat.lt_of_le_of_lt (Nat.add_le_add_left (by decide:1≤64) _) hr.units
theorem aR {n:Nat}(h:n≤1000):n < sizeLine:=Nat.lt_of_le_of_lt h (by decide)
section
variable {X:Cx}
theorem pv (i:Nat){x:Str}{pos:Pos}(hN:X.N[i]? = some x:=by rfl)(hv:Vis X.env.scope x:=by first | exact Or.inl rfl | exact Or.inr (Or.inl rfl) | exact Or.inr (Or.inr rfl))(hd:(x == ("__debug__" : Str))=false:=by decide)
 (hcd:(x == ("__classdict__" : Str))=false:=by decide):PE X (.Name x pos) (tVar i):=pe_var hN hv hd hcd
theorem call_lenD:cE X (.builtin "len") (fun xs H Q=>∃a kvs,xs=[V.ref a]/\H a=some (.dK kvs)/\Q (.int kvs.length) H):=by
 intro pins s σ H xs us Q I r h;obtain⟨a,kvs,rfl,ha,q⟩:=h;obtain⟨u,rfl,ru⟩:=f6 r;cases ru;exact d_len I (.inl ha) fun t s' I'=>⟨.int kvs.length,H,I',⟨t,rfl⟩,q⟩
end
theorem iteF {A B:Prop}(h:B):if false=true then A else B:=by
 rw[if_neg Bool.false_ne_true];exact h
theorem iteT {A B:Prop}(h:A):if true=true then A else B:=by
 rw[if_pos rfl];exact h
def Same (H H':Hp):Prop:=∀b o,H b=some o->H' b=some o
theorem Same.refl (H:Hp):Same H H:=fun _ _ h=>h
theorem Same.trans {H H1 H2:Hp}(a:Same H H1)(b:Same H1 H2):Same H H2:=fun c o h=>b c o (a c o h)
theorem Same.free {H H':Hp}(e:Same H H'){l:Addr}(h:H' l=Option.none):H l=Option.none:=by
 cases q:H l with
 | none=>rfl
 | some o =>
  rw[e l o q]at h;cases h
theorem Same.seq {K:PySem.W.Frag}{H H':Hp}{a:Addr}{xs:List V}(e:Same H H')(h:SqL K H a xs):SqL K H' a xs:=by
 rcases h with(h | ⟨o,h⟩) | h
 . exact .inl (.inl (e _ _ h))
 . exact .inl (.inr ⟨o,e _ _ h⟩)
 . exact .inr h
section
variable {κ:Type}[DecidableEq κ]
end
end L2
namespace L2
open PySem PySem.Spec PyProof.Rows
def oldB (N M:List Str)(sc:Scope):Bool:=(List.range N.length).all fun i=>match M[i]? with
 | some y=>(sc.names.lookup y != some .local)&&(sc.names.lookup y != some .cell)&&((sc.names.lookup y != some .free)||(N[i]? == some y))
 | none=>true
structure CompS (scN:List (Str×NameKind)) (N M:List Str) (x:Str) (sc:Scope):Prop where
 kind:sc.kind = .function
 keys:(sc.names.map (·.1)).Nodup
 fr:∀p∈sc.names,p.2 = .free->scN.lookup p.1=some .cell∨scN.lookup p.1=some .free
 nd:M.Nodup
 len:M.length=N.length+1
 last:M[N.length]? = some x
 own:sc.names.lookup x=some .local∨sc.names.lookup x=some .cell
 old:oldB N M sc=true
theorem oldB_at {N M:List Str}{sc:Scope}(h:oldB N M sc=true){i:Nat}{y:Str}(hi:i < N.length)(e:M[i]? = some y):sc.names.lookup y≠some .local/\sc.names.lookup y≠some .cell/\(sc.names.lookup y=some .free->N[i]? = some y):=by
 have q:=List.all_eq_true.mp h i (List.mem_range.mpr hi);rw[e]at q;simp only[Bool.and_eq_true,Bool.or_eq_true,bne_iff_ne,beq_iff_eq,ne_eq]at q;obtain⟨⟨q1,q2⟩,q3⟩:=q;exact⟨q1,q2,fun z=>q3.elim (fun w=>absurd z w) id⟩
theorem d8 {l:List (Str×NameKind)}(nd:(l.map (·.1)).Nodup){p:Str×NameKind}(h:p∈l):l.lookup p.1=some p.2:=by
 induction l with
 | nil=>cases h
 | cons q r ih =>
  obtain⟨h1,h2⟩:=List.nodup_cons.mp (show(q.1::r.map (·.1)).Nodup from nd)
  rw[List.lookup_cons];rcases List.mem_cons.mp h with e | h
  . subst e;rw[beq_self_eq_true]
  . have ne:(p.1 == q.1)=false:=by
     rw[beq_eq_false_iff_ne];intro e;exact h1 (e▸List.mem_map.mpr ⟨p,h,rfl⟩)
    rw[ne];exact ih h2 h
theorem closure_ok {scope:Scope}{env:Env}(h:∀p∈scope.names,p.2 = .free->∃c,env.cells.lookup p.1=some c):∃cl,closureFor scope env=pure cl/\(∀y c,(y,c)∈cl->env.cells.lookup y=some c/\(y,NameKind.free)∈scope.names)/\∀p∈scope.names,p.2 = .free->∃c,cl.lookup p.1=some c:=by
 have gen:∀(l:List (Str×NameKind)) (acc:List (Str×Addr)),(∀p∈l,p.2 = .free->∃c,env.cells.lookup p.1=some c) →
  ∃cl,(forIn l acc fun(p:Str×NameKind) (cs:List (Str×Addr))=>if p.2 == .free then (do let a ←cellOf env p.1;pure (ForInStep.yield ((p.1,a)::cs)))else (pure (ForInStep.yield cs):Sem (ForInStep (List (Str×Addr)))))=pure cl ∧
   (∀y c,(y,c)∈cl->(y,c)∈acc∨(env.cells.lookup y=some c/\(y,NameKind.free)∈l))/\(∀y c,acc.lookup y=some c->∃c',cl.lookup y=some c')/\∀p∈l,p.2 = .free->∃c,cl.lookup p.1=some c:=by
  intro l
  induction l with
  | nil=>intro acc _;exact⟨acc,rfl,fun y c e=>.inl e,fun y c e=>⟨c,e⟩,fun p hp=>nomatch hp⟩
  | cons q r ih =>
   intro acc hq;obtain⟨n,k⟩:=q;rw[List.forIn_cons];by_cases hk:k = .free
   . subst hk;obtain⟨c,hc⟩:=hq (n,.free) List.mem_cons_self rfl;have hc':env.cells.lookup n=some c:=hc;have e1:cellOf env n=pure c:=by unfold cellOf;rw[hc']
     obtain⟨cl,e,h1,h2,h3⟩:=ih ((n,c)::acc) fun p hp=>hq p (List.mem_cons_of_mem _ hp);refine⟨cl,?_,?_,?_,?_⟩
     . simp only[beq_self_eq_true,if_true,e1,pure_bind];exact e
     . intro y d hy;rcases h1 y d hy with z | ⟨z1,z2⟩
       . rcases List.mem_cons.mp z with z | z
         . cases z;exact .inr ⟨hc',List.mem_cons_self⟩
         . exact .inl z
       . exact .inr ⟨z1,List.mem_cons_of_mem _ z2⟩
     . intro y d hy;by_cases e':y=n
       . subst e';exact h2 y c (by rw[List.lookup_cons,beq_self_eq_true])
       . exact h2 y d (by rw[List.lookup_cons,beq_eq_false_iff_ne.mpr e'];exact hy)
     . intro p hp hf;rcases List.mem_cons.mp hp with z | z
       . subst z;exact h2 n c (by rw[List.lookup_cons,beq_self_eq_true])
       . exact h3 p z hf
   . have hkb:(k == NameKind.free)=false:=beq_eq_false_iff_ne.mpr hk;obtain⟨cl,e,h1,h2,h3⟩:=ih acc fun p hp=>hq p (List.mem_cons_of_mem _ hp);refine⟨cl,?_,?_,h2,?_⟩
     . simp only[hkb,Bool.false_eq_true,if_false,pure_bind];exact e
     . intro y d hy;rcases h1 y d hy with z | ⟨z1,z2⟩
       . exact .inl z
       . exact .inr ⟨z1,List.mem_cons_of_mem _ z2⟩
     . intro p hp hf;rcases List.mem_cons.mp hp with z | z
       . subst z;exact absurd hf hk
       . exact h3 p z hf
 obtain⟨cl,e,h1,_,h3⟩:=gen scope.names [] h;refine⟨cl,?_,fun y c hy=>(h1 y c hy).elim (fun z=>nomatch z) id,h3⟩;unfold closureFor;have e':(forIn scope.names ([]:List (Str×Addr)) fun(p:Str×NameKind) (cs:List (Str×Addr))=>if p.2 == .free then (do let a ←cellOf env p.1;pure (ForInStep.yield ((p.1,a)::cs)))else (pure (ForInStep.yield cs):Sem (ForInStep (List (Str×Addr)))))=pure cl:=e
 first
  | (simp only[bind_pure_comp,Functor.map_map]at e'⊢;simpa using e')
  | (show(forIn scope.names ([]:List (Str×Addr)) _ >>= fun cs=>pure cs)=pure cl
     rw[bind_pure];exact e')
theorem de:∀(names:List (Str×NameKind)) (n:Nat) (acc:List (Str×Addr)) {y:Str},(∀p∈names,p.2 = .cell->p.1≠y)->(cellsFrom n names acc).lookup y=acc.lookup y
 | [],_,_,_,_=>rfl
 | (m,k)::r,n,acc,y,h=>by
  unfold cellsFrom
  split
  . rename_i hk;have hk':k = .cell:=by simpa using hk
    rw[de r (n+1) _ fun p hp=>h p (List.mem_cons_of_mem _ hp),List.lookup_cons];have:(y == m)=false:=by rw[beq_eq_false_iff_ne];exact fun e=>h (m,k) List.mem_cons_self hk' e.symm
    rw[this]
  . exact de r n acc fun p hp=>h p (List.mem_cons_of_mem _ hp)
theorem bt:∀(names:List (Str×NameKind)) (n:Nat) (acc:List (Str×Addr)) {y:Str} {c:Addr},acc.lookup y=some c->∃d,(cellsFrom n names acc).lookup y=some d
 | [],_,_,_,c,h=>⟨c,h⟩
 | (m,k)::r,n,acc,y,c,h=>by
  unfold cellsFrom
  split
  . by_cases e:y=m
    . exact bt r (n+1) _ (c:=n) (by rw[List.lookup_cons,beq_iff_eq.mpr e])
    . exact bt r (n+1) _ (c:=c) (by rw[List.lookup_cons,beq_eq_false_iff_ne.mpr e];exact h)
  . exact bt r n acc h
theorem d9:∀(names:List (Str×NameKind)) (n:Nat) (acc:List (Str×Addr)) {y:Str},(y,NameKind.cell)∈names->∃c,(cellsFrom n names acc).lookup y=some c
 | (m,k)::r,n,acc,y,h=>by
  unfold cellsFrom;rcases List.mem_cons.mp h with e | h
  . cases e;rw[if_pos (show(NameKind.cell == NameKind.cell)=true from rfl)]
    exact bt r (n+1) _ (c:=n) (by rw[List.lookup_cons,beq_self_eq_true])
  . split
    . exact d9 r _ _ h
    . exact d9 r _ _ h
theorem d4:∀(names:List (Str×NameKind)) (h:Heap) (acc:List (Str×Addr)) {y:Str} {c:Addr},(y,c)∈cellsFrom h.objs.size names acc->(y,c)∈acc∨(h.objs.size≤c/\(y,NameKind.cell)∈names/\(pushCells h names).IsCell c none)
 | [],_,_,_,_,e=>.inl e
 | (m,k)::r,h,acc,y,c,e=>by
  unfold cellsFrom at e;unfold pushCells
  split at e
  . rename_i hk;have hk':k = .cell:=by simpa using hk
    rw[if_pos hk];have sz:(h.push { cls:=.type "cell",data:=.cell none }).objs.size=h.objs.size+1:=Heap.size_push ..;have e':(y,c)∈cellsFrom (h.push { cls:=.type "cell",data:=.cell none }).objs.size r ((m,h.objs.size)::acc):=by rw[sz];exact e
    rcases d4 r _ _ e' with z | ⟨z1,z2,z3⟩
    . rcases List.mem_cons.mp z with z | z
      . cases z;exact .inr ⟨Nat.le_refl _,by rw[hk'];exact List.mem_cons_self,⟨_,pushCells_keeps r _ _ _ (Heap.get?_push_size _ rfl),rfl⟩⟩
      . exact .inl z
    . exact .inr ⟨by rw[sz]at z1;omega,List.mem_cons_of_mem _ z2,z3⟩
  . rename_i hk;rw[if_neg hk];rcases d4 r h acc e with z | ⟨z1,z2,z3⟩
    . exact .inl z
    . exact .inr ⟨z1,List.mem_cons_of_mem _ z2,z3⟩
theorem dc:∀(names:List (Str×NameKind)) (n:Nat) (acc:List (Str×Addr)),(∀y c,(y,c)∈acc->c < n)->(∀y z c,(y,c)∈acc->(z,c)∈acc->y=z) →
 ∀y z c,(y,c)∈cellsFrom n names acc->(z,c)∈cellsFrom n names acc->y=z
 | [],_,_,_,h2,y,z,c,e1,e2=>h2 y z c e1 e2
 | (m,k)::r,n,acc,h1,h2,y,z,c,e1,e2=>by
  unfold cellsFrom at e1 e2
  split at e1
  . rename_i hk;rw[if_pos hk]at e2;refine dc r (n+1) ((m,n)::acc) ?_ ?_ y z c e1 e2
    . intro y c h;rcases List.mem_cons.mp h with h | h
      . cases h;exact Nat.lt_succ_self _
      . exact Nat.lt_succ_of_lt (h1 y c h)
    . intro y z c hy hz;rcases List.mem_cons.mp hy with a | a<;>rcases List.mem_cons.mp hz with b | b
      . cases a;cases b;rfl
      . cases a;exact absurd (h1 z n b) (Nat.lt_irrefl _)
      . cases b;exact absurd (h1 y n a) (Nat.lt_irrefl _)
      . exact h2 y z c a b
  . rename_i hk;rw[if_neg hk]at e2;exact dc r n acc h1 h2 y z c e1 e2
theorem newEnv_comp {M:Model}{A:Around}{E:Value->Shared->Prop}{s:Shared}{scope:Scope}{cl:List (Str×Addr)}{env:Env}{Q:Env->Shared->Prop}(hQ:∀h4:Heap,h4.Ns s.heap.objs.size (fun _=>none)->(∀b o,s.heap.get? b=some o->h4.get? b=some o)->(∀y c,(y,c)∈cellsFrom (s.heap.objs.size+1) scope.names cl->(y,c)∈cl∨(s.heap.objs.size+1≤c/\(y,NameKind.cell)∈scope.names/\h4.IsCell c none))->∀cenv:Env,{ cenv with scope:=relabel scope env }=compEnvC scope (cellsFrom (s.heap.objs.size+1) scope.names cl) s.heap.objs.size env->cenv.locals=s.heap.objs.size->Q cenv { s with heap:=h4 }) :
 wpAny M A (newFunctionEnv scope env.globals cl [] env.qual none .none (some env)) Q E s:=by
 simp only[newFunctionEnv,Option.isSome_some,if_true];refine wpAny_bind (wpAny_alloc ?_);refine wpAny_bind (wpAny_layCells _ (fun name kind cells=>by cases hkc:kind == NameKind.cell<;>simp[hkc]) _ _ _ _ ?_)
 have sz:(s.heap.push { cls:=.type "dict",data:=.dict #[] }).objs.size=s.heap.objs.size+1:=Heap.size_push ..;rw[show({ s with heap:=s.heap.push { cls:=.type "dict",data:=.dict #[] } }:Shared).heap.objs.size=s.heap.objs.size+1 from Heap.size_push ..]
 rw[List.forIn_nil];refine wpAny_bind (wpAny_pure (wpAny_pure ?_));refine hQ _ ((Heap.Ns.new s.heap (.type "dict")).keeps (pushCells_keeps _ _)) (fun b o e=>pushCells_keeps _ _ b o (Heap.get?_push_of_some _ e)) (fun y c h=>?_) _ rfl rfl;rw[←sz]at h⊢;exact d4 _ _ _ h
theorem compLoop_any {prog:Program}{w:World}{A:Around}{R:Result->Shared->Prop}{s:Shared}{elt target iter:Expr}{ifs:List Expr}{scope:Scope}{pos:Pos}{it acc:Value}{env:Env}(I:Nat->Shared->Prop)
 (turn:∀n s,I n s->wpAny (model prog w) A (pyNext it) (fun r s₁=>match r with
   | none=>R (.ok .next) s₁
   | some v=>wpAny (model prog w) A (letOwnedTupleGo target it v) (fun _ s₀=>wpAny (model prog w) A (assign target env v) (fun _ s₂ =>
    wpAny (model prog w) A (forIn ifs true fun c r=>if r=true then do let ok ←isTrue c env (eval c env);pure (ForInStep.yield ok)else pure (ForInStep.yield r)) (fun ok s₃ =>
     if ok=true then wpAny (model prog w) A (eval elt env) (fun x s₄ =>
      wpAny (model prog w) A (call (.builtin "list.append") [acc,x]) (fun _ s₅=>∃m,m < n/\I m s₅) (fun _ _=>False) s₄) (fun _ _=>False) s₃
     else ∃m,m < n/\I m s₃) (fun _ _=>False) s₂) (fun _ _=>False) s₀) (fun _ _=>False) s₁) (fun _ _=>False) s)
 (n:Nat) (h:I n s) :
 codeAny (model prog w) A (.compLoop (.ListComp elt [⟨target,iter,ifs,0⟩] scope pos) 0 it acc env) R s:=by
 refine codeAny_loop rfl I (fun n s hI=>?_) n h;show wpAny _ A ((compTurn (.ListComp elt [⟨target,iter,ifs,0⟩] scope pos) 0 it acc env).onRaise (fun x=>do noteFrame x env;theTreesLotGoes x)) _ _ s
 refine wpAny_noted ?_;rw[compTurn_list];refine wpAny_bind (wpAny_standAt (wpAny_bind (wpAny_mono (turn n s hI) (fun r s₁ h₁=>?_) fun _ _ h'=>h'.elim)));cases r with
 | none=>exact wpAny_pure h₁
 | some v =>
  refine wpAny_bind (wpAny_mono h₁ (fun _ s₀ h₀=>?_) fun _ _ h'=>h'.elim);refine wpAny_bind (wpAny_mono h₀ (fun _ s₂ h₂=>wpAny_bind (wpAny_mono h₂ (fun ok s₃ h₃=>?_) fun _ _ h'=>h'.elim)) fun _ _ h'=>h'.elim);cases ok with
  | false=>exact wpAny_pure ⟨rfl,h₃⟩
  | true =>
   exact wpAny_bind (wpAny_bind (wpAny_mono h₃ (fun x s₄ h₄=>wpAny_bind (wpAny_mono h₄ (fun _ s₅ h₅=>wpAny_pure (wpAny_pure ⟨rfl,h₅⟩)) fun _ _ h'=>h'.elim)) fun _ _ h'=>h'.elim))
end L2
namespace L2
open PySem PySem.Spec PyProof.Rows
def bR (X:Cx)(scope:Scope)(cl:List (Str×Addr))(M:List Str)(s:Shared)(H:Hp)(fp:List Addr):Cx where
 prog:=X.prog
 w:=X.w
 K:=X.K
 mg:=X.mg
 base:=X.base
 A:=X.A
 N:=M
 s₀:=s
 H₀:=H
 env:=compEnvC scope (cellsFrom (s.heap.objs.size+1) scope.names cl) s.heap.objs.size X.env
 outer:=X.stack
 stack:=X.stack
 ex:=fp
 fn:=fun y=>scope.names.lookup y == some .cell
 calm:=X.calm
 pn:=X.pn
 xe:=fun _ _=>False
theorem bx {env:Env}:∀{names:List (Str×NameKind)} {x:Str} {k:NameKind},(names.map fun(n,k)=>if (k == NameKind.free&&env.scope.kind == .function&&env.kindOf n == some .cell)then (n,NameKind.cell)else (n,k)).lookup x=some k →
 names.lookup x=some k∨(names.lookup x=some .free/\k = .cell)
 | [],_,_,h=>by simp at h
 | (n,j)::r,x,k,h=>by
  have ih:=@bx env r x k;rw[List.map_cons]at h;dsimp only at h;by_cases hc:(j == NameKind.free&&env.scope.kind == .function&&env.kindOf n == some .cell)=true
  . rw[if_pos hc,List.lookup_cons]at h;rw[List.lookup_cons];cases hx:x == n with
    | true =>
     rw[hx]at h;have hj:j = .free:=by
      simp only[Bool.and_eq_true]at hc;simpa using hc.1.1
     exact .inr ⟨by rw[hj],(Option.some.inj h).symm⟩
    | false=>rw[hx]at h;exact ih h
  . rw[if_neg hc,List.lookup_cons]at h;rw[List.lookup_cons];cases hx:x == n with
    | true=>rw[hx]at h;exact .inl h
    | false=>rw[hx]at h;exact ih h
theorem cY {env:Env}:∀{names:List (Str×NameKind)} {x:Str},names.lookup x=some .free →
 (names.map fun(n,k)=>if (k == NameKind.free&&env.scope.kind == .function&&env.kindOf n == some .cell)then (n,NameKind.cell)else (n,k)).lookup x=some .cell ∨
 (names.map fun(n,k)=>if (k == NameKind.free&&env.scope.kind == .function&&env.kindOf n == some .cell)then (n,NameKind.cell)else (n,k)).lookup x=some .free
 | [],_,h=>by simp at h
 | (n,j)::r,x,h=>by
  have ih:=@cY env r x;rw[List.map_cons];dsimp only;rw[List.lookup_cons]at h;by_cases hc:(j == NameKind.free&&env.scope.kind == .function&&env.kindOf n == some .cell)=true
  . rw[if_pos hc,List.lookup_cons];cases hx:x == n with
    | true=>exact .inl rfl
    | false=>rw[hx]at h;exact ih h
  . rw[if_neg hc,List.lookup_cons];cases hx:x == n with
    | true=>rw[hx]at h;exact .inr h
    | false=>rw[hx]at h;exact ih h
theorem cB {env:Env}:∀{names:List (Str×NameKind)} {x:Str},names.lookup x=some .cell →
 (names.map fun(n,k)=>if (k == NameKind.free&&env.scope.kind == .function&&env.kindOf n == some .cell)then (n,NameKind.cell)else (n,k)).lookup x=some .cell
 | [],_,h=>by simp at h
 | (n,j)::r,x,h=>by
  have ih:=@cB env r x;rw[List.map_cons];dsimp only;rw[List.lookup_cons]at h;by_cases hc:(j == NameKind.free&&env.scope.kind == .function&&env.kindOf n == some .cell)=true
  . rw[if_pos hc,List.lookup_cons];cases hx:x == n with
    | true=>rfl
    | false=>rw[hx]at h;exact ih h
  . rw[if_neg hc,List.lookup_cons];cases hx:x == n with
    | true=>rw[hx]at h;exact h
    | false=>rw[hx]at h;exact ih h
section
variable {X:Cx}{pins:List (Addr×Obj)}{σ:St}{H:Hp}{s:Shared}{scope:Scope}{cl:List (Str×Addr)}{M:List Str}{x:Str}{fp:List Addr}{scN:List (Str×NameKind)}
theorem comp_start {h4:Heap}(I:Inv X pins σ H s)(S:CompS scN X.N M x scope)(hsc:X.env.scope.names=scN)(hcl1:∀y c,(y,c)∈cl->X.env.cells.lookup y=some c/\(y,NameKind.free)∈scope.names)(hcl2:∀p∈scope.names,p.2 = .free->∃c,cl.lookup p.1=some c)(hfp:∀b∈fp,FpOk X pins H b)(hlt:∀b∈fp,b < s.heap.objs.size){m:Str->Option Value}(hns:h4.Ns s.heap.objs.size m)(hk:∀b o,s.heap.get? b=some o->h4.get? b=some o)(hcell:∀y c,(y,c)∈cellsFrom (s.heap.objs.size+1) scope.names cl->(y,c)∈cl∨(s.heap.objs.size+1≤c/\(y,NameKind.cell)∈scope.names/\h4.IsCell c none)):Inv (bR X scope cl M s H fp) pins (σ++[none]) H { s with heap:=h4 }:=by
 have clt:∀y c,(y,c)∈cl->c < s.heap.objs.size:=fun y c h=>let ⟨v,z⟩:=I.cell y c (hcl1 y c h).1;z.lt
 have kin:∀y:Str,(bR X scope cl M s H fp).env.kindOf y=(scope.names.map fun(n,k)=>if (k == NameKind.free&&X.env.scope.kind == .function&&X.env.kindOf n == some .cell)then (n,NameKind.cell)else (n,k)).lookup y:=fun y=>rfl
 have frcell:∀y,scope.names.lookup y=some .free->(∀p∈scope.names,p.2 = .cell->p.1≠y):=fun y hy p hp hc e=>by
  have q:=d8 S.keys hp;rw[e,hy,hc]at q;cases q
 refine⟨⟨I.ok.mod,S.kind,I.ok.glob,I.ok.blt,Nat.le_refl _,fun y z c h1 h2=>?_,fun y hy=>?_,fun y c h1 h2=>?_,I.ok.hd,I.ok.frames,.inl rfl,fun b hb=>⟨Nat.ne_of_lt (hlt b hb),fun y c hc e=>?_⟩,I.bs,Nat.le_trans I.ok.bsz I.sz,fun b o e hb=>?_,fun b hb hf=>?_,I.stack,I.stkFree⟩,
  rfl,I.bare,Un.kept hk,⟨m,hns,fun i y v h1 h2 h3=>?_⟩,fun y c h=>?_,I.hok.fresh (Nat.le_refl _),fun y c h=>?_,fun p hp=>?_,I.hok.kept hk,?_⟩
 . exact dc scope.names _ cl (fun y c h=>Nat.lt_succ_of_lt (clt y c h)) (fun y z c a b=>I.ok.inj y z c (hcl1 y c a).1 (hcl1 z c b).1) y z c (PySem.mem_of_lookup h1) (PySem.mem_of_lookup h2)
 . rw[kin y]at hy;have key:scope.names.lookup y=some .cell∨scope.names.lookup y=some .free:=by
    rcases hy with hy | hy
    . rcases bx hy with z | ⟨z,_⟩
      . exact .inl z
      . exact .inr z
    . rcases bx hy with z | ⟨z,_⟩
      . exact .inr z
      . exact .inr z
   rcases key with z | z
   . exact d9 scope.names _ cl (PySem.mem_of_lookup z)
   . obtain⟨c,hc⟩:=hcl2 (y,.free) (PySem.mem_of_lookup z) rfl;exact bt scope.names _ cl hc
 . have hy:scope.names.lookup y=some .cell:=by
    have:(scope.names.lookup y == some NameKind.cell)=true:=h1;simpa using this
   rcases hcell y c (PySem.mem_of_lookup h2)with z | ⟨z,_⟩
   . have q:=d8 S.keys (hcl1 y c z).2;rw[hy]at q;cases q
   . exact Nat.le_of_succ_le z
 . subst e;rcases hcell y c (PySem.mem_of_lookup hc)with z | ⟨z,_⟩
   . exact(hfp c hb).2.2.2.2.1 y c (hcl1 y c z).1 rfl
   . exact absurd (Nat.lt_of_lt_of_le (hlt c hb) (Nat.le_of_succ_le z)) (Nat.lt_irrefl _)
 . rcases(hfp b hb).2.2.2.1 with z | z
   . exact I.ok.noex b o e z
   . exact absurd (Nat.lt_of_lt_of_le (Heap.lt_size e) (Nat.le_trans I.ok.bsz z)) (Nat.lt_irrefl _)
 . obtain⟨_,f1,f2,_⟩:=hfp b hb;rcases List.mem_cons.mp (I.stkSub b hf)with z | z
   . exact f1 z
   . exact f2 z
 . have hMi:i < M.length:=(List.getElem?_eq_some_iff.mp h1).1;by_cases hi:i < X.N.length
   . obtain⟨o1,o2,o3⟩:=oldB_at S.old hi h1;have hσ:σ[i]? = some (some v):=by
      rw[List.getElem?_append_left (by rw[I.len];exact hi)]at h2;exact h2
     have hfr:scope.names.lookup y=some .free:=by
      have h3':(bR X scope cl M s H fp).env.kindOf y=some .local∨(bR X scope cl M s H fp).env.kindOf y=some .cell∨(bR X scope cl M s H fp).env.kindOf y=some .free:=h3;rw[kin y]at h3';rcases h3' with z | z | z
      . rcases bx z with q | ⟨q,_⟩
        . exact absurd q o1
        . exact q
      . rcases bx z with q | ⟨q,_⟩
        . exact absurd q o2
        . exact q
      . rcases bx z with q | ⟨q,_⟩
        . exact q
        . exact q
     have hNi:=o3 hfr;have hout:=S.fr (y,.free) (PySem.mem_of_lookup hfr) rfl;rw[←hsc]at hout;obtain⟨m0,_,hl⟩:=I.loc;obtain⟨u,r,l⟩:=hl i y v hNi hσ (.inr hout);refine⟨u,r,.inr ⟨?_,?_⟩⟩
     . rw[kin y];exact cY hfr
     . obtain⟨c,hc⟩:=hcl2 (y,.free) (PySem.mem_of_lookup hfr) rfl;have hXc:=(hcl1 y c (PySem.mem_of_lookup hc)).1;refine⟨c,(de scope.names _ cl (frcell y hfr)).trans hc,?_⟩;rcases l with⟨kl,_⟩ | ⟨_,c',hc',z⟩
       . have kl':X.env.scope.names.lookup y=some .local:=kl;rw[kl']at hout;rcases hout with q | q<;>cases q
       . rw[hXc]at hc';cases hc';exact z.keeps hk
   . have e:i=X.N.length:=by have:=S.len;omega
     subst e;rw[List.getElem?_append_right (by rw[I.len];exact Nat.le_refl _),I.len,Nat.sub_self]at h2
     cases h2
 . rcases hcell y c (PySem.mem_of_lookup h)with z | ⟨_,_,z⟩
   . obtain⟨v,q⟩:=I.cell y c (hcl1 y c z).1;exact⟨v,q.keeps hk⟩
   . exact⟨_,z⟩
 . rcases hcell y c (PySem.mem_of_lookup h)with z | ⟨z,_,_⟩
   . exact I.freeC y c (hcl1 y c z).1
   . exact I.hok.fresh (Nat.le_of_succ_le z)
 . obtain⟨e,n,ne,nf,d⟩:=I.pin p hp;refine⟨hk _ _ e,n,Nat.ne_of_lt (Heap.lt_size e),fun hf=>?_,d⟩;rcases List.mem_cons.mp (I.stkSub p.1 hf)with z | z
   . exact ne z
   . exact nf z
 . rw[List.length_append,I.len];exact S.len.symm
theorem gC {H':Hp}{s':Shared}{pl:List (Addr×Obj)}{τ:St}(I:Inv X pins σ H s)(hfp:∀b∈fp,FpOk X pins H b)(J:Inv (bR X scope cl M s H fp) pl τ H' s'):Inv X pins σ H' s':=
 I.call' (ch:=fp) J.os J.base J.hok J.bare fun b hb=>let ⟨_,f1,_,f3,f4,f5⟩:=hfp b hb;⟨f3,f1,f4,f5⟩
theorem gA {H':Hp}{s':Shared}{h':Heap}{τ:St}(I:Inv X pins σ H s)(J:Inv X pins τ H' s')(hC:H' s.heap.objs.size=none)(hs:Heap.SameBut s.heap.objs.size s'.heap h'):Inv X pins τ H' { s' with heap:=h' }:=by
 refine J.turned (it:=s.heap.objs.size) (t':=s'.toks) (fun b o hb e=>(hs.2 b hb).trans e) hC (Nat.ne_of_gt I.lt) (.inr I.sz) (fun y c e z=>?_) (fun p hp z=>?_)
 . obtain⟨v,q⟩:=I.cell y c e;exact absurd q.lt (by rw[z];exact Nat.lt_irrefl _)
 . exact absurd (Heap.lt_size (I.pin p hp).1) (by rw[z];exact Nat.lt_irrefl _)
end
def PF (X:Cx)(ifs:List Expr)(t:TT):Prop:=
 ∀(pins:List (Addr×Obj)) (s:Shared) (σ:St) (H:Hp) (Q:Bool->Hp->Prop),Inv X pins σ H s->t σ H Q →
  wpAny (model X.prog X.w) X.A (forIn ifs true fun c r=>if r=true then do let ok ←isTrue c X.env (eval c X.env);pure (ForInStep.yield ok)else pure (ForInStep.yield r)) (TP X pins σ Q) X.xe s
def tYes:TT:=fun _ H Q=>Q true H
theorem bF {X:Cx}:PF X [] tYes:=fun pins s σ H Q I h=>wpAny_tests_nil ⟨H,I,h⟩
theorem gP {X:Cx}{c:Expr}{t:TT}(hc:PT X c t):PF X [c] t:=fun pins s σ H Q I h=>wpAny_tests_one (hc pins s σ H Q I h)
def j6 (wi:TI)(tf:TT)(te:TE):TE:=fun σ H Q=>wi σ H fun J H1=>∀D,H1 D=none->∃W:Nat->Nat->List V->Hp->Prop,(∃m,W 0 m [] (upd H1 D (.lst [])))/\∀i m ys H2,W i m ys H2 →
 H2 D=some (.lst ys)/\((J.stop i H2/\Q (.ref D) H2)∨(J.go i H2/\∃N:List V->Hp->Prop,(∀ys' H',N ys' H'->∃m',m' < m/\W (i+1) m' ys' H')/\∀y H3,J.yld i H2 y H3 →
  tf (σ++[some y]) H3 fun c H4=>if c=true then te (σ++[some y]) H4 fun z H5=>H5 D=some (.lst ys)/\ys.length < sizeLine/\N (ys++[z]) (upd H5 D (.lst (ys++[z])))else N ys H4))
section
variable {X:Cx}{elt iter:Expr}{ifs:List Expr}{scope:Scope}{pos px:Pos}{x:Str}{wi:TI}{tf:TT}{te:TE}
theorem comp_turns {Y:Cx}{pins:List (Addr×Obj)}{σ:St}{H2:Hp}{s:Shared}{it D:Addr}{fp:List Addr}{tn:Nat->Heap->Prop}{J:It}{R:Result->Shared->Prop}{Q:Hp->Prop}{n:Nat}(hc:Y.calm=true)(hxe:Y.xe=fun _ _=>False)(hN:Y.N.Nodup)(hσ:σ.length=n)(hx:Y.N[n]? = some x)(hl:Loc Y.env.scope x)(hf:Y.fn x=true∨Y.env.scope.names.lookup x=some .local)(T:Turn Y.prog Y.w Y.K (.Name x px) J fp it tn)(f2:∀b∈fp,FpOk Y pins H2 b)(st2:tn 0 s.heap)(I2:Inv Y pins (σ++[none]) H2 s)(hif:PF Y ifs tf)(hel:PE Y elt te)(W:Nat->Nat->List V->Hp->Prop)(w0:∃m,W 0 m [] H2)(turn:∀i m ys H2,W i m ys H2->H2 D=some (.lst ys)/\((J.stop i H2/\Q H2)∨(J.go i H2/\∃N:List V->Hp->Prop,(∀ys' H',N ys' H'->∃m',m' < m/\W (i+1) m' ys' H')/\∀y H3,J.yld i H2 y H3->tf (σ++[some y]) H3 fun c H4=>if c=true then te (σ++[some y]) H4 fun z H5=>H5 D=some (.lst ys)/\ys.length < sizeLine/\N (ys++[z]) (upd H5 D (.lst (ys++[z])))else N ys H4)))(hR:∀H' s',Inv Y pins (σ++[none]) H' s'->Q H'->R (.ok .next) s'):codeAny (model Y.prog Y.w) Y.A (.compLoop (.ListComp elt [⟨.Name x px,iter,ifs,0⟩] scope pos) 0 (.ref it) (.ref D) Y.env) R s:=by
 have stat:∀{H':Hp},(∀b∈fp,H' b=none)->∀b∈fp,FpOk Y pins H' b:=fun hn b hb=>⟨hn b hb,(f2 b hb).2⟩;obtain⟨m0,w0⟩:=w0;refine compLoop_any (fun k s'=>∃i ys H',Inv Y pins (σ++[none]) H' s'/\tn i s'.heap/\(∀b∈fp,H' b=none)/\W i k ys H') ?_ m0 ⟨0,[],H2,I2,st2,fun b hb=>(f2 b hb).1,w0⟩;rintro k s3 ⟨i,ys,H3,I3,st3,fr3,w3⟩;obtain⟨hD,hcase⟩:=turn i k ys H3 w3;rcases hcase with⟨stop,q⟩ | ⟨go,N,hN',step⟩
 . refine thn (T.done Y rfl rfl rfl hc i pins s3 _ H3 _ I3 (stat fr3) st3 stop) fun r s4 ⟨hr,I4⟩=>?_;subst hr;exact hR H3 s4 I4 q
 . refine thn (T.item Y rfl rfl rfl hc i pins s3 _ H3 _ I3 (stat fr3) st3 go) fun r s4 ⟨u,hr,h4⟩=>?_;subst hr;refine thn h4 fun _ s5 ⟨y,H5,I5,r5,y5,st5,fr5⟩=>?_;have I5':=I5.pinned (stat fr5) (T.obj _ _ st5);have hset:(σ++[none]).set n (some y)=σ++[some y]:=by
    rw[List.set_append_right _ _ (by omega)]
    rw[hσ,Nat.sub_self];rfl
   refine wpAny_assign_Name (en I5' hN hx hl r5 (fun s6 I6=>?_) hf);rw[hset]at I6;have noX:∀(e:Value) (s:Shared),Y.xe e s->False:=fun e s h=>by rw[hxe]at h;exact h
   refine wpAny_mono (hif _ s6 _ H5 _ I6 (step y H5 y5)) (fun c s7 ⟨H7,I7,q7⟩=>?_) fun e s h=>noX e s h;have back:∀{s':Shared} {ys':List V} {H':Hp},Inv Y (pins++fV fp s5.heap) (σ++[some y]) H' s'->N ys' H'->∃m,m < k/\∃i ys H',Inv Y pins (σ++[none]) H' s'/\tn i s'.heap/\(∀b∈fp,H' b=none)/\W i m ys H':=fun{s' ys' H'} I' n'=>by
    obtain⟨m',hm,w'⟩:=hN' ys' H' n';refine⟨m',hm,i+1,ys',H',I'.unpinned.weak (by simp) (fun j v e=>?_),T.keep _ _ _ st5 fun b hb o e=>(I'.pin (b,o) (List.mem_append_right _ (List.mem_append_right _ (dq hb e)))).1,fun b hb=>?_,w'⟩
    . by_cases hj:j < σ.length
      . rw[List.getElem?_append_left hj]at e⊢;exact e
      . rw[List.getElem?_append_right (by omega)]at e
        cases hjj:j - σ.length with
        | zero=>rw[hjj]at e;cases e
        | succ t=>rw[hjj]at e;simp at e
    . obtain⟨o,e,d⟩:=T.obj _ _ st5 b hb;exact(I'.pin (b,o) (List.mem_append_right _ (List.mem_append_right _ (dq hb e)))).2.1
   cases c with
   | false =>
    rw[if_neg Bool.false_ne_true]at q7⊢;exact back I7 q7
   | true =>
    rw[if_pos rfl]at q7⊢;refine wpAny_mono (hel _ s7 _ H7 _ I7 q7) (fun v s8 ⟨z,H8,I8,r8,hD8,hl8,n8⟩=>?_) fun e s h=>noX e s h;have mt:MtM Y "list.append" iM:=dg;refine wpAny_mono (mt _ s8 _ H8 (.ref D) [z] (.ref D) [v] (fun _ H'=>N (ys++[z]) H') I8 rfl (.cons r8 .nil) ⟨D,ys,z,rfl,rfl,hD8,hl8,n8⟩) (fun _ s9 ⟨_,H9,I9,_,n9⟩=>back I9 n9) fun e s h=>noX e s h
theorem gB {M:List Str}{scN:List (Str×NameKind)}{pins:List (Addr×Obj)}{s:Shared}{σ:St}{H:Hp}{use:Option (Value->Sem Unit)}{Z:Value->Shared->Prop}{G:VK}{pos2:Pos}(S:CompS scN X.N M x scope)(hsc:X.env.scope.names=scN)(hc:X.calm=true)(hi:PI X (.Name x px) iter wi)(hif:∀cl s H fp,PF (bR X scope cl M s H fp) ifs tf)(hel:∀cl s H fp,PE (bR X scope cl M s H fp) elt te)(hs:∀v,foldedSetIterable iter X.env v=pure v)(I:Inv X pins σ H s)(h:j6 wi tf te σ H G)(fin:∀(s3:Shared) (H3:Hp) (fp:List Addr) (cl:List (Str×Addr)) (D:Addr) (H':Hp) (s':Shared),Inv X pins σ H3 s3->(∀b∈fp,FpOk X pins H3 b)->Inv (bR X scope cl M s3 H3 fp) pins (σ++[none]) H' s'->G (.ref D) H'->compPost (model X.prog X.w) X.A X.xe use Z (.ref D) s3.heap.objs.size (.ok .next) s'):wpAny (model X.prog X.w) X.A (comprehension (.ListComp elt [⟨.Name x px,iter,ifs,0⟩] scope pos) scope X.env pos2 (newList []) false (eval iter X.env) use) Z X.xe s:=by
 obtain⟨cl,hclo,hcl1,hcl2⟩:=closure_ok (scope:=scope) (env:=X.env) fun p hp hf=>I.ok.has p.1 (by have q:=S.fr p hp hf;rw[←hsc]at q;exact q)
 refine wpAny_comprehension_free rfl hs hclo S.kind (fun y hy hl=>by rw[d8 S.keys hy,hl]) (thn (hi pins s σ H _ I h) fun v s1 h1=>thn h1 fun itv s2 h2=>?_)
 obtain⟨it,fp,tn,J,H2,e,I2,T,st2,f2,q⟩:=h2;subst e;refine wpAny_newObj_type ?_;have fr:H2 s2.heap.objs.size=none:=I2.hok.fresh (Nat.le_refl _);have I3:Inv X pins σ (upd H2 s2.heap.objs.size (.lst [])) { s2 with heap:=s2.heap.push { cls:=.type "list",dict:=none,data:=.seq ([]:List Value).toArray } }:=
  I2.laid (t':=s2.toks) (fun b u e=>Heap.get?_push_of_some _ e) (Nat.le_refl _) ⟨Nat.zero_le _,[],0,.nil,Heap.get?_push_size _ rfl⟩
 obtain⟨W,w0,turn⟩:=q s2.heap.objs.size fr;have hlt2:∀b∈fp,b < s2.heap.objs.size:=fun b hb=>let ⟨o,e,_⟩:=T.obj 0 _ st2 b hb;Heap.lt_size e
 have f3:∀b∈fp,FpOk X pins (upd H2 s2.heap.objs.size (.lst [])) b:=fun b hb=>⟨by rw[ae (Nat.ne_of_lt (hlt2 b hb))];exact(f2 b hb).1,(f2 b hb).2⟩
 refine newEnv_comp fun h4 hns hk hcell cenv hcenv hloc=>?_;rw[hcenv,hloc];have hlt3:∀b∈fp,b < ({ s2 with heap:=s2.heap.push { cls:=.type "list",dict:=none,data:=.seq ([]:List Value).toArray } }:Shared).heap.objs.size:=fun b hb=>by
  show b < (s2.heap.push _).objs.size;rw[Heap.size_push];exact Nat.lt_succ_of_lt (hlt2 b hb)
 have J4:=comp_start I3 S hsc hcl1 hcl2 f3 hlt3 hns hk hcell;have st4:tn 0 h4:=T.keep 0 _ _ st2 fun b hb o e=>hk b o (Heap.get?_push_of_some _ e);have f4:∀b∈fp,FpOk (bR X scope cl M { s2 with heap:=s2.heap.push { cls:=.type "list",dict:=none,data:=.seq ([]:List Value).toArray } } (upd H2 s2.heap.objs.size (.lst [])) fp) pins (upd H2 s2.heap.objs.size (.lst [])) b:=fun b hb =>
  ⟨(f3 b hb).1,(J4.ok.exf b hb).1,J4.ok.exfs b hb,.inl hb,(J4.ok.exf b hb).2,(f3 b hb).2.2.2.2.2⟩
 have loc:Loc (relabel scope X.env) x/\((bR X scope cl M { s2 with heap:=s2.heap.push { cls:=.type "list",dict:=none,data:=.seq ([]:List Value).toArray } } (upd H2 s2.heap.objs.size (.lst [])) fp).fn x=true∨(relabel scope X.env).names.lookup x=some .local):=by
  rcases S.own with z | z
  . have q:=lookup_relabel_local (env:=X.env) z;exact⟨.inl q,.inr q⟩
  . refine⟨.inr ?_,.inl ?_⟩
    . exact cB z
    . show(scope.names.lookup x == some NameKind.cell)=true;rw[z];rfl
 have loop:∀s5:Shared,s5={ ({ s2 with heap:=s2.heap.push { cls:=.type "list",dict:=none,data:=.seq ([]:List Value).toArray } }:Shared)with heap:=h4 } →
  codeAny (model X.prog X.w) X.A (.compLoop (.ListComp elt [⟨.Name x px,iter,ifs,0⟩] scope pos) 0 (.ref it) (.ref s2.heap.objs.size) (compEnvC scope (cellsFrom (({ s2 with heap:=s2.heap.push { cls:=.type "list",dict:=none,data:=.seq ([]:List Value).toArray } }:Shared).heap.objs.size+1) scope.names cl) ({ s2 with heap:=s2.heap.push { cls:=.type "list",dict:=none,data:=.seq ([]:List Value).toArray } }:Shared).heap.objs.size X.env))
   (compPost (model X.prog X.w) X.A X.xe use Z (.ref s2.heap.objs.size) ({ s2 with heap:=s2.heap.push { cls:=.type "list",dict:=none,data:=.seq ([]:List Value).toArray } }:Shared).heap.objs.size) s5:=by
  rintro s5 rfl;exact comp_turns (Y:=bR X scope cl M { s2 with heap:=s2.heap.push { cls:=.type "list",dict:=none,data:=.seq ([]:List Value).toArray } } (upd H2 s2.heap.objs.size (.lst [])) fp)
   (Q:=fun H'=>G (.ref s2.heap.objs.size) H') hc rfl S.nd I.len S.last loc.1 loc.2 T f4 st4 J4 (hif _ _ _ _) (hel _ _ _ _) W w0 turn fun H' s' J' g=>fin _ _ fp cl _ H' s' I3 f3 J' g
 exact codeAny_compStart_list (loop _ rfl) (T.self _ 0 _ _ _ st4 (loop _ rfl))
theorem bL (scN:List (Str×NameKind))(N M:List Str)(hi:PI X (.Name x px) iter wi)(hif:∀cl s H fp,PF (bR X scope cl M s H fp) ifs tf)(hel:∀cl s H fp,PE (bR X scope cl M s H fp) elt te)(S:CompS scN N M x scope:=by first | exact⟨rfl,by decide +kernel,by decide +kernel,by decide +kernel,rfl,rfl,.inl rfl,by decide +kernel⟩ | exact⟨rfl,by decide +kernel,by decide +kernel,by decide +kernel,rfl,rfl,.inr rfl,by decide +kernel⟩)
 (hN:X.N=N:=by rfl) (hsc:X.env.scope.names=scN:=by rfl) (hc:X.calm=true:=by rfl) (hs:∀v,foldedSetIterable iter X.env v=pure v:=by intro _;rfl):PE X (.ListComp elt [⟨.Name x px,iter,ifs,0⟩] scope pos) (j6 wi tf te):=by
 intro pins s σ H Q I h;subst hN;rw[eval_ListComp];refine gB (use:=none) S hsc hc hi hif hel hs I h fun s3 H3 fp cl D H' s' I3 f3 J' g=>?_;obtain⟨m,hn,_⟩:=J'.loc;exact⟨m,hn,fun h' hs'=>⟨.ref D,H',gA I3 (gC I3 f3 J') J'.free hs',rfl,g⟩⟩
def tSetC (j:Nat)(te:TE):TS:=fun D σ H=>te σ H fun v H'=>D.nx (σ.set j (some v)) H'
theorem cU (scN:List (Str×NameKind))(N M:List Str)(j:Nat){y:Str}{py spos:Pos}(hn:X.N.Nodup)(hj:X.N[j]? = some y)(hy:Loc X.env.scope y)(hi:PI X (.Name x px) iter wi)(hif:∀cl s H fp,PF (bR X scope cl M s H fp) ifs tf)(hel:∀cl s H fp,PE (bR X scope cl M s H fp) elt te)(S:CompS scN N M x scope:=by first | exact⟨rfl,by decide +kernel,by decide +kernel,by decide +kernel,rfl,rfl,.inl rfl,by decide +kernel⟩ | exact⟨rfl,by decide +kernel,by decide +kernel,by decide +kernel,rfl,rfl,.inr rfl,by decide +kernel⟩)
 (hN:X.N=N:=by rfl) (hsc:X.env.scope.names=scN:=by rfl) (hc:X.calm=true:=by rfl)
 (hsw:swapsWith (.ListComp elt [⟨.Name x px,iter,ifs,0⟩] scope pos) (some (.Name y py)) spos.line X.env=pure true:=by rfl) (hs:∀v,foldedSetIterable iter X.env v=pure v:=by intro _;rfl)
 (hf:X.fn y=true∨X.env.scope.names.lookup y=some .local:=by first | exact .inl rfl | exact .inr rfl | assumption) :
 PS X (.Assign [.Name y py] (.ListComp elt [⟨.Name x px,iter,ifs,0⟩] scope pos) spos) (tSetC j (j6 wi tf te)):=by
 intro pins s σ H D I h;subst hN;rw[exec_Assign_Name_used _ _ _ _ hsw];refine wpAny_bind (wpAny_standAt (wpAny_bind ?_));show wpAny _ _ (do let _ ←comprehension (.ListComp elt [⟨.Name x px,iter,ifs,0⟩] scope pos) scope X.env _ (newList []) false (eval iter X.env) (some (assign (.Name y py) X.env))) _ _ s
 refine wpAny_bind (wpAny_mono (gB (use:=some (assign (.Name y py) X.env)) (Z:=fun _ s'=>SP X pins D .next s') S hsc hc hi hif hel hs I h fun s3 H3 fp cl A H' s' I3 f3 J' g=>?_) (fun _ s' hq=>wpAny_pure (wpAny_pure hq)) fun _ _ e=>e);obtain⟨m,hns,_⟩:=J'.loc;show wpAny _ _ (assign (.Name y py) X.env (.ref A)) _ _ _;refine wpAny_assign_Name (gj (gC I3 f3 J') hn hj hy (v:=.ref A) rfl (fun s'' J'' hch=>?_) hf);obtain⟨a,sb,ha⟩:=hch;have hne:s3.heap.objs.size≠a:=by
  rcases ha with z | z
  . rw[z];exact Nat.ne_of_gt I3.lt
  . obtain⟨v,q⟩:=I3.cell y a z;exact Nat.ne_of_gt q.lt
 exact⟨m,hns.sameBut sb hne,fun h' hs'=>⟨_,H',gA I3 J'' J'.free hs',g⟩⟩
end
end L2
namespace L2
open PySem PySem.Spec PyProof.Rows
section
variable {X:Cx}{pins:List (Addr×Obj)}{σ:St}{H:Hp}{s:Shared}{scope:Scope}{cl:List (Str×Addr)}{M:List Str}{kn:Nat}{fp:List Addr}{scN:List (Str×NameKind)}
end
section
variable {X:Cx}{elt iter:Expr}{ifs:List Expr}{scope:Scope}{pos:Pos}{tg:Expr}{kn:Nat}{g:TG}{wi:TI}{tf:TT}{te:TE}
end
end L2
namespace L2
open PySem PySem.Spec PyProof.Rows
section
variable {X:Cx}{pins:List (Addr×Obj)}{σ:St}{H:Hp}{s:Shared}{a:Addr}{kvs:List (Key×V)}{o:Obj}
theorem Inv.freeze (I:Inv X pins σ H s)(e:H a=some (.dK kvs))(ho:s.heap.get? a=some o):Inv X pins σ (upd H a (.frz o (.dK kvs))) s:=by
 have nn:∀b,H b=none->b≠a:=fun b n z=>by rw[z,e]at n;cases n
 have nk:∀b u,H b=some u->u≠.dK kvs->b≠a:=fun b u q d z=>by rw[z,e]at q;exact d (Option.some.inj q).symm
 have un:Un X.fs [] H (upd H a (.frz o (.dK kvs))) s.heap s.heap:=
  ⟨fun b ob q _ _ _=>q,fun b ob q _ _ _=>⟨ob.slots,q⟩,fun b ob _ n _=>by rw[ae (nn b n)];exact n,fun b ob q _=>⟨ob,q⟩,
   fun b xs q=>by rw[ae (nk b _ q (fun z=>nomatch z))];exact q,fun b ob u q=>by rw[ae (nk b _ q (fun z=>nomatch z))];exact q,fun b ps q=>⟨#[],by rw[ae (nk b _ q (fun z=>nomatch z)),q];simp⟩⟩
 have ok:HOk X.prog X.w (upd H a (.frz o (.dK kvs))) s.heap:=fun b u q=>by
  have stay:∀{v:HO},ObjOk X.prog X.w H s.heap b v->ObjOk X.prog X.w (upd H a (.frz o (.dK kvs))) s.heap b v:=fun{v} x =>
   x.stay (fun _ _ _ z=>z) (fun c z=>by rw[ae (nk c _ z (fun z=>nomatch z))];exact z) fun c u pu z=>by rw[ae (nk c _ z (fun e=>by rw[e]at pu;exact pu))];exact z
  by_cases hb:b=a
  . subst hb;rw[a9]at q;cases q;exact⟨ho,stay (I.hok b _ e)⟩
  . rw[ae hb]at q;exact stay (I.hok b u q)
 exact I.un (h':=s.heap) (t':=s.toks) un ok
theorem Inv.thaw {u:HO}(I:Inv X pins σ H s)(e:H a=some (.frz o u))(hu:(∀xs,u≠.tup xs)/\(∀ps,u≠.tbl ps))(h0:∀o' u',X.H₀ a≠some (.frz o' u')):Inv X pins σ (upd H a u) s:=by
 have nn:∀b,H b=none->b≠a:=fun b n z=>by rw[z,e]at n;cases n
 have nk:∀b v,H b=some v->v≠.frz o u->b≠a:=fun b v q d z=>by rw[z,e]at q;exact d (Option.some.inj q).symm
 have ok:HOk X.prog X.w (upd H a u) s.heap:=fun b v q=>by
  have stay:∀{v:HO},ObjOk X.prog X.w H s.heap b v->ObjOk X.prog X.w (upd H a u) s.heap b v:=fun{v} x =>
   x.stay (fun _ _ _ z=>z) (fun c z=>by rw[ae (nk c _ z (fun z=>nomatch z))];exact z) fun c u pu z=>by rw[ae (nk c _ z (fun e=>by rw[e]at pu;exact pu))];exact z
  by_cases hb:b=a
  . subst hb;rw[a9]at q;cases q;exact stay (show ObjOk X.prog X.w H s.heap b (.frz o u)from I.hok b _ e).2
  . rw[ae hb]at q;exact stay (I.hok b v q)
 refine⟨I.ok,I.os,I.bare,⟨I.base.keep,I.base.slot,fun b ob q n hx=>?_,I.base.there,fun b xs q=>?_,fun b ob v q=>?_,fun b ps q=>?_⟩,I.loc,I.cell,?_,fun y c h=>?_,fun p hp=>?_,ok,I.len⟩
 . have z:=I.base.free b ob q n hx;rw[ae (nn b z)];exact z
 . have z:=I.base.tups b xs q;rw[ae (nk b _ z (fun z=>nomatch z))];exact z
 . have z:=I.base.frzs b ob v q;have hb:b≠a:=fun hb=>h0 ob v (hb▸q);rw[ae hb];exact z
 . obtain⟨more,z⟩:=I.base.tbls b ps q;exact⟨more,by rw[ae (nk b _ z (fun z=>nomatch z))];exact z⟩
 . rw[ae (nn _ I.free)];exact I.free
 . rw[ae (nn _ (I.freeC y c h))];exact I.freeC y c h
 . obtain⟨h1,h2,h3⟩:=I.pin p hp;exact⟨h1,by rw[ae (nn _ h2)];exact h2,h3⟩
end
def Itd (a:Addr)(o:Obj)(kvs:List (Key×V)):It:=
 ⟨fun i H=>H a=some (.frz o (.dK kvs))/\i < kvs.length,fun i H x H'=>H'=H/\∃kv,kvs[i]? = some kv/\x=kV kv.1,fun i H=>H a=some (.frz o (.dK kvs))/\kvs.length≤i⟩
theorem relV_key {P:Program}{w:World}{k:Key}{u:Value}(h:(bp P w).is k u=true):RelV (kV k) u:=by
 rcases bq (show g6 k u=true from h)with⟨i,t,rfl,rfl⟩ | ⟨x,t,rfl,rfl⟩
 . exact⟨t,rfl⟩
 . exact⟨t,rfl⟩
theorem KV.len {kvs:List (Key×V)}{vs:List (Key×Value)}(r:KV kvs vs):kvs.length=vs.length:=Paired.length r
theorem KV.at {kvs:List (Key×V)}{vs:List (Key×Value)}(r:KV kvs vs):∀{i:Nat} {p:Key×V},kvs[i]? = some p->∃q,vs[i]? = some q/\p.1=q.1:=by
 induction r with
 | nil=>intro i p e;simp at e
 | cons h t ih =>
  intro i p e;cases i with
  | zero=>simp at e;subst e;exact⟨_,rfl,h.1⟩
  | succ i=>exact ih (by simpa using e)
theorem turn_dict {P:Program}{w:World}{K:PySem.W.Frag}{tg:Expr}(a it:Addr)(o:Obj)(kvs:List (Key×V))(ep:Nat)(es:Array DictEntry)(hd:o.data = .dict es ep) :
 Turn P w K tg (Itd a o kvs) [it] it (fun i h=>h.IsKeyIter it a i kvs.length ep) where
 mem:=by simp
 obj:=fun i h st b hb=>by
  have e:b=it:=by simpa using hb
  subst e;obtain⟨o,e,c,d⟩:=st;exact⟨o,e,fun v z=>by rw[d]at z;cases z⟩
 keep:=fun i h h' st k=>st.at fun o e=>k it (by simp) o e
 item:=by
  intro X hP hw hK hc i pins s σ H E I hf st hg;subst hP hw hK;obtain⟨ha,hi⟩:=hg;obtain⟨ho,hz,_,vs,rel,o',es',ep',h1,h2,h3,h4⟩:=(show ObjOk X.prog X.w H s.heap a (.frz o (.dK kvs))from I.hok a _ ha)
  rw[ho]at h1;cases h1;rw[hd]at h3;cases h3;have da:s.heap.DictAt (bp X.prog X.w) a vs ep:=⟨o,es,ho,h2,hd,h4⟩;obtain⟨f0,f1,f2,f3,f4,f5⟩:=hf it (by simp)
  obtain⟨kv,hkv⟩:∃kv,kvs[i]? = some kv:=⟨kvs[i],by simp[hi]⟩
  obtain⟨q,hq,ek⟩:=rel.at hkv;obtain⟨qk,qv⟩:=q;rw[rel.len]at st;refine wpAny_pyNext_dict_item st da hq fun key h' hkey st' sb=>?_;have I1:Inv X pins σ H { s with heap:=h' }:=I.turned (t':=s.toks) (fun b o hb e=>(sb.2 b hb).trans e) f0 f1 f3 f4 f5
  obtain⟨oi,e,c,d⟩:=id st';refine⟨key,rfl,jj (s:={ s with heap:=h' }) e c d (by decide) ⟨kV kv.1,H,I1,relV_key (P:=X.prog) (w:=X.w) (by rw[ek];exact hkey),⟨rfl,kv,hkv,rfl⟩,by rw[rel.len];exact st',fun b hb=>(hf b hb).1⟩⟩
 done:=by
  intro X hP hw hK hc i pins s σ H E I hf st hg;subst hP hw hK;obtain⟨ha,hi⟩:=hg;obtain⟨ho,hz,_,vs,rel,o',es',ep',h1,h2,h3,h4⟩:=(show ObjOk X.prog X.w H s.heap a (.frz o (.dK kvs))from I.hok a _ ha)
  rw[ho]at h1;cases h1;rw[hd]at h3;cases h3;have da:s.heap.DictAt (bp X.prog X.w) a vs ep:=⟨o,es,ho,h2,hd,h4⟩;obtain⟨f0,f1,f2,f3,f4,f5⟩:=hf it (by simp)
  have hl:=rel.len;rw[rel.len]at st;exact wpAny_pyNext_dict_end (I.ok.hd hc) st da (by simp;omega) fun h' eb=>⟨rfl,I.turned (t':=s.toks) (fun b o hb e=>eb b o hb e) f0 f1 f3 f4 f5⟩
 self:=fun _ _ _ _ _ st h=>wpAny_pyIter_keyiter st h
section
variable {X:Cx}{tg:Expr}
def iDict (td:TE):TI:=fun σ H R=>td σ H fun x H1=>∃a kvs,x = .ref a/\H1 a=some (.dK kvs)/\∀o,R (Itd a o kvs) (upd H1 a (.frz o (.dK kvs)))
theorem pi_dict {l:Expr}{td:TE}(hl:PE X l td):PI X tg l (iDict td):=by
 intro pins s σ H R I h;refine thn (hl pins s σ H _ I h) fun v s1 ⟨x,H1,I1,r1,q1⟩=>?_;obtain⟨a,kvs,e,ha,q⟩:=q1;subst e;cases r1;obtain⟨hz,hm,vs,rel,o,es,ep,h1,h2,h3,h4⟩:=(show ObjOk X.prog X.w H1 s1.heap a (.dK kvs)from I1.hok a _ ha)
 refine wpAny_pyIter_dict (knd:=bp X.prog X.w) hm ⟨o,es,h1,h2,h3,h4⟩ ?_;have I2:=I1.freeze ha h1;refine⟨s1.heap.objs.size,[s1.heap.objs.size],_,_,_,rfl,I2.kept (t':=s1.toks) fun b o e=>Heap.get?_push_of_some _ e,turn_dict a _ o kvs ep es h3,⟨_,Heap.get?_push_size _ rfl,rfl,by rw[rel.len];rfl⟩,fun b hb=>?_,q o⟩
 have e:b=s1.heap.objs.size:=by simpa using hb
 subst e;exact I2.fpOk (Nat.le_refl _) (I2.hok.fresh (Nat.le_refl _))
end
def tThaw (t:TS):TS:=fun D σ H=>t { nx:=fun σ' H'=>∃a o kvs,H' a=some (.frz o (.dK kvs))/\(∀o' u',H a≠some (.frz o' u'))/\D.nx σ' (upd H' a (.dK kvs)),rt:=fun _ _=>False } σ H
theorem ps_thaw {X:Cx}{st:Stmt}{t:TS}(h:PS X st t):PS X st (tThaw t):=by
 intro pins s σ H D I q;refine thn (h pins s σ H _ I q) fun f s' z=>?_;cases f with
 | next =>
  obtain⟨σ',H',I',a,o,kvs,ha,hn,n⟩:=z;exact⟨σ',_,I'.thaw ha ⟨(fun _ z=>nomatch z),(fun _ z=>nomatch z)⟩ (fun o' u' e=>hn o' u' (I.base.frzs a o' u' e)),n⟩
 | brk=>obtain⟨_,_,_,z⟩:=z;exact z.elim
 | cont=>obtain⟨_,_,_,z⟩:=z;exact z.elim
 | ret v=>obtain⟨_,_,_,_,_,z⟩:=z;exact z.elim
theorem for_dict {a:Addr}{o:Obj}{kvs:List (Key×V)}{g:TG}{tb:TS}{D:Ends}{σ:St}{H:Hp}(Pv:Nat->St->Hp->Prop)(h0:Pv 0 σ H)(hl:∀i σ H,i≤kvs.length->Pv i σ H->H a=some (.frz o (.dK kvs)))(hs:∀i kv σ H,kvs[i]? = some kv->Pv i σ H->g (kV kv.1) σ H fun σ2 H2=>tb { D with nx:=Pv (i+1),ct:=Pv (i+1),bk:=D.nx } σ2 H2)(hd:∀σ H,Pv kvs.length σ H->D.nx σ H) :
 ∃W:Nat->Nat->St->Hp->Prop,(∃m,W 0 m σ H)/\∀i m σ H,W i m σ H →
  ((Itd a o kvs).stop i H/\D.nx σ H)∨((Itd a o kvs).go i H/\∃N:St->Hp->Prop,(∀σ' H',N σ' H'->∃m',m' < m/\W (i+1) m' σ' H')/\∀x H',(Itd a o kvs).yld i H x H'->g x σ H' fun σ2 H2=>tb { D with nx:=N,ct:=N,bk:=D.nx } σ2 H2):=by
 refine⟨fun i m σ H=>m=kvs.length - i/\i≤kvs.length/\Pv i σ H,⟨kvs.length,by simp,Nat.zero_le _,h0⟩,?_⟩
 rintro i m σ H ⟨rfl,hi,p⟩;have q:=hl i σ H hi p;by_cases hlt:i < kvs.length
 . refine .inr ⟨⟨q,hlt⟩,Pv (i+1),fun σ' H' p'=>⟨kvs.length - (i+1),by omega,rfl,hlt,p'⟩,fun x H' y=>?_⟩
   obtain⟨e,kv,hkv,ex⟩:=y;subst e ex;exact hs i kv σ _ hkv p
 . have e:i=kvs.length:=by omega
   subst e;exact .inl ⟨⟨q,Nat.le_refl _⟩,hd σ H p⟩
end L2
namespace L2
open PySem PySem.Spec PyProof.Rows
section
variable {X:Cx}
theorem keptIter {s:Shared}{h':Heap}{o:Obj}(hk:∀b x,b∉[s.heap.objs.size]->(s.heap.push o).get? b=some x->h'.get? b=some x):∀b x,s.heap.get? b=some x->h'.get? b=some x:=
 fun b x e=>hk b x (fun hm=>by rw[List.mem_singleton.mp hm]at e;exact Nat.lt_irrefl _ (Heap.lt_size e)) (Heap.get?_push_of_some _ e)
theorem range_all (bs:List Bool):((List.range bs.length).all fun i=>(bs[i]?).getD true)=bs.all id:=by
 rw[Bool.eq_iff_iff,List.all_eq_true,List.all_eq_true];constructor
 . intro h b hb;obtain⟨i,hi,rfl⟩:=List.getElem_of_mem hb;have q:=h i (List.mem_range.mpr hi);simpa [List.getElem?_eq_getElem hi] using q
 . intro h i hi;have hi':=List.mem_range.mp hi;simp only[List.getElem?_eq_getElem hi',Option.getD_some];exact h _ (List.getElem_mem hi')
theorem cO (hc:X.calm=true):cE X (.builtin "all") (fun xs H Q=>∃(p:Addr) (bs:List Bool),xs=[.ref p]/\SqL X.K H p (bs.map V.bl)/\Q (.bl (bs.all id)) H):=by
 intro pins s σ H xs us Q I r h;obtain⟨p,bs,rfl,hp,q⟩:=h;obtain⟨u,rfl,ru⟩:=f6 r;cases ru;obtain⟨its,rv,pl,hz⟩:=I.list hp;have hl:s.heap.IsList p its.toArray:=pl.isList;have hlt:p < s.heap.objs.size:=by obtain⟨_,e,_⟩:=hl;exact Heap.lt_size e
 have len:its.length=bs.length:=by have:=rv.length;rw[List.length_map]at this;exact this.symm
 refine call_all_walk (wpAny_pyIter_list hl ?_);refine⟨s.heap.objs.size,[s.heap.objs.size,p],[s.heap.objs.size],its.toArray.size,_,_,fun i=>(bs[i]?).getD true,rfl,Walks.list (A:=X.A.in1) (I.ok.hd hc) _ p (Nat.ne_of_lt hlt) its.toArray,
  ⟨⟨_,Heap.get?_push_size _ rfl,rfl,rfl⟩,hl.push _⟩,fun i v s' Q' E' hP hQ=>?_,fun h' tk hk=>?_⟩
 . have hv:its[i]? = some v:=by simpa using hP
   have hi:i < bs.length:=by rw[←len];exact(List.getElem?_eq_some_iff.mp hv).1
   obtain⟨u,hu,ru⟩:=rv.get (i:=i) (x:=V.bl bs[i]) (by simp[hi])
   rw[hv]at hu;cases hu;cases ru;simp only[List.getElem?_eq_getElem hi,Option.getD_some]at hQ;exact wpAny_truthy_bool hQ
 . have e:((List.range its.toArray.size).all fun i=>(bs[i]?).getD true)=bs.all id:=by rw[List.size_toArray,len];exact range_all bs
   rw[e];exact⟨.bl _,H,I.kept (keptIter hk),rfl,q⟩
theorem call_sum (hc:X.calm=true):cE X (.builtin "sum") (fun xs H Q=>∃(p:Addr) (ns:List Int),xs=[.ref p]/\SqL X.K H p (ns.map V.int)/\Q (.int ns.sum) H):=by
 intro pins s σ H xs us Q I r h;obtain⟨p,ns,rfl,hp,q⟩:=h;obtain⟨u,rfl,ru⟩:=f6 r;cases ru;obtain⟨its,rv,pl,hz⟩:=I.list hp;have hi:=eh rv;obtain⟨xs,hx⟩:=hi.allInts.items;have hl':s.heap.IsList p (intItems xs):=hx▸pl.isList;refine sum_intListG (I.ok.hd hc) hl' fun h' tk t' hk=>?_;have e1:ns=xs.toList.map (·.1):=by
  rw[←nums_intItems,←hx];exact(show numsOf its.toArray.toList=ns from hi.numsOf).symm
 have e2:preSum (numAt xs) xs.size=ns.sum:=by
  rw[preSum_eq,List.take_of_length_le (by simp),e1]
 rw[e2];exact⟨.int _,H,I.kept hk,⟨_,rfl⟩,q⟩
theorem dC:cE X (.builtin "isinstance") (fun xs H Q=>∃x t n b,xs=[x,.ty n]/\TyOf X.K H x t/\PySem.W.kitOne X.K t (.type n)=some b/\Q (.bl b) H):=by
 intro pins s σ H xs us Q I r h;obtain⟨x,t,n,b,rfl,ty,e,q⟩:=h;obtain⟨u,w',rfl,ru,rw'⟩:=iZ r;cases rw';exact isinst_ok I ru ty e fun tk=>⟨.bl b,H,I.tok tk,rfl,q⟩
theorem Vals.ins {xs:List V}{us:List Value}{y:V}{u:Value}(r:Vals xs us)(ry:RelV y u)(k:Nat):Vals (xs.take k++y::xs.drop k) (us.take k++u::us.drop k):=(r.take k).append (.cons ry (r.drop k))
def rInsert:V->List V->Hp->VK->Prop:=fun x vs H Q=>∃l xs k y,x = .ref l/\vs=[.int ((k:Nat):Int),y]/\H l=some (.lst xs)/\k≤xs.length/\xs.length < sizeLine/\Q .non (upd H l (.lst (xs.take k++y::xs.drop k)))
theorem dH:MtM X "list.insert" rInsert:=by
 intro pins s σ H x vs v us Q I rx rv h;obtain⟨l,xs,k,y,rfl,rfl,hH,hk,hz,q⟩:=h;cases rx;obtain⟨u,w',rfl,ru,ry⟩:=rv.two;obtain⟨t,rfl⟩:=ru;obtain⟨z,its,n,r,hl,e⟩:=I.lstM hH;have sl:(sizeLine:Nat) < 2 ^ 63:=gT;have hf:Builtin.List.listFitsIndex ((k:Nat):Int)=true:=by
  unfold Builtin.List.listFitsIndex;simp only[Bool.and_eq_true,decide_eq_true_eq];constructor<;>omega
 have hsz:its.toArray.size≤sizeLine:=by rw[List.size_toArray,←hl];exact z
 have hnf:¬(!Builtin.List.listFitsIndex ((k:Nat):Int))=true:=by rw[hf];decide
 have hneg:¬(((k:Nat):Int) < 0):=by omega
 have hmin:min ((k:Nat):Int).toNat its.toArray.size=k:=by rw[List.size_toArray];omega
 clear hf;revert hnf hneg hmin;generalize ((k:Nat):Int)=x;intro hnf hneg hmin;refine call_meets F.slot_list_insert ⟨_,e,rfl⟩ F.entry_list_insert (F.args_list_insert_3 _ _ _) (PySem.AutoSeq1.list_insert_list_int_val_1 l its.toArray n x t w' hnf hsz) ⟨e,?_⟩;refine⟨.non,_,I.lset (its':=its.take k++w'::its.drop k) hH e ?_ (r.ins ry k) ?_,rfl,q⟩
 . first
    | (simp only[hneg,if_false,hmin];exact PySem.W.kl_ins_eq its k w')
    | (simp only[if_neg hneg,hmin];exact PySem.W.kl_ins_eq its k w')
 . rw[List.length_append,List.length_cons,List.length_take,List.length_drop];omega
def tRev (K:PySem.W.Frag)(te ts:TE):TE:=fun σ H Q=>te σ H fun x H1=>ts σ H1 fun y H2=>∃a xs,y = .int (-1)/\x = .ref a/\SqL K H2 a xs/\∀p,H2 p=none->Q (.ref p) (upd H2 p (.lst xs.reverse))
theorem pe_rev {e st:Expr}{te ts:TE}{p2 pos:Pos}(he:PE X e te)(hs:PE X st ts):PE X (.Subscript e (.Slice none none (some st) p2) pos) (tRev X.K te ts):=by
 intro pins s σ H Q I h;refine Subscript_ (thn (he pins s σ H _ I h) fun v s1 ⟨x,H1,I1,r1,q1⟩=>?_);refine wpAny_Slice ?_;rw[evalPart_none];refine wpAny_pure (wpAny_pure ?_);rw[evalPart_some];refine thn (hs pins s1 σ H1 _ I1 q1) fun u s3 ⟨y,H3,I3,r3,q3⟩=>?_;obtain⟨a,xs,rfl,rfl,hx,q⟩:=q3;obtain⟨t,rfl⟩:=r3;cases r1;have I4:Inv X pins σ H3 { s3 with heap:=s3.heap.push { cls:=.type "slice",data:=.fields #[.none,.none,.int (-1) t] } }:=I3.kept (t':=s3.toks) fun b ob q=>Heap.get?_push_of_some _ q
 show wpAny (model X.prog X.w) X.A (subscriptTail e (.Slice none none (some st) p2) (.ref a) (.ref s3.heap.objs.size)) (EP X pins σ Q) X.xe { s3 with heap:=s3.heap.push { cls:=.type "slice",data:=.fields #[.none,.none,.int (-1) t] } }
 obtain⟨its,r,ht,hz⟩:=I4.list hx;have hlen:=r.length;refine tail_any (ops:=[.ref a,.ref s3.heap.objs.size]) ht.isList.typeIs slot_list_getitem.lookup (wpAny_getItem_list_slice ht.isList (Heap.IsSliceOf.new ..) .none .none (IsPart.int (-1) t) (by decide) ?_ (by rw[List.size_toArray]<;>omega)) (by with_unfolding_all rfl)
 rw[PySem.W.krv_pick];refine⟨.ref _,_,I4.laid (t':=s3.toks) (o:=.lst xs.reverse) (fun b ob q=>Heap.get?_push_of_some _ q) (Nat.le_refl _) ?_,rfl,q _ (I4.hok.fresh (Nat.le_refl _))⟩;exact⟨by rw[List.length_reverse];exact hz,_,0,r.reverse,Heap.get?_push_size _ rfl⟩
def eqVs (xs ys:List V):Bool:=xs.length == ys.length&&(List.range xs.length).all fun j=>eqV (xs.getD j .non) (ys.getD j .non)
theorem iL {A:Around}{pins:List (Addr×Obj)}{s:Shared}{σ:St}{H:Hp}{a b:Addr}{xs ys:List V}(I:Inv X pins σ H s)(ha:SqL X.K H a xs)(hb:SqL X.K H b ys)(fx:xs.all cf=true)(fy:ys.all cf=true)(hu:A.units < cLine):SeqAt.RcAt A s (.ref a) (.ref b) (eqVs xs ys)/\SeqAt.RcNeAt A s (.ref a) (.ref b) (!eqVs xs ys):=by
 obtain⟨us,ru,pu,_⟩:=I.list ha;obtain⟨vs,rv,pv,_⟩:=I.list hb;have l1:=ru.length;have l2:=rv.length;by_cases hl:xs.length=ys.length
 . have he:∀j (h1:j < us.toArray.size) (h2:j < vs.toArray.size),SeqAt.EqAt A.in1 s us.toArray[j] vs.toArray[j] (eqV (xs.getD j .non) (ys.getD j .non)):=fun j h1 h2=>by
    rw[List.size_toArray]at h1 h2;have hj1:j < xs.length:=by omega
    have hj2:j < ys.length:=by omega
    obtain⟨u,hu,ru'⟩:=ru.get (i:=j) (x:=xs[j]) (by simp[hj1])
    obtain⟨v,hv,rv'⟩:=rv.get (i:=j) (x:=ys[j]) (by simp[hj2])
    have e1:us.toArray[j]=u:=by
     have:=List.getElem?_eq_some_iff.mp hu;obtain⟨_,q⟩:=this;simpa using q
    have e2:vs.toArray[j]=v:=by
     obtain⟨_,q⟩:=List.getElem?_eq_some_iff.mp hv;simpa using q
    have g1:xs.getD j .non=xs[j]:=by simp[List.getD_eq_getElem?_getD,hj1]
    have g2:ys.getD j .non=ys[j]:=by simp[List.getD_eq_getElem?_getD,hj2]
    rw[e1,e2,g1,g2];exact jl ru' rv' (List.all_eq_true.mp fx _ (List.getElem_mem hj1)) (List.all_eq_true.mp fy _ (List.getElem_mem hj2))
   have hsz:us.toArray.size=vs.toArray.size:=by rw[List.size_toArray,List.size_toArray];omega
   have e:eqVs xs ys=(List.range us.toArray.size).all fun j=>eqV (xs.getD j .non) (ys.getD j .non):=by
    unfold eqVs;rw[beq_iff_eq.mpr hl,Bool.true_and,List.size_toArray,←l1]
   rw[e];exact⟨SeqAt.RcAt.lists pu.isList pv.isList hsz hu he,SeqAt.RcNeAt.lists pu.isList pv.isList hsz hu he⟩
 . have hsz:(us.toArray.size != vs.toArray.size)=true:=by
    rw[bne_iff_ne,List.size_toArray,List.size_toArray];omega
   have e:eqVs xs ys=false:=by
    unfold eqVs;rw[beq_eq_false_iff_ne.mpr hl,Bool.false_and]
   rw[e];exact⟨SeqAt.RcAt.lists_lengths pu.isList pv.isList hsz hu,SeqAt.RcNeAt.lists_lengths pu.isList pv.isList hsz hu⟩
structure Rows2 (K:PySem.W.Frag) (H:Hp) (a:Addr) (as:List Addr) (xss:List (List V)):Prop where
 at':SqL K H a (as.map V.ref)
 len:as.length=xss.length
 row:∀(i:Nat) (p:Addr) (xs:List V),as[i]? = some p->xss[i]? = some xs->SqL K H p xs/\xs.all cf=true
theorem rc_rows {A:Around}{pins:List (Addr×Obj)}{s:Shared}{σ:St}{H:Hp}{a b:Addr}{as bs:List Addr}{xss yss:List (List V)}(I:Inv X pins σ H s)(ha:Rows2 X.K H a as xss)(hb:Rows2 X.K H b bs yss)(hd:∀p∈as,p∉bs)(hl:xss.length=yss.length)(hu:A.units+1 < cLine):SeqAt.RcAt A s (.ref a) (.ref b) ((List.range xss.length).all fun j=>eqVs (xss.getD j []) (yss.getD j [])):=by
 obtain⟨us,ru,pu,_⟩:=I.list ha.at';obtain⟨vs,rv,pv,_⟩:=I.list hb.at';have l1:=ru.length;have l2:=rv.length;rw[List.length_map]at l1 l2;have n1:=ha.len;have n2:=hb.len;have hsz:us.toArray.size=vs.toArray.size:=by rw[List.size_toArray,List.size_toArray];omega
 have e:xss.length=us.toArray.size:=by rw[List.size_toArray];omega
 rw[e];refine SeqAt.RcAt.lists pu.isList pv.isList hsz (Nat.lt_of_succ_lt hu) fun j h1 h2=>?_;rw[List.size_toArray]at h1 h2;have j1:j < as.length:=by omega
 have j2:j < bs.length:=by omega
 have j3:j < xss.length:=by omega
 have j4:j < yss.length:=by omega
 obtain⟨u,hu',ru'⟩:=ru.get (i:=j) (x:=V.ref as[j]) (by simp[j1])
 obtain⟨v,hv',rv'⟩:=rv.get (i:=j) (x:=V.ref bs[j]) (by simp[j2])
 have e1:us.toArray[j] = .ref as[j]:=by
  obtain⟨_,q⟩:=List.getElem?_eq_some_iff.mp hu';cases ru';simpa using q
 have e2:vs.toArray[j] = .ref bs[j]:=by
  obtain⟨_,q⟩:=List.getElem?_eq_some_iff.mp hv';cases rv';simpa using q
 have g1:xss.getD j []=xss[j]:=by simp[List.getD_eq_getElem?_getD,j3]
 have g2:yss.getD j []=yss[j]:=by simp[List.getD_eq_getElem?_getD,j4]
 rw[e1,e2,g1,g2];obtain⟨q1,f1⟩:=ha.row j as[j] xss[j] (by simp[j1]) (by simp[j3])
 obtain⟨q2,f2⟩:=hb.row j bs[j] yss[j] (by simp[j2]) (by simp[j4])
 have ne:as[j]≠bs[j]:=fun e=>hd _ (List.getElem_mem j1) (e▸List.getElem_mem j2);exact SeqAt.EqAt.of_refs ne (iL (A:=A.in1) I q1 q2 f1 f2 hu).1
def rEqR (K:PySem.W.Frag):R2:=fun x y H Q=>∃a b as bs xss yss,x = .ref a/\y = .ref b/\Rows2 K H a as xss/\Rows2 K H b bs yss/\(∀p∈as,p∉bs)/\xss.length=yss.length ∧
 Q (.bl ((List.range xss.length).all fun j=>eqVs (xss.getD j []) (yss.getD j []))) H
theorem op_eqR (hu:X.A.units+1 < cLine):OpR X (compareOp .Eq) (rEqR X.K):=by
 intro pins s σ H x y v u Q I rx ry h;obtain⟨a,b,as,bs,xss,yss,rfl,rfl,ha,hb,hd,hl,q⟩:=h;cases rx;cases ry;exact rc_rows I ha hb hd hl hu _ _ _ _ ⟨.bl _,H,I,rfl,q⟩
theorem eqV_refl:∀{x:V},cf x=true->eqV x x=true:=by
 intro x h;cases x<;>simp_all [cf,eqV]
theorem eqVs_refl {xs:List V}(h:xs.all cf=true):eqVs xs xs=true:=by
 unfold eqVs;rw[beq_self_eq_true,Bool.true_and,List.all_eq_true];intro j hj;have hj':=List.mem_range.mp hj;have g:xs.getD j .non=xs[j]:=by simp[List.getD_eq_getElem?_getD,hj']
 rw[g];exact eqV_refl (List.all_eq_true.mp h _ (List.getElem_mem hj'))
end
end L2
namespace Tw
abbrev Road:=Int×Int×Int
def inc (v:Int)(r:Road):Bool:=decide (r.1=v)||decide (r.2.1=v)
def deg (rs:List Road)(v:Int):Nat:=rs.countP (inc v)
def Joins (r:Road)(u w:Int):Prop:=(r.1=u/\r.2.1=w)∨(r.1=w/\r.2.1=u)
inductive Tr:List Road->List Int->Prop
 | one (v:Int):Tr [] [v]
 | hang {rs rs':List Road} {vs vs':List Int} {u w:Int} {r:Road}:Tr rs vs->u∈vs->w∉vs->Joins r u w->rs'.Perm (r::rs)->vs'.Perm (w::vs)->Tr rs' vs'
theorem Joins.symm {r:Road}{u w:Int}(h:Joins r u w):Joins r w u:=h.elim .inr .inl
theorem inc_iff {v:Int}{r:Road}:inc v r=true<->r.1=v∨r.2.1=v:=by
 unfold inc;simp
theorem Joins.inc {r:Road}{u w:Int}(h:Joins r u w):inc u r=true/\inc w r=true:=by
 rcases h with⟨a,b⟩ | ⟨a,b⟩
 . exact⟨inc_iff.mpr (.inl a),inc_iff.mpr (.inr b)⟩
 . exact⟨inc_iff.mpr (.inr b),inc_iff.mpr (.inl a)⟩
theorem Joins.inc_only {r:Road}{u w v:Int}(h:Joins r u w)(hv:Tw.inc v r=true):v=u∨v=w:=by
 rcases h with⟨a,b⟩ | ⟨a,b⟩<;>rcases inc_iff.mp hv with c | c<;>omega
theorem Tr.perm {rs rs':List Road}{vs vs':List Int}(t:Tr rs vs)(hr:rs'.Perm rs)(hv:vs'.Perm vs):Tr rs' vs':=by
 cases t with
 | one v =>
  have e1:=hr.eq_nil;have e2:vs'=[v]:=List.perm_singleton.mp hv;subst e1;subst e2;exact .one v
 | hang t hu hw j p q=>exact .hang t hu hw j (hr.trans p) (hv.trans q)
theorem Tr.length {rs:List Road}{vs:List Int}(t:Tr rs vs):rs.length+1=vs.length:=by
 induction t with
 | one=>rfl
 | hang _ _ _ _ p q ih=>rw[p.length_eq,q.length_eq,List.length_cons,List.length_cons,ih]
theorem Tr.places {rs:List Road}{vs:List Int}(t:Tr rs vs):∀r∈rs,r.1∈vs/\r.2.1∈vs/\r.1≠r.2.1:=by
 induction t with
 | one v=>intro r hr;cases hr
 | @hang rs rs' vs vs' u w r _ hu hw j p q ih =>
  intro x hx;rcases List.mem_cons.mp (p.mem_iff.mp hx)with e | hx
  . subst e;have hu':u∈vs':=q.mem_iff.mpr (List.mem_cons_of_mem _ hu);have hw':w∈vs':=q.mem_iff.mpr List.mem_cons_self;have ne:u≠w:=fun e=>hw (e▸hu);rcases j with⟨a,b⟩ | ⟨a,b⟩
    . rw[a,b];exact⟨hu',hw',ne⟩
    . rw[a,b];exact⟨hw',hu',ne.symm⟩
  . obtain⟨h1,h2,h3⟩:=ih x hx;exact⟨q.mem_iff.mpr (List.mem_cons_of_mem _ h1),q.mem_iff.mpr (List.mem_cons_of_mem _ h2),h3⟩
theorem Tr.whole {rs:List Road}{vs:List Int}(t:Tr rs vs){P:Int->Prop}(h:∀r∈rs,P r.1<->P r.2.1):∀u∈vs,∀v∈vs,P u->P v:=by
 induction t with
 | one x =>
  intro u hu v hv;rw[List.mem_singleton.mp hu,List.mem_singleton.mp hv];exact id
 | @hang rs rs' vs vs' u w r _ hu hw j p q ih =>
  have ih':=ih fun r hr=>h r (p.mem_iff.mpr (List.mem_cons_of_mem _ hr));have hj:=h r (p.mem_iff.mpr List.mem_cons_self);have huw:P u<->P w:=by
   rcases j with⟨a,b⟩ | ⟨a,b⟩
   . rw[a,b]at hj;exact hj
   . rw[a,b]at hj;exact hj.symm
  intro x hx y hy px;have pu:P u:=by
   rcases List.mem_cons.mp (q.mem_iff.mp hx)with e | hx
   . subst e;exact huw.mpr px
   . exact ih' x hx u hu px
  rcases List.mem_cons.mp (q.mem_iff.mp hy)with e | hy
  . subst e;exact huw.mp pu
  . exact ih' u hu y hy pu
theorem g8 {rs rs':List Road}(p:rs'.Perm rs)(v:Int):deg rs' v=deg rs v:=p.countP_eq _
theorem eG (r:Road)(rs:List Road)(v:Int):deg (r::rs) v=deg rs v+if inc v r=true then 1 else 0:=by
 unfold deg;rw[List.countP_cons]
theorem iU {rs:List Road}{vs:List Int}(t:Tr rs vs){v:Int}(h:v∉vs):deg rs v=0:=by
 unfold deg;rw[List.countP_eq_zero];intro r hr hi;obtain⟨h1,h2,_⟩:=t.places r hr;rcases inc_iff.mp hi with e | e
 . exact h (e▸h1)
 . exact h (e▸h2)
theorem Tr.deg_pos {rs:List Road}{vs:List Int}(t:Tr rs vs)(hr:rs≠[]):∀v∈vs,1≤deg rs v:=by
 induction t with
 | one=>exact absurd rfl hr
 | @hang rs rs' vs vs' u w r t hu hw j p q ih =>
  intro v hv;rw[g8 p,eG];rcases List.mem_cons.mp (q.mem_iff.mp hv)with e | hv
  . subst e;rw[if_pos j.inc.2];omega
  . by_cases e:rs=[]
    . subst e;cases t with
      | one x =>
       have e1:=List.mem_singleton.mp hv;have e2:=List.mem_singleton.mp hu;rw[e1,←e2,if_pos j.inc.1];omega
      | hang _ _ _ _ p' _=>exact absurd p'.length_eq (by simp)
    . have:=ih e v hv;omega
theorem Tr.leaf {rs:List Road}{vs:List Int}(t:Tr rs vs)(hr:rs≠[]):∃v∈vs,deg rs v=1:=by
 cases t with
 | one=>exact absurd rfl hr
 | @hang rs _ vs _ u w r t hu hw j p q =>
  refine⟨w,q.mem_iff.mpr List.mem_cons_self,?_⟩;rw[g8 p,eG,iU t hw,if_pos j.inc.2]
theorem Tr.cut {rs:List Road}{vs:List Int}(t:Tr rs vs):∀{p:Int},p∈vs->deg rs p=1->∃r rs0 u vs0,rs.Perm (r::rs0)/\vs.Perm (p::vs0)/\Joins r u p/\u∈vs0/\p∉vs0/\Tr rs0 vs0/\deg rs0 p=0:=by
 induction t with
 | one v=>intro p _ h;simp[deg]at h
 | @hang rs rs' vs vs' u w r t hu hw j p q ih =>
  intro x hx hd;rw[g8 p,eG]at hd;by_cases e:x=w
  . subst e;exact⟨r,rs,u,vs,p,q,j,hu,hw,t,iU t hw⟩
  . have hxv:x∈vs:=(List.mem_cons.mp (q.mem_iff.mp hx)).resolve_left e;by_cases eu:x=u
    . subst eu;rw[if_pos j.inc.1]at hd;have hz:rs=[]:=by
       by_cases hn:rs=[]
       . exact hn
       . have:=t.deg_pos hn x hxv;omega
      subst hz;cases t with
      | one y =>
       have e1:=List.mem_singleton.mp hu;subst e1;refine⟨r,[],w,[w],p,q.trans (List.Perm.swap _ _ _),j.symm,by simp,by simpa using e,.one w,rfl⟩
      | hang _ _ _ _ p' _=>exact absurd p'.length_eq (by simp)
    . have hni:¬inc x r=true:=fun hi=>(j.inc_only hi).elim eu e;rw[if_neg hni]at hd;obtain⟨r1,rs1,u1,vs1,p1,q1,j1,hu1,hx1,t1,d1⟩:=ih hxv hd;refine⟨r1,r::rs1,u1,w::vs1,(p.trans (p1.cons r)).trans (List.Perm.swap _ _ _),(q.trans (q1.cons w)).trans (List.Perm.swap _ _ _),j1,List.mem_cons_of_mem _ hu1,?_,?_,?_⟩
      . intro h;rcases List.mem_cons.mp h with h | h
        . exact e h
        . exact hx1 h
      . refine .hang t1 (u:=u) (w:=w) (r:=r) ?_ ?_ j (List.Perm.refl _) (List.Perm.refl _)
        . exact(List.mem_cons.mp (q1.mem_iff.mp hu)).resolve_left (fun h=>eu h.symm)
        . intro h;exact hw (q1.mem_iff.mpr (List.mem_cons_of_mem _ h))
      . rw[eG,if_neg hni,d1]
theorem Tr.rehang {rs:List Road}{vs:List Int}(t:Tr rs vs){p o:Int}(hp:p∈vs)(ho:o∈vs)(hne:o≠p)(hd:deg rs p=1){f:Road->Road}(hf:∀r,Joins (f r) o p):Tr (rs.map fun r=>if inc p r=true then f r else r) vs:=by
 obtain⟨r,rs0,u,vs0,pr,pv,j,hu,hn,t0,d0⟩:=t.cut hp hd;have e0:(rs0.map fun r=>if inc p r=true then f r else r)=rs0:=by
  conv=>rhs;rw[←List.map_id rs0]
  refine List.map_congr_left fun x hx=>?_;have:¬inc p x=true:=by
   intro hi;unfold deg at d0;exact List.countP_eq_zero.mp d0 x hx hi
  rw[if_neg this];rfl
 have ho0:o∈vs0:=(List.mem_cons.mp (pv.mem_iff.mp ho)).resolve_left hne;refine .hang t0 ho0 hn (hf r) ?_ pv;have:=pr.map fun r=>if inc p r=true then f r else r
 rw[List.map_cons,e0,if_pos j.inc.2]at this;exact this
end Tw
namespace Tw
def rowI (r:Road):List Int:=[r.1,r.2.1,r.2.2]
def bM (n:Int)(z:List Int):Bool:=match z with
 | [a,b,l]=>decide (0≤a/\a < n)&&decide (0≤b/\b < n)&&!decide (a=b)&&decide (1≤l)
 | _=>false
structure Valid (n:Int) (r:Road):Prop where
 a0:0≤r.1
 a1:r.1 < n
 b0:0≤r.2.1
 b1:r.2.1 < n
 ne:r.1≠r.2.1
 l1:1≤r.2.2
theorem isRoad_iff {n:Int}{z:List Int}:bM n z=true<->∃r,z=rowI r/\Valid n r:=by
 constructor
 . intro h;unfold bM at h
   split at h
   . rename_i a b l;simp only[Bool.and_eq_true,decide_eq_true_eq,Bool.not_eq_true',decide_eq_false_iff_not]at h;obtain⟨⟨⟨h1,h2⟩,h3⟩,h4⟩:=h;exact⟨(a,b,l),rfl,⟨h1.1,h1.2,h2.1,h2.2,h3,h4⟩⟩
   . cases h
 . rintro⟨⟨a,b,l⟩,rfl,v⟩;have:=v.a0;have:=v.a1;have:=v.b0;have:=v.b1;have:=v.ne;have:=v.l1;simp only at *;simp[bM,rowI, *]
theorem fQ {n:Int}:∀{zss:List (List Int)},(zss.all (bM n))=true->∃rs:List Road,zss=rs.map rowI/\∀r∈rs,Valid n r
 | [],_=>⟨[],rfl,fun r h=>nomatch h⟩
 | z::t,h=>by
  rw[List.all_cons,Bool.and_eq_true]at h;obtain⟨r,e,v⟩:=isRoad_iff.mp h.1;obtain⟨rs,e2,v2⟩:=fQ h.2;exact⟨r::rs,by rw[e,e2];rfl,fun x hx=>by
   rcases List.mem_cons.mp hx with e | hx
   . subst e;exact v
   . exact v2 x hx⟩
theorem hG {r q:Road}(h:rowI r=rowI q):r=q:=by
 obtain⟨a,b,c⟩:=r;obtain⟨d,e,f⟩:=q;unfold rowI at h;simp only[List.cons.injEq]at h;obtain⟨h1,h2,h3,_⟩:=h;subst h1;subst h2;subst h3;rfl
theorem all_roads {n:Int}{rs:List Road}:((rs.map rowI).all (bM n))=true<->∀r∈rs,Valid n r:=by
 rw[List.all_eq_true];constructor
 . intro h r hr;obtain⟨q,e,v⟩:=isRoad_iff.mp (h (rowI r) (List.mem_map.mpr ⟨r,hr,rfl⟩));rw[hG e];exact v
 . intro h z hz;obtain⟨r,hr,rfl⟩:=List.mem_map.mp hz;exact isRoad_iff.mpr ⟨r,rfl,h r hr⟩
def Conn (n:Int)(rs:List Road):Prop:=∀P:Int->Prop,P 0->(∀r∈rs,P r.1<->P r.2.1)->∀v,0≤v->v < n->P v
structure IsTree (n:Int) (zss:List (List Int)):Prop where
 lo:1≤n
 hi:n≤12
 len:(zss.length:Int)=n - 1
 ex:∃rs:List Road,zss=rs.map rowI/\(∀r∈rs,Valid n r)/\Conn n rs
def put (d:List (Int×Int))(k v:Int):List (Int×Int):=
 if (d.any fun p=>decide (p.1=k))=true then d.map (fun p=>if p.1=k then (p.1,v)else p)else d++[(k,v)]
def nb1 (v:Int)(d:List (Int×Int))(r:Road):List (Int×Int):=
 if r.1=v then put d r.2.1 r.2.2 else if r.2.1=v then put d r.1 r.2.2 else d
def nbOf (rs:List Road)(v:Int):List (Int×Int):=rs.foldl (nb1 v) []
theorem nbOf_snoc (rs:List Road)(r:Road)(v:Int):nbOf (rs++[r]) v=nb1 v (nbOf rs v) r:=by
 unfold nbOf;rw[List.foldl_append];rfl
theorem hU (d:List (Int×Int))(k v:Int)(x:Int):x∈(put d k v).map (·.1)<->x∈d.map (·.1)∨x=k:=by
 unfold put
 split
 . rename_i h;have e:(d.map fun p=>if p.1=k then (p.1,v)else p).map (·.1)=d.map (·.1):=by
    rw[List.map_map];refine List.map_congr_left fun p _=>?_;simp only[Function.comp]
    split<;>rfl
   rw[e];constructor
   . exact .inl
   . rintro(h' | h')
     . exact h'
     . obtain⟨p,hp,e⟩:=List.any_eq_true.mp h;exact List.mem_map.mpr ⟨p,hp,(of_decide_eq_true e).trans h'.symm⟩
 . rw[List.map_append,List.mem_append];simp
theorem fU (d:List (Int×Int))(k v:Int):(put d k v).length≤d.length+1:=by
 unfold put
 split
 . rw[List.length_map];omega
 . rw[List.length_append];simp
def Adj (rs:List Road)(u w:Int):Prop:=∃r∈rs,Joins r u w
theorem eT (rs:List Road)(v x:Int):x∈(nbOf rs v).map (·.1)<->Adj rs v x:=by
 have gen:∀(rs:List Road) (d:List (Int×Int)),x∈(rs.foldl (nb1 v) d).map (·.1)<->x∈d.map (·.1)∨Adj rs v x:=by
  intro rs
  induction rs with
  | nil=>intro d;exact⟨.inl,fun h=>h.elim id (fun⟨r,h,_⟩=>nomatch h)⟩
  | cons r t ih =>
   intro d;rw[List.foldl_cons,ih];have adj:Adj (r::t) v x<->Joins r v x∨Adj t v x:=by
    constructor
    . rintro⟨q,hq,j⟩;rcases List.mem_cons.mp hq with e | hq
      . subst e;exact .inl j
      . exact .inr ⟨q,hq,j⟩
    . rintro(j | ⟨q,hq,j⟩)
      . exact⟨r,List.mem_cons_self,j⟩
      . exact⟨q,List.mem_cons_of_mem _ hq,j⟩
   rw[adj];have one:x∈(nb1 v d r).map (·.1)<->x∈d.map (·.1)∨(Joins r v x)∨(r.1=v/\r.2.1=v/\False):=by
    unfold nb1 Joins
    split
    . rename_i h1;rw[hU];constructor
      . rintro(h | h)
        . exact .inl h
        . exact .inr (.inl (.inl ⟨h1,h.symm⟩))
      . rintro(h | (⟨h,h'⟩ | ⟨h,h'⟩) | ⟨_,_,h⟩)
        . exact .inl h
        . exact .inr h'.symm
        . exact .inr (by omega)
        . exact h.elim
    . rename_i h1
      split
      . rename_i h2;rw[hU];constructor
        . rintro(h | h)
          . exact .inl h
          . exact .inr (.inl (.inr ⟨h.symm,h2⟩))
        . rintro(h | (⟨h,h'⟩ | ⟨h,h'⟩) | ⟨_,_,h⟩)
          . exact .inl h
          . exact absurd h h1
          . exact .inr h.symm
          . exact h.elim
      . rename_i h2;constructor
        . exact .inl
        . rintro(h | (⟨h,h'⟩ | ⟨h,h'⟩) | ⟨_,_,h⟩)
          . exact h
          . exact absurd h h1
          . exact absurd h' h2
          . exact h.elim
   rw[one];constructor
   . rintro((h | h | ⟨_,_,h⟩) | h)
     . exact .inl h
     . exact .inr (.inl h)
     . exact h.elim
     . exact .inr (.inr h)
   . rintro(h | h | h)
     . exact .inl (.inl h)
     . exact .inl (.inr (.inl h))
     . exact .inr h
 have:=gen rs [];unfold nbOf;rw[this];simp
theorem nbOf_length_le (rs:List Road)(v:Int):(nbOf rs v).length≤rs.length:=by
 have gen:∀(rs:List Road) (d:List (Int×Int)),(rs.foldl (nb1 v) d).length≤d.length+rs.length:=by
  intro rs
  induction rs with
  | nil=>intro d;exact Nat.le_refl _
  | cons r t ih =>
   intro d;rw[List.foldl_cons];refine Nat.le_trans (ih _) ?_;have:(nb1 v d r).length≤d.length+1:=by
    unfold nb1
    split
    . exact fU _ _ _
    . split
      . exact fU _ _ _
      . omega
   rw[List.length_cons];omega
 have q:=gen rs [];rw[List.length_nil,Nat.zero_add]at q;exact q
structure Srch (n:Nat) (nb:Int->List (Int×Int)) (g:Int) (k:Nat) (st:List (Int×Int)):Prop where
 first:st[0]? = some (g,g)
 nd:(st.map (·.1)).Nodup
 rng:∀p∈st,0≤p.1/\p.1 < n
 par:∀i p q,st[i]? = some (p,q)->0 < i->∃j,j < i/\j < k/\(st.map (·.1))[j]? = some q/\p∈(nb q).map (·.1)
 clo:∀j q,j < k->(st.map (·.1))[j]? = some q->∀p∈(nb q).map (·.1),p∈st.map (·.1)
theorem Srch.length {n:Nat}{nb:Int->List (Int×Int)}{g:Int}{k:Nat}{st:List (Int×Int)}(s:Srch n nb g k st):st.length≤n:=by
 have h:∀(m:Nat) (l:List Int),l.Nodup->(∀x∈l,0≤x/\x < m)->l.length≤m:=by
  intro m
  induction m with
  | zero =>
   intro l _ h;cases l with
   | nil=>exact Nat.le_refl _
   | cons x t=>have:=h x (by simp);omega
  | succ m ih =>
   intro l hn h;by_cases hm:((m:Nat):Int)∈l
   . have hp:=List.perm_cons_erase hm;rw[hp.length_eq,List.length_cons];have hn':=hp.nodup_iff.mp hn;obtain⟨h1,h2⟩:=List.nodup_cons.mp hn';have:=ih (l.erase (m:Int)) h2 fun x hx=>by
      have hx':=List.mem_of_mem_erase hx;have b:=h x hx';have:x≠(m:Int):=fun e=>h1 (e▸hx);omega
     omega
   . have:=ih l hn fun x hx=>by
      have b:=h x hx;have:x≠(m:Int):=fun e=>hm (e▸hx);omega
     omega
 have:=h n (st.map (·.1)) s.nd fun x hx=>by
  obtain⟨p,hp,e⟩:=List.mem_map.mp hx;rw[←e];exact s.rng p hp
 simpa using this
theorem dA:∀(m:Nat) (l:List Int),l.Nodup->(∀x∈l,0≤x/\x < m)->l.length=m->∀v:Int,0≤v->v < (m:Int)->v∈l:=by
 intro m
 induction m with
 | zero=>intro l _ _ _ v h1 h2;omega
 | succ m ih =>
  intro l hn h hl v h1 h2;have hm:((m:Nat):Int)∈l:=by
   refine Classical.byContradiction fun hm=>?_;have:l.length≤m:=by
    have key:∀(m:Nat) (l:List Int),l.Nodup->(∀x∈l,0≤x/\x < m)->l.length≤m:=by
     intro m
     induction m with
     | zero =>
      intro l _ h;cases l with
      | nil=>exact Nat.le_refl _
      | cons x t=>have:=h x (by simp);omega
     | succ m ih =>
      intro l hn h;by_cases hm:((m:Nat):Int)∈l
      . have hp:=List.perm_cons_erase hm;rw[hp.length_eq,List.length_cons];obtain⟨h1,h2⟩:=List.nodup_cons.mp (hp.nodup_iff.mp hn);have:=ih (l.erase (m:Int)) h2 fun x hx=>by
         have b:=h x (List.mem_of_mem_erase hx);have:x≠(m:Int):=fun e=>h1 (e▸hx);omega
        omega
      . have:=ih l hn fun x hx=>by
         have b:=h x hx;have:x≠(m:Int):=fun e=>hm (e▸hx);omega
        omega
    exact key m l hn fun x hx=>by
     have b:=h x hx;have:x≠(m:Int):=fun e=>hm (e▸hx);omega
   omega
  by_cases hv:v=(m:Int)
  . rw[hv];exact hm
  . have hp:=List.perm_cons_erase hm;obtain⟨h3,h4⟩:=List.nodup_cons.mp (hp.nodup_iff.mp hn);have q:=ih (l.erase (m:Int)) h4 (fun x hx=>by
     have b:=h x (List.mem_of_mem_erase hx);have:x≠(m:Int):=fun e=>h3 (e▸hx);omega) (by have:=hp.length_eq;rw[List.length_cons]at this;omega) v h1 (by omega)
    exact List.mem_of_mem_erase q
theorem Srch.conn {n:Nat}{rs:List Road}{st:List (Int×Int)}(s:Srch n (nbOf rs) 0 st.length st)(hn:1≤n):(st.length=n<->Conn n rs):=by
 have mem0:(0:Int)∈st.map (·.1):=List.mem_map.mpr ⟨(0,0),List.mem_of_getElem? s.first,rfl⟩;constructor
 . intro hl P p0 hP v h1 h2;have hv:=dA n (st.map (·.1)) s.nd (fun x hx=>by
    obtain⟨p,hp,e⟩:=List.mem_map.mp hx;rw[←e];exact s.rng p hp) (by simpa using hl) v h1 h2
   have all:∀(i:Nat) (p:Int),(st.map (·.1))[i]? = some p->P p:=by
    intro i
    induction i using Nat.strongRecOn with
    | _ i ih =>
     intro p hp;rw[List.getElem?_map]at hp;cases e:st[i]? with
     | none=>rw[e]at hp;cases hp
     | some pq =>
      obtain⟨a,b⟩:=pq;rw[e]at hp;have ea:a=p:=by simpa using hp
      subst ea;by_cases hi:0 < i
      . obtain⟨j,hj,_,hq,hk⟩:=s.par i a b e hi;have pb:=ih j hj b hq;obtain⟨r,hr,jn⟩:=(eT rs b a).mp hk;rcases jn with⟨c,d⟩ | ⟨c,d⟩
        . have:=(hP r hr).mp (by rw[c];exact pb);rw[d]at this;exact this
        . have:=(hP r hr).mpr (by rw[d];exact pb);rw[c]at this;exact this
      . have hi0:i=0:=by omega
        subst hi0;rw[s.first]at e;cases e;exact p0
   obtain⟨i,hi⟩:=List.mem_iff_getElem?.mp hv;exact all i v hi
 . intro h;have cl:∀v,0≤v->v < (n:Int)->v∈st.map (·.1):=by
    intro v h1 h2;refine h (fun v=>v∈st.map (·.1)) mem0 (fun r hr=>?_) v h1 h2;have go:∀a b,Joins r a b->a∈st.map (·.1)->b∈st.map (·.1):=fun a b j ha=>by
     obtain⟨i,hi⟩:=List.mem_iff_getElem?.mp ha;have hil:i < st.length:=by
      have:=(List.getElem?_eq_some_iff.mp hi).1;simpa using this
     exact s.clo i a hil hi b ((eT rs a b).mpr ⟨r,hr,j⟩)
    exact⟨go _ _ (.inl ⟨rfl,rfl⟩),go _ _ (.inr ⟨rfl,rfl⟩)⟩
   have le:=s.length;have ge:n≤st.length:=by
    have sub:∀(m:Nat) (l:List Int),(∀v,0≤v->v < (m:Int)->v∈l)->m≤l.length:=by
     intro m
     induction m with
     | zero=>intro l _;omega
     | succ m ih =>
      intro l hl;have hm:=hl m (by omega) (by omega)
      have hp:=List.perm_cons_erase hm;rw[hp.length_eq,List.length_cons];have:=ih (l.erase (m:Int)) fun v h1 h2=>(List.mem_erase_of_ne (by omega)).mpr (hl v h1 (by omega))
      omega
    have:=sub n (st.map (·.1)) cl;simpa using this
   omega
theorem Srch.start {n:Nat}{nb:Int->List (Int×Int)}{g:Int}(h0:0≤g)(h1:g < n):Srch n nb g 0 [(g,g)]:=by
 refine⟨rfl,by simp,fun p hp=>?_,fun i p q h hi=>?_,fun j q hj=>absurd hj (Nat.not_lt_zero _)⟩
 . rw[List.mem_singleton.mp hp];exact⟨h0,h1⟩
 . cases i with
   | zero=>omega
   | succ i=>simp at h
structure Mid (n:Nat) (nb:Int->List (Int×Int)) (g:Int) (k i:Nat) (q:Int) (st:List (Int×Int)):Prop where
 first:st[0]? = some (g,g)
 nd:(st.map (·.1)).Nodup
 rng:∀p∈st,0≤p.1/\p.1 < n
 par:∀i p q,st[i]? = some (p,q)->0 < i->∃j,j < i/\j < k+1/\(st.map (·.1))[j]? = some q/\p∈(nb q).map (·.1)
 clo:∀j q,j < k->(st.map (·.1))[j]? = some q->∀p∈(nb q).map (·.1),p∈st.map (·.1)
 here:(st.map (·.1))[k]? = some q
 seen:∀p∈((nb q).map (·.1)).take i,p∈st.map (·.1)
theorem Srch.mid {n:Nat}{nb:Int->List (Int×Int)}{g:Int}{k:Nat}{st:List (Int×Int)}{q:Int}(s:Srch n nb g k st)(h:(st.map (·.1))[k]? = some q):Mid n nb g k 0 q st:=
 ⟨s.first,s.nd,s.rng,fun i p q h hi=>let ⟨j,a,b,c⟩:=s.par i p q h hi;⟨j,a,Nat.lt_succ_of_lt b,c⟩,s.clo,h,fun p hp=>by simp at hp⟩
theorem Mid.old {n:Nat}{nb:Int->List (Int×Int)}{g:Int}{k i:Nat}{q p:Int}{st:List (Int×Int)}(s:Mid n nb g k i q st)(hi:((nb q).map (·.1))[i]? = some p)(hp:p∈st.map (·.1)):Mid n nb g k (i+1) q st:=
 ⟨s.first,s.nd,s.rng,s.par,s.clo,s.here,fun x hx=>by
  rw[List.take_add_one,hi,List.mem_append]at hx;rcases hx with hx | hx
  . exact s.seen x hx
  . have:x=p:=by simpa using hx
    rw[this];exact hp⟩
theorem Mid.new {n:Nat}{nb:Int->List (Int×Int)}{g:Int}{k i:Nat}{q p:Int}{st:List (Int×Int)}(s:Mid n nb g k i q st)(hi:((nb q).map (·.1))[i]? = some p)(hp:p∉st.map (·.1))(h0:0≤p)(h1:p < n):Mid n nb g k (i+1) q (st++[(p,q)]):=by
 have hkl:k < st.length:=by
  have:=(List.getElem?_eq_some_iff.mp s.here).1;simpa using this
 have em:(st++[(p,q)]).map (·.1)=st.map (·.1)++[p]:=by rw[List.map_append];rfl
 have old:∀{j:Nat} {x:Int},(st.map (·.1))[j]? = some x->(st.map (·.1)++[p])[j]? = some x:=fun{j x} h=>by
  rw[List.getElem?_append_left (List.getElem?_eq_some_iff.mp h).1];exact h
 refine⟨?_,?_,?_,?_,?_,?_,?_⟩
 . rw[List.getElem?_append_left (by omega)];exact s.first
 . rw[em];refine List.nodup_append.mpr ⟨s.nd,by simp,?_⟩
   intro a ha b hb e;have:b=p:=by simpa using hb
   exact hp (by rw[←this,←e];exact ha)
 . intro x hx;rcases List.mem_append.mp hx with hx | hx
   . exact s.rng x hx
   . rw[List.mem_singleton.mp hx];exact⟨h0,h1⟩
 . intro j a b h hj;rw[em];by_cases hjl:j < st.length
   . rw[List.getElem?_append_left hjl]at h;obtain⟨t,t1,t2,t3,t4⟩:=s.par j a b h hj;exact⟨t,t1,t2,old t3,t4⟩
   . rw[List.getElem?_append_right (by omega)]at h
     have hz:j - st.length=0:=by
      have:=(List.getElem?_eq_some_iff.mp h).1;simp at this;omega
     rw[hz]at h;have e:(p,q)=(a,b):=by simpa using h
     cases e;exact⟨k,by omega,Nat.lt_succ_self _,old s.here,List.mem_of_getElem? hi⟩
 . intro j x hj hx y hy;rw[em]at hx⊢;have hjl:j < (st.map (·.1)).length:=by rw[List.length_map];omega
   rw[List.getElem?_append_left hjl]at hx;exact List.mem_append_left _ (s.clo j x hj hx y hy)
 . rw[em];exact old s.here
 . intro x hx;rw[em];rw[List.take_add_one,hi,List.mem_append]at hx;rcases hx with hx | hx
   . exact List.mem_append_left _ (s.seen x hx)
   . have:x=p:=by simpa using hx
     rw[this];exact List.mem_append_right _ (by simp)
theorem Mid.done {n:Nat}{nb:Int->List (Int×Int)}{g:Int}{k i:Nat}{q:Int}{st:List (Int×Int)}(s:Mid n nb g k i q st)(hi:i=(nb q).length):Srch n nb g (k+1) st:=by
 refine⟨s.first,s.nd,s.rng,s.par,fun j x hj hx p hp=>?_⟩;by_cases hjk:j < k
 . exact s.clo j x hjk hx p hp
 . have e:j=k:=by omega
   subst e;rw[s.here]at hx;cases hx;exact s.seen p (by rw[List.take_of_length_le (by simp[hi])];exact hp)
end Tw
namespace Tw
def pl (n:Nat):List Int:=(List.range n).map fun i=>((i:Nat):Int)
theorem mem_pl {n:Nat}{v:Int}:v∈pl n<->0≤v/\v < n:=by
 unfold pl;rw[List.mem_map];constructor
 . rintro⟨i,hi,rfl⟩;have:=List.mem_range.mp hi;omega
 . rintro⟨h1,h2⟩;exact⟨v.toNat,List.mem_range.mpr (by omega),by omega⟩
theorem bY (n:Nat):(pl n).length=n:=by unfold pl;simp
theorem iN (n:Nat):pl (n+1)=pl n++[(n:Int)]:=by
 unfold pl;rw[List.range_succ,List.map_append];rfl
theorem iq {n i:Nat}(h:i < n):(pl n)[i]? = some (i:Int):=by
 unfold pl;rw[List.getElem?_map,List.getElem?_range h];rfl
theorem hV (n:Nat):(pl n).Nodup:=by
 induction n with
 | zero=>unfold pl;simp
 | succ n ih =>
  rw[iN];refine List.nodup_append.mpr ⟨ih,by simp,?_⟩
  intro a ha b hb e;have:=mem_pl.mp ha;have hb':b=(n:Int):=by simpa using hb
  omega
theorem bH {α:Type}(l:List α)(j:Nat)(x:α):(l.take j++x::l.drop j).Perm (x::l):=by
 have:=List.perm_middle (a:=x) (l₁:=l.take j) (l₂:=l.drop j);rw[List.take_append_drop]at this;exact this
theorem names_step {l:List Int}{k:Nat}(h:l.Perm (pl k))(j:Nat):(l.take j++(k:Int)::l.drop j).Perm (pl (k+1)):=by
 refine(bH l j _).trans ?_;rw[iN];exact(h.cons _).trans (List.perm_append_comm (l₁:=[(k:Int)]) (l₂:=pl k))
def ends (r:Road):Int×Int:=(r.1,r.2.1)
theorem Joins.of_ends {r q:Road}(e:ends r=ends q){u w:Int}(j:Joins q u w):Joins r u w:=by
 have e1:r.1=q.1:=(Prod.mk.inj e).1;have e2:r.2.1=q.2.1:=(Prod.mk.inj e).2;unfold Joins at *;rw[e1,e2];exact j
theorem Tr.same_ends {rs:List Road}{vs:List Int}(t:Tr rs vs):∀{rs':List Road},(rs'.map ends).Perm (rs.map ends)->Tr rs' vs:=by
 induction t with
 | one v =>
  intro rs' h;have e:=h.eq_nil;have:rs'=[]:=by simpa using e
  rw[this];exact .one v
 | @hang rs rs2 vs vs' u w r t hu hw j p q ih =>
  intro rs' h;have h1:(rs'.map ends).Perm (ends r::rs.map ends):=h.trans (p.map ends);have hm:ends r∈rs'.map ends:=h1.mem_iff.mpr List.mem_cons_self;obtain⟨r',hr',e⟩:=List.mem_map.mp hm;have hp:=List.perm_cons_erase hr';have h2:(ends r::(rs'.erase r').map ends).Perm (ends r::rs.map ends):=by
   have:=(hp.map ends).symm.trans h1;rw[List.map_cons,e]at this;exact this
  exact .hang (ih h2.cons_inv) hu hw (j.of_ends e) hp q
structure Tree (n:Nat) (rs:List Road):Prop where
 lo:1≤n
 hi:n≤12
 tr:Tr rs (pl n)
 len:∀r∈rs,1≤r.2.2
theorem Tree.length {n:Nat}{rs:List Road}(t:Tree n rs):rs.length+1=n:=by
 have:=t.tr.length;rw[bY]at this;exact this
theorem Tree.valid {n:Nat}{rs:List Road}(t:Tree n rs):∀r∈rs,Valid n r:=fun r hr=>by
 obtain⟨h1,h2,h3⟩:=t.tr.places r hr;have a:=mem_pl.mp h1;have b:=mem_pl.mp h2;exact⟨a.1,a.2,b.1,b.2,h3,t.len r hr⟩
theorem Tree.conn {n:Nat}{rs:List Road}(t:Tree n rs):Conn n rs:=fun P p0 hP v h1 h2=>by
 have lo:=t.lo;exact t.tr.whole hP 0 (mem_pl.mpr ⟨by omega,by omega⟩) v (mem_pl.mpr ⟨h1,h2⟩) p0
theorem Tree.isTree {n:Nat}{rs:List Road}(t:Tree n rs):IsTree n (rs.map rowI):=by
 have:=t.lo;have:=t.hi;have hl:=t.length;refine⟨by omega,by omega,?_,rs,rfl,t.valid,t.conn⟩
 rw[List.length_map];omega
theorem Tree.leaf {n:Nat}{rs:List Road}(t:Tree n rs)(h:1 < n):∃v∈pl n,deg rs v=1:=by
 refine t.tr.leaf fun e=>?_;have:=t.length;rw[e]at this;simp at this;omega
theorem Tree.rehang {n:Nat}{rs:List Road}(t:Tree n rs){p o:Int}(hp:p∈pl n)(ho:o∈pl n)(hne:o≠p)(hd:deg rs p=1){f:Road->Road}(hf:∀r,Joins (f r) o p)(hl:∀r,(f r).2.2=r.2.2):Tree n (rs.map fun r=>if inc p r=true then f r else r):=by
 refine⟨t.lo,t.hi,t.tr.rehang hp ho hne hd hf,fun r hr=>?_⟩;obtain⟨q,hq,rfl⟩:=List.mem_map.mp hr
 split
 . rw[hl];exact t.len q hq
 . exact t.len q hq
theorem Tree.longer {n:Nat}{rs:List Road}(t:Tree n rs){i:Nat}{r:Road}(hi:rs[i]? = some r){l:Int}(hl:1≤l):Tree n (rs.set i (r.1,r.2.1,l)):=by
 obtain⟨hlt,he⟩:=List.getElem?_eq_some_iff.mp hi;have e:(rs.set i (r.1,r.2.1,l)).map ends=rs.map ends:=by
  rw[List.map_set];have:ends (r.1,r.2.1,l)=(rs.map ends)[i]'(by simpa using hlt):=by
   rw[List.getElem_map,he];rfl
  rw[this];exact List.set_getElem_self _
 refine⟨t.lo,t.hi,t.tr.same_ends (by rw[e]),fun q hq=>?_⟩
 rcases List.mem_or_eq_of_mem_set hq with h | h
 . exact t.len q h
 . rw[h];exact hl
theorem gx {rs:List Road}{names:List Int}{k o:Nat}(t:Tr rs (names.take k))(nd:names.Nodup)(ho:o < k)(hk:k < names.length){u w:Int}(hu:names[o]? = some u)(hw:names[k]? = some w){r:Road}(j:Joins r u w)(i:Nat):Tr (rs.take i++r::rs.drop i) (names.take (k+1)):=by
 have e:names.take (k+1)=names.take k++[w]:=by rw[List.take_add_one,hw];rfl
 refine .hang t (u:=u) (w:=w) (r:=r) ?_ ?_ j (bH rs i r) ?_
 . refine List.mem_iff_getElem?.mpr ⟨o,?_⟩;rw[List.getElem?_take_of_lt ho];exact hu
 . intro hm;have nd':(names.take (k+1)).Nodup:=nd.sublist (List.take_sublist _ _);rw[e]at nd';exact(List.nodup_append.mp nd').2.2 w hm w (by simp) rfl
 . rw[e];exact List.perm_append_comm (l₁:=names.take k) (l₂:=[w])
end Tw
namespace Tw
open PySem L2
def zV (z:List Int):List V:=z.map V.int
structure RowsAt (H:Hp) (a:Addr) (as:List Addr) (zss:List (List Int)):Prop where
 top:H a=some (.lst (as.map V.ref))
 len:as.length=zss.length
 row:∀(i:Nat) (p:Addr) (z:List Int),as[i]? = some p->zss[i]? = some z->H p=some (.lst (zV z))
theorem RowsAt.mono {H H':Hp}{a:Addr}{as:List Addr}{zss:List (List Int)}(h:RowsAt H a as zss)(s:Same H H'):RowsAt H' a as zss:=
 ⟨s _ _ h.top,h.len,fun i p z e1 e2=>s _ _ (h.row i p z e1 e2)⟩
theorem RowsAt.get {H:Hp}{a:Addr}{as:List Addr}{zss:List (List Int)}(h:RowsAt H a as zss){i:Nat}{z:List Int}(e:zss[i]? = some z):∃p,as[i]? = some p/\H p=some (.lst (zV z)):=by
 have hi:i < as.length:=by rw[h.len];exact(List.getElem?_eq_some_iff.mp e).1
 exact⟨as[i],by simp[hi],h.row i _ z (by simp[hi]) e⟩
theorem lst_inj {xs ys:List V}(h:HO.lst xs=HO.lst ys):xs=ys:=by injection h
theorem RowsAt.ne_top {H:Hp}{a:Addr}{as:List Addr}{zss:List (List Int)}(h:RowsAt H a as zss)(hz:∀z∈zss,z≠[]):a∉as:=fun hm=>by
 obtain⟨i,hi⟩:=List.mem_iff_getElem?.mp hm;have hil:i < zss.length:=by rw[←h.len];exact(List.getElem?_eq_some_iff.mp hi).1
 have q:=h.row i a zss[i] hi (by simp[hil])
 rw[h.top]at q;have e:=lst_inj (Option.some.inj q);have hne:=hz _ (List.getElem_mem hil);cases hzz:zss[i]with
 | nil=>exact hne hzz
 | cons x t =>
  rw[hzz]at e;cases as with
  | nil=>simp[zV]at e
  | cons b bs=>simp[zV]at e
structure RoadsAt (H:Hp) (a:Addr) (as:List Addr) (rs:List Road):Prop where
 rows:RowsAt H a as (rs.map rowI)
 nd:as.Nodup
theorem RoadsAt.mono {H H':Hp}{a:Addr}{as:List Addr}{rs:List Road}(h:RoadsAt H a as rs)(s:Same H H'):RoadsAt H' a as rs:=⟨h.rows.mono s,h.nd⟩
theorem RoadsAt.get {H:Hp}{a:Addr}{as:List Addr}{rs:List Road}(h:RoadsAt H a as rs){i:Nat}{r:Road}(e:rs[i]? = some r):∃p,as[i]? = some p/\H p=some (.lst [.int r.1,.int r.2.1,.int r.2.2]):=
 h.rows.get (z:=rowI r) (by rw[List.getElem?_map,e];rfl)
theorem RoadsAt.len {H:Hp}{a:Addr}{as:List Addr}{rs:List Road}(h:RoadsAt H a as rs):as.length=rs.length:=by have:=h.rows.len;rw[List.length_map]at this;exact this
theorem RoadsAt.ne_top {H:Hp}{a:Addr}{as:List Addr}{rs:List Road}(h:RoadsAt H a as rs):a∉as:=h.rows.ne_top fun z hz=>by
 obtain⟨r,_,rfl⟩:=List.mem_map.mp hz;simp[rowI]
def dV (d:List (Int×Int)):List (Key×V):=d.map fun p=>(Sum.inl p.1,V.int p.2)
theorem dL (d:List (Int×Int)):(dV d).length=d.length:=by unfold dV;simp
theorem iy (d:List (Int×Int))(k v:Int):putK (dV d) (Sum.inl k:Key) (V.int v)=dV (put d k v):=by
 have e:((dV d).any fun kv=>decide (kv.1=(Sum.inl k:Key)))=d.any fun p=>decide (p.1=k):=by
  unfold dV;rw[List.any_map]
  congr 1
  funext p
  simp only[Function.comp];rw[ji];by_cases h:p.1=k
  . simp[h]
  . simp[h]
 unfold putK put;rw[e]
 split
 . unfold dV;rw[List.map_map,List.map_map];refine List.map_congr_left fun p _=>?_;simp only[Function.comp];by_cases h:p.1=k
   . rw[if_pos (by rw[h]),if_pos h]
   . rw[if_neg (fun q=>h (Sum.inl.inj q)),if_neg h]
 . unfold dV;rw[List.map_append];rfl
theorem dV_val (d:List (Int×Int))(k:Int):(valV (dV d) (Sum.inl k:Key)).isSome=decide (k∈d.map (·.1)):=by
 rw[←fo];unfold dV;rw[List.any_map,Bool.eq_iff_iff,List.any_eq_true,decide_eq_true_iff,List.mem_map];constructor
 . rintro⟨p,hp,e⟩;exact⟨p,hp,Sum.inl.inj (of_decide_eq_true e)⟩
 . rintro⟨p,hp,e⟩;exact⟨p,hp,decide_eq_true (by show(Sum.inl p.1:Key)=Sum.inl k;rw[e])⟩
theorem put_new {d:List (Int×Int)}{k v:Int}(h:k∉d.map (·.1)):put d k v=d++[(k,v)]:=by
 unfold put;rw[if_neg];intro q;obtain⟨p,hp,e⟩:=List.any_eq_true.mp q;exact h (List.mem_map.mpr ⟨p,hp,of_decide_eq_true e⟩)
structure NearAt (H:Hp) (a:Addr) (ds:List Addr) (nr:List (List (Int×Int))):Prop where
 top:H a=some (.lst (ds.map V.ref))
 len:ds.length=nr.length
 row:∀(i:Nat) (p:Addr) (d:List (Int×Int)),ds[i]? = some p->nr[i]? = some d->H p=some (.dK (dV d))
def ck (n:Nat)(rs:List Road):List (List (Int×Int)):=(pl n).map (nbOf rs)
theorem bW {n:Nat}{rs:List Road}{i:Nat}(h:i < n):(ck n rs)[i]? = some (nbOf rs (i:Int)):=by
 unfold ck;rw[List.getElem?_map,iq h];rfl
theorem bS (n:Nat)(rs:List Road):(ck n rs).length=n:=by unfold ck;rw[List.length_map,bY]
theorem ac {H:Hp}{p:Addr}{o:HO}(h:H p=none):Same H (upd H p o):=fun b u e=>by rw[ae (af e h)];exact e
def But (a:Addr)(H H':Hp):Prop:=∀b o,H b=some o->b≠a->H' b=some o
theorem But.of {a:Addr}{H H':Hp}(s:Same H H'):But a H H':=fun b o e _=>s b o e
theorem aO {n:Nat}(h:n≤1000):n≤sizeLine:=Nat.le_of_lt (aR h)
end Tw
namespace L2
open PySem PySem.Spec PyProof.Rows
theorem cK {lo:Int}{n:Nat}{tf:TT}{te:TE}{σ:St}{H1:Hp}{D:Addr}{Q:Hp->Prop}(Pv:Nat->List V->Hp->Prop)(hD:∀i ys H,Pv i ys H->H D=some (.lst ys))(h0:Pv 0 [] (upd H1 D (.lst [])))(hs:∀i ys H,i < n->Pv i ys H->tf (σ++[some (.int (lo+i))]) H fun c H4=>if c=true then te (σ++[some (.int (lo+i))]) H4 fun z H5=>H5 D=some (.lst ys)/\ys.length < sizeLine/\Pv (i+1) (ys++[z]) (upd H5 D (.lst (ys++[z])))else Pv (i+1) ys H4)(hd:∀ys H,Pv n ys H->Q H):∃W:Nat->Nat->List V->Hp->Prop,(∃m,W 0 m [] (upd H1 D (.lst [])))/\∀i m ys H2,W i m ys H2->H2 D=some (.lst ys)/\(((Itr lo n).stop i H2/\Q H2)∨((Itr lo n).go i H2/\∃N:List V->Hp->Prop,(∀ys' H',N ys' H'->∃m',m' < m/\W (i+1) m' ys' H')/\∀y H3,(Itr lo n).yld i H2 y H3->tf (σ++[some y]) H3 fun c H4=>if c=true then te (σ++[some y]) H4 fun z H5=>H5 D=some (.lst ys)/\ys.length < sizeLine/\N (ys++[z]) (upd H5 D (.lst (ys++[z])))else N ys H4)):=by
 refine⟨fun i m ys H=>m=n - i/\i≤n/\Pv i ys H,⟨n,by simp,Nat.zero_le _,h0⟩,?_⟩
 rintro i m ys H ⟨rfl,hi,p⟩;refine⟨hD i ys H p,?_⟩;by_cases hlt:i < n
 . refine .inr ⟨hlt,Pv (i+1),fun ys' H' p'=>⟨n - (i+1),by omega,rfl,hlt,p'⟩,fun y H' yl=>?_⟩
   obtain⟨e,e2⟩:=yl;subst e e2;exact hs i ys _ hlt p
 . have e:i=n:=by omega
   subst e;exact .inl ⟨Nat.le_refl _,hd ys H p⟩
theorem cq {K:PySem.W.Frag}{a:Addr}{xs:List V}{tf:TT}{te:TE}{σ:St}{H1:Hp}{D:Addr}{Q:Hp->Prop}(Pv:Nat->List V->Hp->Prop)(hD:∀i ys H,Pv i ys H->H D=some (.lst ys)/\SqL K H a xs)(h0:Pv 0 [] (upd H1 D (.lst [])))(hs:∀i y ys H,xs[i]? = some y->Pv i ys H->tf (σ++[some y]) H fun c H4=>if c=true then te (σ++[some y]) H4 fun z H5=>H5 D=some (.lst ys)/\ys.length < sizeLine/\Pv (i+1) (ys++[z]) (upd H5 D (.lst (ys++[z])))else Pv (i+1) ys H4)(hd:∀ys H,Pv xs.length ys H->Q H):∃W:Nat->Nat->List V->Hp->Prop,(∃m,W 0 m [] (upd H1 D (.lst [])))/\∀i m ys H2,W i m ys H2->H2 D=some (.lst ys)/\(((Itl K a).stop i H2/\Q H2)∨((Itl K a).go i H2/\∃N:List V->Hp->Prop,(∀ys' H',N ys' H'->∃m',m' < m/\W (i+1) m' ys' H')/\∀y H3,(Itl K a).yld i H2 y H3->tf (σ++[some y]) H3 fun c H4=>if c=true then te (σ++[some y]) H4 fun z H5=>H5 D=some (.lst ys)/\ys.length < sizeLine/\N (ys++[z]) (upd H5 D (.lst (ys++[z])))else N ys H4)):=by
 refine⟨fun i m ys H=>m=xs.length - i/\i≤xs.length/\Pv i ys H,⟨xs.length,by simp,Nat.zero_le _,h0⟩,?_⟩
 rintro i m ys H ⟨rfl,hi,p⟩;obtain⟨q1,q2⟩:=hD i ys H p;refine⟨q1,?_⟩;by_cases hlt:i < xs.length
 . refine .inr ⟨⟨xs,xs[i],q2,by simp[hlt]⟩,Pv (i+1),fun ys' H' p'=>⟨xs.length - (i+1),by omega,rfl,hlt,p'⟩,fun y H' yl=>?_⟩
   obtain⟨e,yl⟩:=yl;subst e;exact hs i y ys _ (yl xs q2) p
 . have e:i=xs.length:=by omega
   subst e;exact .inl ⟨⟨xs,q2,Nat.le_refl _⟩,hd ys H p⟩
theorem yesI {A B:Hp->Prop}{σ:St}{H:Hp}(h:A H):tYes σ H (fun c H4=>if c=true then A H4 else B H4):=iteT (A:=A H) (B:=B H) h
theorem iteD {c:Prop}[Decidable c]{A B:Prop}(h1:c->A)(h2:¬c->B):if decide c=true then A else B:=by
 by_cases h:c
 . rw[decide_eq_true h];exact iteT (h1 h)
 . rw[decide_eq_false h];exact iteF (h2 h)
theorem iteB {b:Bool}{A B:Prop}(h1:b=true->A)(h2:b=false->B):if b=true then A else B:=by
 cases b with
 | true=>exact iteT (h1 rfl)
 | false=>exact iteF (h2 rfl)
theorem iteN {b:Bool}{A B:Prop}(h1:b=false->A)(h2:b=true->B):if (!b)=true then A else B:=by
 cases b with
 | true=>exact iteF (h2 rfl)
 | false=>exact iteT (h1 rfl)
end L2
namespace L2
open PySem PySem.Spec PyProof.Rows
open PySem.Builtin.Int (intBits)
section
variable {X:Cx}{tg:Expr}
theorem ixK (K:PySem.W.Frag)(h:X.K=K:=by rfl):IxR X (rIxL K):=h▸b7
theorem slK (K:PySem.W.Frag)(h:X.K=K:=by rfl):SlR X (rSlL K):=h▸iE
theorem inK (K:PySem.W.Frag)(h:X.K=K:=by rfl):OpR X (compareOp .In) (rIn K false):=h▸gn
theorem jg (K:PySem.W.Frag)(h:X.K=K:=by rfl):OpR X (compareOp .NotIn) (rIn K true):=h▸op_notIn_seq
theorem bd (K:PySem.W.Frag){l:Expr}{tl:TE}(hl:PE X l tl)(h:X.K=K:=by rfl):PI X tg l (jD K tl):=h▸gO hl
theorem lenK (K:PySem.W.Frag)(h:X.K=K:=by rfl):cE X (.builtin "len") (fun xs H Q=>∃p ys,xs=[.ref p]/\(SqL K H p ys∨SqT K H p ys)/\Q (.int ys.length) H):=h▸bB
theorem jC (K:PySem.W.Frag)(h:X.K=K:=by rfl):cE X (.type "list") (fun xs H Q=>∃p ys,xs=[.ref p]/\(SqL K H p ys∨SqT K H p ys)/\∀l,H l=none->Q (.ref l) (upd H l (.lst ys))):=h▸call_list_of
theorem sumK (K:PySem.W.Frag)(hc:X.calm=true)(h:X.K=K:=by rfl):cE X (.builtin "sum") (fun xs H Q=>∃(p:Addr) (ns:List Int),xs=[.ref p]/\SqL K H p (ns.map V.int)/\Q (.int ns.sum) H):=h▸call_sum hc
theorem isinstK (K:PySem.W.Frag)(h:X.K=K:=by rfl):cE X (.builtin "isinstance") (fun xs H Q=>∃x t n b,xs=[x,.ty n]/\TyOf K H x t/\PySem.W.kitOne K t (.type n)=some b/\Q (.bl b) H):=h▸dC
theorem dG:OpR X (binaryOp .Mult) (rI IntMulOk fun i j=>.int (i*j)):=opI fun _ _ _ _ _ _ _ hc q=>mul_int q hc
def Bits (i:Int):Prop:=intBits i≤2 ^ 20
theorem hX {a b:Int}{m n:Nat}(ha:intBits a≤m)(hb:intBits b≤n)(h:m+n≤134217728):IntMulOk a b:=PyProof.Rows.mulOk_of_bits ha hb h
end
theorem bits_of_lay {ns:List Int}(h:PySem.W.WData.layableAll [PySem.W.WData.list (ns.map PySem.W.WData.int)]=true):∀n∈ns,Bits n:=by
 intro n hn;have h1:(PySem.W.WData.list (ns.map PySem.W.WData.int)).layable=true:=(PySem.W.layW_cons h).1;have h2:(PySem.W.WData.int n).layable=true:=PySem.W.layableW_item h1 _ (List.mem_map.mpr ⟨n,hn,rfl⟩);exact PyData.bits_of_layable h2
end L2
namespace Att
open PySem PySem.W PySem.Calls PyProof.Rows
theorem attach_bits {l:OpenLaw}{n:Nat}{q:Program}{loose:List Str}{XP:(Str->Option Value)->Heap->Prop}{YP:World->Heap->Prop}{d:DefRec}(hn:l.most=some n)(hdf:d.params.defaults=[])(call:∀(w:World) (s₀ s₁:Shared) (mg mb:Str->Option Value) (fa:Addr) (o:Obj) (pm cd doc:Value) (a:Addr) (vs:List Value) (ns:List Int),Ground q loose [] XP w s₀ mg mb s₁.heap->YP w s₁.heap->s₁.heap.get? fa=some o->o.data = .func (docDef d.name d.params d.body d.scope pm cd doc)->s₁.heap.CodeRec cd d.name->mg d.name=some (.ref fa)->s₁.heap.get? a=some { cls:=.type "list",data:=.seq vs.toArray }->IntsAre vs ns->ns.length≤n->(∀n∈ns,L2.Bits n)->s₁.gens = #[] →
 codeAny (model l.prog w) callerA (.call (.ref fa) ⟨[.ref a],[]⟩) (fun r s'=>r = .ok (.ret (.bool true))/\OldK s₁.heap s'.heap/\s'.os=s₁.os/\AllBare s'.gens) s₁) :
 WalkO q loose XP YP l.row.toRowW d [] (fun f vs=>PySem.call f vs):=by
 intro w s₀ s₁ mg mb G Y fa o pm cd doc dV kV ho hd hcd hD hmg hg args vals as hpre hlay hrd hwl hlo;obtain rfl:dV = .none:=Dflts.none hD hdf;obtain rfl:kV = .none:=Dflts.noKw hD;obtain⟨a,vs,ns,rfl,rfl,hobj,hints,hlen⟩:=Att.script_of hn hpre hwl;refine enter_call (codeAny_mono (call w s₀ s₁ mg mb fa o pm cd doc a vs ns G Y ho (fd_plain hd) hcd hmg hobj hints hlen (L2.bits_of_lay hlay) hg) fun r s' hq=>?_);obtain⟨rfl,h2,h3,h4⟩:=hq;exact⟨.inl ⟨.bool true,.bool true,[],rfl,fun _=>rfl,.bool true,Att.post_true l _,fun _=>⟨List.Pairwise.nil,fun _ hm=>(nomatch hm)⟩⟩,h2,h3,h4⟩
end Att
namespace L2
open PySem PySem.Spec PyProof.Rows
theorem walk_bits {l:PySem.W.OpenLaw}{n k:Nat}{q:Program}{loose:List Str}{XP:(Str->Option Value)->Heap->Prop}{YP:World->Heap->Prop}{d:DefRec}{K:Params->PySem.W.Frag}{CX:CXT}{sp:PySem.W.Frag->Sp}{x:Str}(hn:l.most=some n)(hn2:n≤sizeLine)(hdf:d.params.defaults=[])(hr:Room k callerA)(hY:∀(w:World) (h:Heap),YP w h->(K w.params).In h)(F:∀(w:World) (mg:Str->Option Value) (fa:Addr) (h:Heap),(K w.params).In h->h.Ns mainGlobals mg->mg d.name=some (.ref fa)->∃fd:FuncData,(∀(s:Shared) (u:Value),BindsTo s fd ⟨[u],[]⟩ [(x,u)])/\∀base:Heap,(K w.params).In base->base.Ns mainGlobals mg->FnOk l.prog w (K w.params) mg base CX k fa fd [x] (sp (K w.params)))(hsp:∀(K:PySem.W.Frag) (H:Hp) (a:Addr) (ns:List Int),ns.length≤n->(∀n∈ns,Bits n)->Only H->SqL K H a (ns.map V.int)->sp K [.ref a] H (fun v _=>v = .bl true) fun _ _ _=>False)(hCX:∀(H:Hp) (s:Shared) (e:Value) (s':Shared),CX [] H s (fun _ _ _=>False) e s'->False):PySem.W.WalkO q loose XP YP l.row.toRowW d [] (fun f vs=>PySem.call f vs):=by
 refine Att.attach_bits hn hdf fun w s₀ s₁ mg mb fa o pm cd doc a vs ns G Y ho hd hcd hmg hobj hints hlen hbits hg=>?_;have KX:=hY w _ Y;obtain⟨fd,hb,hF⟩:=F w mg fa _ KX G.T.g hmg;exact law_call KX G.T.g G.T.b G.T.builtins G.T.nolimit G.T.bmain hg hobj hints (Nat.le_trans hlen hn2) hr hF hb (fun H hO hS=>hsp _ H a ns hlen hbits hO hS) fun H e s'=>hCX H s₁ e s'
end L2
namespace L2
open PySem PySem.Spec PyProof.Rows
section
variable {prog:Program}{w:World}{A:Around}{E:Value->Shared->Prop}{s:Shared}
theorem f9 {h h':Heap}{t it:Addr}{its:Array Value}(hl:h.IsList t its)(sb:Heap.SameBut it h h')(ne:t≠it):h'.IsList t its:=by
 obtain⟨o,e,r⟩:=hl;exact⟨o,(sb.2 t ne).trans e,r⟩
theorem gy {it t:Addr}{items:Array Value}(hne:t≠it):∀(n i:Nat) (s:Shared) (Q:List Value->Shared->Prop),s.heap.IsListIter it t i->s.heap.IsList t items->i+n≤items.size->(∀h',Heap.IsListIter h' it t (i+n)->Heap.SameBut it s.heap h'->Q ((items.toList.drop i).take n) { s with heap:=h' })->wpAny (model prog w) A (draw (.ref it) n) Q E s
 | 0,i,s,Q,hit,_,_,hQ=>by
  show wpAny _ _ (pure []) Q E s;exact wpAny_pure (by simpa using hQ s.heap hit (Heap.SameBut.refl ..))
 | n+1,i,s,Q,hit,ht,hle,hQ=>by
  have hlt:i < items.size:=by omega
  show wpAny _ _ (pyNext (.ref it) >>= _) Q E s;refine wpAny_bind (wpAny_pyNext_list_item hit ht (x:=items[i]) (by simp[hlt]) fun h₁ hit₁ hs₁=>?_)
  refine wpAny_bind (wpAny_holding (gy hne n (i+1) _ _ hit₁ (f9 ht hs₁ hne) (by omega) fun h₂ hit₂ hs₂=>wpAny_pure ?_))
  have hd:items.toList.drop i=items[i]::items.toList.drop (i+1):=by simp[List.drop_eq_getElem_cons,hlt]
  have:=hQ h₂ (by rw[show i+(n+1)=i+1+n by omega];exact hit₂) (hs₁.trans hs₂)
  rw[hd,List.take_succ_cons]at this;exact this
theorem unpackItems_list {t:Addr}{items:Array Value}{Q:List Value->Shared->Prop}(hh:A.handled=none)(ht:s.heap.IsList t items)(hQ:∀h',Heap.ExtBut s.heap.objs.size s.heap h'->Q items.toList { s with heap:=h' }):wpAny (model prog w) A (unpackItems (.ref t) items.size none) Q E s:=by
 have hlt:t≠s.heap.objs.size:=by obtain⟨o,ho,_⟩:=ht;exact Nat.ne_of_lt (Heap.lt_size ho)
 unfold unpackItems;refine wpAny_bind ?_
 . unfold notIterableAtAll;refine wpAny_bind (wpAny_specialOf ht.typeIs slot_list_iter.lookup ?_);refine wpAny_pure ?_;simp only[Bool.false_eq_true,if_false];refine wpAny_bind (wpAny_holding (wpAny_pyIter_list ht ?_));refine wpAny_bind (wpAny_holding (gy hlt items.size 0 _ _ ⟨_,Heap.get?_push_size _ rfl,rfl,rfl⟩ (ht.push _) (by omega) fun h₁ hit₁ hs₁=>?_))
   have hall:List.take items.size (List.drop 0 items.toList)=items.toList:=by
    rw[List.drop_zero];exact List.take_of_length_le (by simp)
   rw[hall];rw[if_neg (by simp)]
   have ht₁:Heap.IsList h₁ t items:=f9 (ht.push _) hs₁ hlt;refine wpAny_bind (wpAny_holding (wpAny_pyNext_list_end hh hit₁ ht₁ (by simp) fun h₂ he₂=>?_))
   simp only[Option.isSome_none,Bool.false_eq_true,if_false];refine wpAny_pure (hQ h₂ fun b o hb e=>he₂ b o hb (hs₁.extBut b o hb (Heap.get?_push_of_some _ e)))
theorem assign_Tuple_list {env:Env}{elts:List Expr}{x1}{pos:Pos}{t:Addr}{items:Array Value}{Q:Unit->Shared->Prop}(hh:A.handled=none)(ht:s.heap.IsList t items)(hn:(assignEach elts env).length=items.size)(hstar:(assignEach elts env).findIdx? (·.1)=none)(h:∀h',Heap.ExtBut s.heap.objs.size s.heap h'->wpAny (model prog w) A (assignInOrder ((assignEach elts env).map (·.2)) items.toList) Q E { s with heap:=h' }) :
 wpAny (model prog w) A (assign (.Tuple elts x1 pos) env (.ref t)) Q E s:=by
 rw[assign_Tuple];refine wpAny_bind (wpAny_standAt ?_);unfold unpack;rw[hn,hstar];exact wpAny_bind (wpAny_holding (unpackItems_list hh ht h))
end
section
variable {X:Cx}{pos:Pos}
def gLst (K:PySem.W.Frag)(n:Nat)(t:TGs):TG:=fun v σ H Q=>∃a xs,v = .ref a/\SqL K H a xs/\xs.length=n/\t xs σ H Q
theorem pg_lst {es:List Expr}{k:Nat}{t:TGs}{n:Nat}(hc:X.calm=true)(h:PGs X es t)(hn:(assignEach es X.env).length=n:=by rfl)(hst:(assignEach es X.env).findIdx? (·.1)=none:=by rfl):PG X (.Tuple es k pos) (gLst X.K n t):=by
 intro pins s σ H v u Q I r hw;obtain⟨a,xs,e1,hq,hl,hw⟩:=hw;subst e1;cases r;obtain⟨its,rv,ht,hz⟩:=I.list hq;refine assign_Tuple_list (I.ok.hd hc) ht.isList (by simp[hn,←hl,rv.length]) hst fun h' hx=>?_
 have I1:Inv X pins σ H { s with heap:=h' }:=I.kept (t':=s.toks) fun b o e=>hx b o (Nat.ne_of_lt (Heap.lt_size e)) e
 exact h pins _ σ H xs _ Q I1 (by simpa using rv) hw
end
end L2
namespace L2
open PySem PySem.Spec PyProof.Rows
section
variable {X:Cx}
theorem gc {x:V}:∀{xs:List V} {us:List Value},Vals xs us->xs.all cf=true->us.countP (eqU x)=xs.countP fun y=>eqV y x
 | _,_,.nil,_=>rfl
 | y::xs,u::us,.cons r t,f=>by
  rw[List.all_cons,Bool.and_eq_true]at f;rw[List.countP_cons,List.countP_cons,iu r f.1,gc t f.2]
def rCount:V->List V->Hp->VK->Prop:=fun x vs H Q=>∃l xs y,x = .ref l/\vs=[y]/\H l=some (.lst xs)/\cf y=true/\xs.all cf=true/\Q (.int (xs.countP fun z=>eqV z y:Nat)) H
theorem mt_count:MtM X "list.count" rCount:=by
 intro pins s σ H x vs v us Q I rx rv h;obtain⟨l,xs,y,rfl,rfl,hH,fy,fx,q⟩:=h;cases rx;obtain⟨u,rfl,ru⟩:=rv.one;obtain⟨z,its,n,r,hl,e⟩:=I.lstM hH;refine call_meets PySem.F.slot_list_count ⟨_,e,rfl⟩ PySem.F.entry_list_count (PySem.F.args_list_count_2 _ _) (SeqAt.list_countAt l its.toArray n none #[] u (eqU y)) ⟨e,fun w hw=>dh ru fy r fx w (by simpa using hw),?_⟩
 refine⟨.int _,H,I.tok _,⟨_,rfl⟩,?_⟩;have ec:its.toArray.toList.countP (eqU y)=xs.countP fun z=>eqV z y:=gc r fx;rw[ec];exact q
end
end L2
namespace L2
open PySem PySem.Spec PyProof.Rows
section
variable {X:Cx}
theorem minL (K:PySem.W.Frag)(hc:X.calm=true)(hK:X.K=K:=by rfl):cE X (.builtin "min") (fun xs H Q=>∃(p:Addr) (ns:List Int),xs=[.ref p]/\SqL K H p (ns.map V.int)/\0 < ns.length/\∀M,M∈ns->(∀a∈ns,M≤a)->Q (.int M) H):=by
 subst hK;intro pins s σ H xs us Q I r h;obtain⟨p,ns,rfl,hp,hne,q⟩:=h;obtain⟨u,rfl,ru⟩:=f6 r;cases ru;obtain⟨its,rv,pl,hz⟩:=I.list hp;have hi:=eh rv;obtain⟨zs,e⟩:=hi.allInts.items;have hns:ns=zs.toList.map (·.1):=by
  rw[←hi.numsOf,←nums_intItems,←e]
 have hsz:0 < zs.size:=by
  have h3:=hne;rw[hns,List.length_map,Array.length_toList]at h3;exact h3
 have hl:s.heap.IsList p (intItems zs):=e▸pl.isList;refine min_intList (I.ok.hd hc) hl hsz fun v h' tk hv hk=>?_;obtain⟨t,rfl⟩:=intItems_at hv;obtain⟨h1,h2⟩:=argBest_lt (numAt zs) (zs.size - 1);refine⟨.int _,H,I.kept hk,⟨t,rfl⟩,q _ ?_ fun a ha=>?_⟩
 . rw[hns,numAt_eq];exact getD_mem (by rw[List.length_map,Array.length_toList];omega)
 . rw[hns]at ha;obtain⟨j,hj,rfl⟩:=mem_getD ha;rw[List.length_map,Array.length_toList]at hj;rw[←numAt_eq];exact h2 j (by omega)
def dU (ns:List Int):Nat:=(firstMet (fun i=>ns.getD i 0) ns.length).length
def tLenSet (K:PySem.W.Frag)(te:TE):TE:=fun σ H Q=>te σ H fun x H1=>∃(p:Addr) (ns:List Int),x = .ref p/\SqL K H1 p (ns.map V.int)/\ns.length≤100/\Q (.int (dU ns)) H1
theorem pe_lenset {e:Expr}{te:TE}{p1 p2 pos pos2:Pos}(hc:X.calm=true)(hg1:Gl X "len")(hm1:X.mg "len" = none)(hg2:Gl X "set")(hm2:X.mg "set" = none)(he:PE X e te)(s1:starEach [e] X.env=[(false,eval e X.env)]:=by rfl)(s2:starEach [.Call (.Name "set" p2) [e] [] pos2] X.env=[(false,eval (.Call (.Name "set" p2) [e] [] pos2) X.env)]:=by rfl) :
 PE X (.Call (.Name "len" p1) [.Call (.Name "set" p2) [e] [] pos2] [] pos) (tLenSet X.K te):=by
 intro pins s σ H Q I h;refine wpAny_Call_Name_kw (ef I hg1 hm1 PySem.boot_len ?_ (by decide) (by decide))
 refine PyProof.Rows.callWith_builtin1 ?_ (by rw[s2];rfl) rfl
 rw[s2];refine Calls.spliced_cons ?_;refine wpAny_Call_Name_kw (ef I hg2 hm2 PyProof.Rows.boot_set ?_ (by decide) (by decide))
 refine PyProof.Rows.callWith_type1 ?_ (by rw[s1];rfl) rfl
 rw[s1];refine Calls.spliced_cons (thn (he pins s σ H _ I h) fun v s3 ⟨x,H1,I1,r1,q1⟩=>Calls.spliced_nil ?_);obtain⟨p,ns,rfl,hp,hl,q⟩:=q1;cases r1;obtain⟨its,rv,pl,hz⟩:=I1.list hp;have hi:=eh rv;have hil:=hi.length;have sc:(100:Nat)+1 < scanBound:=by decide
 refine call_set_list (I1.ok.hd hc) pl.isList (by simpa using hi) (by rw[List.size_toArray];omega) fun h' tk hS hk=>?_
 refine Calls.spliced_nil ?_;obtain⟨o,es,ep,t,ho,hex,hd,_,_,hb,hf,hn⟩:=hS;have I2:Inv X pins σ H1 { s3 with heap:=h',toks:=tk }:=I1.kept fun b o e=>hk b o (Heap.lt_size e) e
 refine call_len_set ho hex hd hf (Int.lt_trans (Int.ofNat_lt.mpr hb) (by decide)) ?_
 refine⟨.int _,H1,I2.tok _,⟨_,rfl⟩,?_⟩;rw[hn];have e:its.toArray.size=ns.length:=by rw[List.size_toArray];omega
 rw[e];exact q
end
section
variable {X:Cx}{es:List Expr}{t:TA}{te:TE}
theorem ba {l:List Expr}{p:Pos}(ha:PE X (.List l p) te)(hr:PA X es t):PA X (.List l p::es) (bZ te t):=a2 ha hr rfl
theorem aJ {a b:Expr}{p:Pos}(ha:PE X (.Subscript a b p) te)(hr:PA X es t):PA X (.Subscript a b p::es) (bZ te t):=a2 ha hr rfl
theorem aL {a b:Expr}{o:Operator}{p:Pos}(ha:PE X (.BinOp a o b p) te)(hr:PA X es t):PA X (.BinOp a o b p::es) (bZ te t):=a2 ha hr rfl
theorem az {c:Const}{k:Nat}{p:Pos}(ha:PE X (.Constant c k p) te)(hr:PA X es t):PA X (.Constant c k p::es) (bZ te t):=a2 ha hr rfl
end
end L2
namespace L2
open PySem PySem.Spec PyProof.Rows
section
variable {X:Cx}
def CDivB (i j:Int):Prop:=0 < j/\j < 2 ^ 200
theorem op_fdivB:OpR X (binaryOp .FloorDiv) (rI CDivB fun i j=>.int (i / j)):=opI fun i j _ _ _ _ _ hc q=>by
 have h1:(0:Int) < j:=hc.1;have h2:j < 2 ^ 200:=hc.2;refine floordiv_int (by omega) (by rw[Int.fdiv_eq_ediv_of_nonneg i (by omega)];exact q) (.inl (PyProof.noPylong_of_log2 ?_))
 have h3:j.natAbs < 2 ^ 200:=by omega
 exact Nat.lt_trans ((Nat.log2_lt (by omega)).mpr h3) (by decide)
theorem rc_rowsN {A:Around}{pins:List (Addr×Obj)}{s:Shared}{σ:St}{H:Hp}{a b:Addr}{as bs:List Addr}{xss yss:List (List V)}(I:Inv X pins σ H s)(ha:Rows2 X.K H a as xss)(hb:Rows2 X.K H b bs yss)(hd:∀p∈as,p∉bs)(hl:xss.length=yss.length)(hu:A.units+1 < cLine):SeqAt.RcNeAt A s (.ref a) (.ref b) (!(List.range xss.length).all fun j=>eqVs (xss.getD j []) (yss.getD j [])):=by
 obtain⟨us,ru,pu,_⟩:=I.list ha.at';obtain⟨vs,rv,pv,_⟩:=I.list hb.at';have l1:=ru.length;have l2:=rv.length;rw[List.length_map]at l1 l2;have n1:=ha.len;have n2:=hb.len;have hsz:us.toArray.size=vs.toArray.size:=by rw[List.size_toArray,List.size_toArray];omega
 have e:xss.length=us.toArray.size:=by rw[List.size_toArray];omega
 rw[e];refine SeqAt.RcNeAt.lists pu.isList pv.isList hsz (Nat.lt_of_succ_lt hu) fun j h1 h2=>?_;rw[List.size_toArray]at h1 h2;have j1:j < as.length:=by omega
 have j2:j < bs.length:=by omega
 have j3:j < xss.length:=by omega
 have j4:j < yss.length:=by omega
 obtain⟨u,hu',ru'⟩:=ru.get (i:=j) (x:=V.ref as[j]) (by simp[j1])
 obtain⟨v,hv',rv'⟩:=rv.get (i:=j) (x:=V.ref bs[j]) (by simp[j2])
 have e1:us.toArray[j] = .ref as[j]:=by
  obtain⟨_,q⟩:=List.getElem?_eq_some_iff.mp hu';cases ru';simpa using q
 have e2:vs.toArray[j] = .ref bs[j]:=by
  obtain⟨_,q⟩:=List.getElem?_eq_some_iff.mp hv';cases rv';simpa using q
 have g1:xss.getD j []=xss[j]:=by simp[List.getD_eq_getElem?_getD,j3]
 have g2:yss.getD j []=yss[j]:=by simp[List.getD_eq_getElem?_getD,j4]
 rw[e1,e2,g1,g2];obtain⟨q1,f1⟩:=ha.row j as[j] xss[j] (by simp[j1]) (by simp[j3])
 obtain⟨q2,f2⟩:=hb.row j bs[j] yss[j] (by simp[j2]) (by simp[j4])
 have ne:as[j]≠bs[j]:=fun e=>hd _ (List.getElem_mem j1) (e▸List.getElem_mem j2);exact SeqAt.EqAt.of_refs ne (iL (A:=A.in1) I q1 q2 f1 f2 hu).1
def rNeR (K:PySem.W.Frag):R2:=fun x y H Q=>∃a b as bs xss yss,x = .ref a/\y = .ref b/\Rows2 K H a as xss/\Rows2 K H b bs yss/\(∀p∈as,p∉bs)/\xss.length=yss.length ∧
 Q (.bl (!(List.range xss.length).all fun j=>eqVs (xss.getD j []) (yss.getD j []))) H
theorem op_neR (hu:X.A.units+1 < cLine):OpR X (compareOp .NotEq) (rNeR X.K):=by
 intro pins s σ H x y v u Q I rx ry h;obtain⟨a,b,as,bs,xss,yss,rfl,rfl,ha,hb,hd,hl,q⟩:=h;cases rx;cases ry;exact rc_rowsN I ha hb hd hl hu _ _ _ _ ⟨.bl _,H,I,rfl,q⟩
end
end L2
namespace L2
open PySem PySem.Spec PyProof.Rows
section
variable {X:Cx}{pins:List (Addr×Obj)}{σ:St}{H:Hp}{s:Shared}{h':Heap}
end
section
variable {X:Cx}
end
end L2
namespace L2
open PySem PySem.Spec PyProof.Rows
section
variable {X:Cx}
end
end L2
namespace L2
open PySem PySem.Spec PyProof.Rows
section
variable {X:Cx}
end
end L2
namespace L2
open PySem PySem.Spec PyProof.Rows
section
variable {prog:Program}{w:World}{A:Around}{E:Value->Shared->Prop}{s:Shared}{l:Addr}{xs:Array (Int×Tok)}
end
section
variable {X:Cx}
end
end L2
namespace L2
open PySem PySem.Spec PyProof.Rows
section
variable {P:Program}{w:World}{K:PySem.W.Frag}{mg:Str->Option Value}{base:Heap}{N:List Str}{qual:Str}{scope:Scope}{f:Addr}{cd:Value}{A:Around}{outer:List Env}{s:Shared}{H:Hp}{E:XK}
end
end L2
namespace L2
open PySem PySem.Spec PyProof.Rows
end L2
namespace L2
open PySem PySem.Spec PyProof.Rows
section
variable {X:Cx}{pins:List (Addr×Obj)}{σ:St}{H:Hp}{s:Shared}{x:Addr}
end
end L2
namespace L2
open PySem PySem.Spec PyProof.Rows PySem.W Builtin Builtin.ObjectAttr Builtin.Getset_descriptor
section
variable {prog:Program}{w:World}{A:Around}{E:Value->Shared->Prop}{hh:Heap}{g:Array GenState}{dr:Drawn}{t:Nat}{os:OsState}{x C:Addr}{ob:Obj}{K:PySem.W.Frag}
end
section
variable {X:Cx}
end
end L2
namespace L2
open PySem PySem.Spec PyProof.Rows
section
variable {P:Program}{w:World}{K:PySem.W.Frag}{mg:Str->Option Value}{base:Heap}{k:Nat}{f:Addr}{fd:FuncData}{ps:List Str}{sp sp':Sp}{CX:CXT}
end
end L2
namespace L2
open PySem PySem.Spec PyProof.Rows
section
variable {X:Cx}
end
structure Nam (mg:Str->Option Value) (x:Str) (C:Addr):Prop where
 mg:mg x=some (.ref C)
end L2
namespace L2
open PySem PySem.Spec PyProof.Rows
section
variable {X:Cx}
end
end L2
namespace Tw
open PySem L2
section
variable {K:PySem.W.Frag}
theorem eI {α:Type}{a D:Addr}{xs:List α}{el fv:α->V}{te:TE}{σ:St}{H:Hp}{Q:Hp->Prop}(ha:H a=some (.lst (xs.map el)))(hD:H D=none)(hl:xs.length≤1000)(hs:∀(i:Nat) (x:α),xs[i]? = some x->∀(H4:Hp) (Qv:VK),Same H H4->(∀H5,Same H4 H5->Qv (fv x) H5)->te (σ++[some (el x)]) H4 Qv)(hq:∀H2,H2 D=some (.lst (xs.map fv))->Same H H2->Q H2):∃W:Nat->Nat->List V->Hp->Prop,(∃m,W 0 m [] (upd H D (.lst [])))/\∀i m ys H2,W i m ys H2->H2 D=some (.lst ys)/\(((Itl K a).stop i H2/\Q H2)∨((Itl K a).go i H2/\∃N:List V->Hp->Prop,(∀ys' H',N ys' H'->∃m',m' < m/\W (i+1) m' ys' H')/\∀y H3,(Itl K a).yld i H2 y H3->tYes (σ++[some y]) H3 fun c H4=>if c=true then te (σ++[some y]) H4 fun z H5=>H5 D=some (.lst ys)/\ys.length < sizeLine/\N (ys++[z]) (upd H5 D (.lst (ys++[z])))else N ys H4)):=by
 refine cq (K:=K) (a:=a) (xs:=xs.map el) (fun i ys H2=>ys=(xs.take i).map fv/\H2 D=some (.lst ys)/\Same H H2) (fun _ _ _ h=>⟨h.2.1,SqL.of (h.2.2 _ _ ha)⟩) ⟨rfl,a9,ac hD⟩ ?_ ?_
 . rintro i y ys H2 hi ⟨rfl,hD2,s2⟩;rw[List.getElem?_map]at hi;cases e:xs[i]? with
   | none=>rw[e]at hi;cases hi
   | some x =>
    rw[e]at hi;cases hi;have hil:=(List.getElem?_eq_some_iff.mp e).1;refine yesI (hs i x e H2 _ s2 fun H5 s5=>⟨s5 _ _ hD2,by rw[List.length_map,List.length_take];exact aR (by omega),by rw[List.take_add_one,e,List.map_append];rfl,a9,fun b o e=>by rw[ae (af e hD)];exact s5 b o (s2 b o e)⟩)
 . rintro ys H2 ⟨rfl,hD2,s2⟩;rw[List.take_of_length_le (by rw[List.length_map];exact Nat.le_refl _)]at hD2
   exact hq H2 hD2 s2
end
end Tw
namespace L2
open PySem PySem.Spec PyProof.Rows
section
variable {X:Cx}
end
end L2
namespace Tw
open PySem L2
section
variable {K:PySem.W.Frag}
end
end Tw
namespace L2
open PySem PySem.Spec PyProof.Rows
section
variable {X:Cx}
def rEqNil (K:PySem.W.Frag):R2:=fun x y H Q=>∃a b xs,x = .ref a/\y = .ref b/\SqL K H a xs/\SqL K H b []/\Q (.bl (decide (xs=[]))) H
theorem op_eqNilK (K:PySem.W.Frag)(hu:X.A.units < cLine)(hK:X.K=K:=by rfl):OpR X (compareOp .Eq) (rEqNil K):=by
 subst hK;intro pins s σ H x y v u Q I rx ry h;obtain⟨a,b,xs,rfl,rfl,ha,hb,q⟩:=h;cases rx;cases ry;obtain⟨us,ru,pu,_⟩:=I.list ha;obtain⟨vs,rv,pv,_⟩:=I.list hb;have l1:=ru.length;have l2:=rv.length;have e2:vs=[]:=List.eq_nil_of_length_eq_zero l2.symm;subst e2;by_cases hl:xs=[]
 . subst hl;have e1:us=[]:=List.eq_nil_of_length_eq_zero l1.symm;subst e1;rw[decide_eq_true rfl]at q;exact SeqAt.RcAt.lists (e:=fun _=>true) pu.isList pv.isList rfl hu (fun j h1 _=>absurd h1 (by simp)) _ _ _ _ ⟨.bl _,H,I,rfl,q⟩
 . have hsz:(us.toArray.size != ([]:List Value).toArray.size)=true:=by
    rw[bne_iff_ne,List.size_toArray,List.size_toArray];intro h;exact hl (List.eq_nil_of_length_eq_zero (by rw[l1];exact h))
   rw[decide_eq_false hl]at q;exact SeqAt.RcAt.lists_lengths pu.isList pv.isList hsz hu _ _ _ _ ⟨.bl _,H,I,rfl,q⟩
end
end L2
namespace L2
open PySem PySem.Spec PyProof.Rows
section
variable {X:Cx}
end
end L2
namespace L2
open PySem PySem.Spec PyProof.Rows
section
variable {X:Cx}
end
end L2
namespace L2
open PySem PySem.Spec PyProof.Rows
open PySem.Builtin PySem.Builtin.Str
section
variable {X:Cx}
end
end L2
namespace Tw
open PySem L2
section
variable {K:PySem.W.Frag}
end
end Tw
namespace Tw
open PySem L2 PySem.StrLaws PySem.Builtin.Str PySem.NumText
end Tw
namespace Tw
open PySem L2 PySem.StrLaws
end Tw
namespace L2
open PySem PySem.Spec PyProof.Rows
section
variable {X:Cx}{elt iter:Expr}{ifs:List Expr}{scope:Scope}{pos px:Pos}{x:Str}{wi:TI}{tf:TT}{te:TE}
end
end L2
namespace Tw
open PySem L2 PySem.StrLaws PySem.Builtin.Str PySem.NumText
end Tw
namespace Tw
open PySem L2 PySem.StrLaws PySem.Builtin.Str PySem.NumText
end Tw
namespace Tw
open PySem
end Tw
namespace L2
open PySem PySem.Spec PyProof.Rows
open PySem.Builtin PySem.Builtin.Str
section
variable {X:Cx}
end
end L2
namespace Tw
structure Met (rs:List Road) (vs:List Int) (f:Int->Int->Int):Prop where
 zero:∀x∈vs,f x x=0
 nn:∀x∈vs,∀y∈vs,0≤f x y
 sym:∀x∈vs,∀y∈vs,f x y=f y x
 road:∀x∈vs,∀r∈rs,f x r.1=f x r.2.1+r.2.2∨f x r.2.1=f x r.1+r.2.2
 one:∀x∈vs,∀r∈rs,∀q∈rs,∀v p p',Joins r v p->Joins q v p'->f x v=f x p+r.2.2->f x v=f x p'+q.2.2->p=p'
theorem Met.perm {rs rs':List Road}{vs vs':List Int}{f:Int->Int->Int}(h:Met rs vs f)(hr:rs'.Perm rs)(hv:vs'.Perm vs):Met rs' vs' f:=
 ⟨fun x hx=>h.zero x (hv.mem_iff.mp hx),fun x hx y hy=>h.nn x (hv.mem_iff.mp hx) y (hv.mem_iff.mp hy),fun x hx y hy=>h.sym x (hv.mem_iff.mp hx) y (hv.mem_iff.mp hy),fun x hx r hr'=>h.road x (hv.mem_iff.mp hx) r (hr.mem_iff.mp hr'),
  fun x hx r hr' q hq=>h.one x (hv.mem_iff.mp hx) r (hr.mem_iff.mp hr') q (hr.mem_iff.mp hq)⟩
def metX (f:Int->Int->Int)(u w l:Int)(x y:Int):Int:=if x=w then (if y=w then 0 else f u y+l)else if y=w then f x u+l else f x y
theorem bw {f:Int->Int->Int}{u w l x y:Int}(hx:x≠w)(hy:y≠w):metX f u w l x y=f x y:=by unfold metX;rw[if_neg hx,if_neg hy]
theorem dI {f:Int->Int->Int}{u w l x:Int}(hx:x≠w):metX f u w l x w=f x u+l:=by unfold metX;rw[if_neg hx,if_pos rfl]
theorem bh {f:Int->Int->Int}{u w l y:Int}(hy:y≠w):metX f u w l w y=f u y+l:=by unfold metX;rw[if_pos rfl,if_neg hy]
theorem eU {f:Int->Int->Int}{u w l:Int}:metX f u w l w w=0:=by unfold metX;rw[if_pos rfl,if_pos rfl]
theorem Met.hang {rs:List Road}{vs:List Int}{f:Int->Int->Int}(h:Met rs vs f)(pl:∀r∈rs,r.1∈vs/\r.2.1∈vs)(hl:∀r∈rs,1≤r.2.2){u w:Int}{r:Road}(hu:u∈vs)(hw:w∉vs)(j:Joins r u w)(h1:1≤r.2.2):Met (r::rs) (w::vs) (metX f u w r.2.2):=by
 have ne:∀{x:Int},x∈vs->x≠w:=fun hx e=>hw (e▸hx);have zu:=h.zero u hu;refine⟨fun x hx=>?_,fun x hx y hy=>?_,fun x hx y hy=>?_,fun x hx q hq=>?_,fun x hx q hq q' hq' v p p' jq jq' e e'=>?_⟩
 . rcases List.mem_cons.mp hx with z | hx
   . rw[z];exact eU
   . rw[bw (ne hx) (ne hx)];exact h.zero x hx
 . rcases List.mem_cons.mp hx with z | hx<;>rcases List.mem_cons.mp hy with z' | hy
   . rw[z,z',eU];exact Int.le_refl _
   . rw[z,bh (ne hy)];have:=h.nn u hu y hy;omega
   . rw[z',dI (ne hx)];have:=h.nn x hx u hu;omega
   . rw[bw (ne hx) (ne hy)];exact h.nn x hx y hy
 . rcases List.mem_cons.mp hx with z | hx<;>rcases List.mem_cons.mp hy with z' | hy
   . rw[z,z']
   . rw[z,bh (ne hy),dI (ne hy),h.sym u hu y hy]
   . rw[z',dI (ne hx),bh (ne hx),h.sym x hx u hu]
   . rw[bw (ne hx) (ne hy),bw (ne hy) (ne hx)];exact h.sym x hx y hy
 . have key:∀{a b:Int},a=u->b=w->metX f u w r.2.2 x a=metX f u w r.2.2 x b+r.2.2∨metX f u w r.2.2 x b=metX f u w r.2.2 x a+r.2.2:=fun{a b} ea eb=>by
    subst ea;subst eb;rcases List.mem_cons.mp hx with z | hx
    . rw[z,eU,bh (ne hu)];left;omega
    . rw[dI (ne hx),bw (ne hx) (ne hu)];right;rfl
   rcases List.mem_cons.mp hq with e | hq
   . subst e;rcases j with⟨a,b⟩ | ⟨a,b⟩
     . exact key a b
     . exact(key b a).symm
   . obtain⟨p1,p2⟩:=pl q hq;rcases List.mem_cons.mp hx with z | hx
     . rw[z,bh (ne p1),bh (ne p2)];rcases h.road u hu q hq with e | e<;>omega
     . rw[bw (ne hx) (ne p1),bw (ne hx) (ne p2)];exact h.road x hx q hq
 ·
  have mem:∀{q:Road} {v p:Int},q∈rs->Joins q v p->v∈vs/\p∈vs:=fun{q v p} hq jq=>by
   obtain⟨p1,p2⟩:=pl q hq;rcases jq with⟨a,b⟩ | ⟨a,b⟩
   . rw[a]at p1;rw[b]at p2;exact⟨p1,p2⟩
   . rw[a]at p1;rw[b]at p2;exact⟨p2,p1⟩
  have new:∀{v p:Int},Joins r v p->(v=u/\p=w)∨(v=w/\p=u):=fun{v p} jr=>by
   rcases j with⟨a,b⟩ | ⟨a,b⟩<;>rcases jr with⟨c,d⟩ | ⟨c,d⟩
   . left;omega
   . right;omega
   . right;omega
   . left;omega
  rcases List.mem_cons.mp hq with eq | hm<;>rcases List.mem_cons.mp hq' with eq' | hm'
  . subst eq;subst eq';rcases new jq with⟨a,b⟩ | ⟨a,b⟩<;>rcases new jq' with⟨c,d⟩ | ⟨c,d⟩
    . omega
    . have:=ne hu;omega
    . have:=ne hu;omega
    . omega
  . subst eq;obtain⟨mv,mp⟩:=mem hm' jq';rcases new jq with⟨a,b⟩ | ⟨a,b⟩
    . subst a;subst b;rcases List.mem_cons.mp hx with z | hx
      . subst z;rw[bh (ne hu),bh (ne mp),zu]at e';have:=h.nn v hu p' mp;have:=hl q' hm';omega
      . rw[dI (ne hx),bw (ne hx) (ne hu)]at e;omega
    . rw[a]at mv;exact absurd mv hw
  . subst eq';obtain⟨mv,mp⟩:=mem hm jq;rcases new jq' with⟨a,b⟩ | ⟨a,b⟩
    . subst a;subst b;rcases List.mem_cons.mp hx with z | hx
      . subst z;rw[bh (ne hu),bh (ne mp),zu]at e;have:=h.nn v hu p mp;have:=hl q hm;omega
      . rw[dI (ne hx),bw (ne hx) (ne hu)]at e';omega
    . rw[a]at mv;exact absurd mv hw
  . obtain⟨mv,mp⟩:=mem hm jq;obtain⟨_,mp'⟩:=mem hm' jq';rcases List.mem_cons.mp hx with z | hx
    . subst z;rw[bh (ne mv),bh (ne mp)]at e;rw[bh (ne mv),bh (ne mp')]at e';exact h.one u hu q hm q' hm' v p p' jq jq' (by omega) (by omega)
    . rw[bw (ne hx) (ne mv),bw (ne hx) (ne mp)]at e;rw[bw (ne hx) (ne mv),bw (ne hx) (ne mp')]at e';exact h.one x hx q hm q' hm' v p p' jq jq' e e'
theorem Tr.met {rs:List Road}{vs:List Int}(t:Tr rs vs):(∀r∈rs,1≤r.2.2)->∃f,Met rs vs f:=by
 induction t with
 | one v =>
  intro _;refine⟨fun _ _=>0,fun _ _=>rfl,fun _ _ _ _=>Int.le_refl _,fun _ _ _ _=>rfl,fun _ _ r hr=>(nomatch hr),fun _ _ r hr=>(nomatch hr)⟩
 | @hang rs rs' vs vs' u w r t hu hw j p q ih =>
  intro hl;have hl':∀r∈rs,1≤r.2.2:=fun x hx=>hl x (p.mem_iff.mpr (List.mem_cons_of_mem _ hx));obtain⟨f,h⟩:=ih hl';exact⟨_,(h.hang (fun r hr=>let ⟨a,b,_⟩:=t.places r hr;⟨a,b⟩) hl' hu hw j (hl r (p.mem_iff.mpr List.mem_cons_self))).perm p q⟩
theorem Tree.met {n:Nat}{rs:List Road}(t:Tree n rs):∃f,Met rs (pl n) f:=t.tr.met t.len
end Tw
namespace Tw
structure Gr (rs:List Road) (n:Nat) (f:Int->Int->Int) (s:Int) (fd:List (Int×Int)):Prop where
 nd:(fd.map (·.1)).Nodup
 rng:∀p∈fd.map (·.1),p∈pl n
 val:∀p d,(p,d)∈fd->d=f s p
 st:s∈fd.map (·.1)
 clo:∀p∈fd.map (·.1),p≠s->∀r∈rs,∀q,Joins r p q->f s p=f s q+r.2.2->q∈fd.map (·.1)
theorem Gr.start {rs:List Road}{n:Nat}{f:Int->Int->Int}{s:Int}(m:Met rs (pl n) f)(hs:s∈pl n):Gr rs n f s [(s,0)]:=by
 refine⟨by simp,fun p hp=>?_,fun p d h=>?_,by simp,fun p hp ne=>?_⟩
 . have:p=s:=by simpa using hp
   rw[this];exact hs
 . have:p=s/\d=0:=by simpa using h
   rw[this.1,this.2,m.zero s hs]
 . exact absurd (by simpa using hp) ne
theorem Met.two {rs:List Road}{vs:List Int}{f:Int->Int->Int}(m:Met rs vs f){s:Int}(hs:s∈vs){r:Road}(hr:r∈rs){p q:Int}(j:Joins r p q):f s q=f s p+r.2.2∨f s p=f s q+r.2.2:=by
 rcases m.road s hs r hr with e | e<;>rcases j with⟨a,b⟩ | ⟨a,b⟩<;>rw[a,b]at e
 . exact .inr e
 . exact .inl e
 . exact .inl e
 . exact .inr e
theorem Gr.grow {rs:List Road}{n:Nat}{f:Int->Int->Int}{s:Int}{fd:List (Int×Int)}(g:Gr rs n f s fd)(m:Met rs (pl n) f)(hl:∀r∈rs,1≤r.2.2){r:Road}(hr:r∈rs){p q d:Int}(j:Joins r p q)(hq:q∈pl n)(hp:(p,d)∈fd)(nq:q∉fd.map (·.1)):Gr rs n f s (fd++[(q,d+r.2.2)]):=by
 have hpk:p∈fd.map (·.1):=List.mem_map.mpr ⟨_,hp,rfl⟩;have hs:=g.rng s g.st;have em:(fd++[(q,d+r.2.2)]).map (·.1)=fd.map (·.1)++[q]:=by rw[List.map_append];rfl
 have key:f s q=f s p+r.2.2:=by
  rcases m.two hs hr j with e | e
  . exact e
  . exfalso;by_cases ps:p=s
    . have:=m.zero s hs;have:=m.nn s hs q hq;have:=hl r hr;rw[ps]at e;omega
    . exact nq (g.clo p hpk ps r hr q j e)
 refine⟨?_,fun x hx=>?_,fun x y h=>?_,?_,fun x hx nx r' hr' y j' e=>?_⟩
 . rw[em];refine List.nodup_append.mpr ⟨g.nd,by simp,fun a ha b hb e=>?_⟩
   have:b=q:=by simpa using hb
   exact nq (by rw[←this,←e];exact ha)
 . rw[em]at hx;rcases List.mem_append.mp hx with h | h
   . exact g.rng x h
   . rw[List.mem_singleton.mp h];exact hq
 . rcases List.mem_append.mp h with h | h
   . exact g.val x y h
   . have:x=q/\y=d+r.2.2:=by simpa using h
     rw[this.1,this.2,key,g.val p d hp]
 . rw[em];exact List.mem_append_left _ g.st
 . rw[em]at hx⊢;rcases List.mem_append.mp hx with h | h
   . exact List.mem_append_left _ (g.clo x h nx r' hr' y j' e)
   . have ex:=List.mem_singleton.mp h;subst ex;have:y=p:=m.one s hs r' hr' r hr x y p j' j.symm e key;rw[this];exact List.mem_append_left _ hpk
theorem Gr.length {rs:List Road}{n:Nat}{f:Int->Int->Int}{s:Int}{fd:List (Int×Int)}(g:Gr rs n f s fd)(h:n≤fd.length):∀v∈pl n,v∈fd.map (·.1):=by
 have le:(fd.map (·.1)).length≤n:=by
  have key:∀(m:Nat) (l:List Int),l.Nodup->(∀x∈l,0≤x/\x < m)->l.length≤m:=by
   intro m
   induction m with
   | zero =>
    intro l _ h;cases l with
    | nil=>exact Nat.le_refl _
    | cons x t=>have:=h x (by simp);omega
   | succ m ih =>
    intro l hn h;by_cases hm:((m:Nat):Int)∈l
    . have hp:=List.perm_cons_erase hm;rw[hp.length_eq,List.length_cons];obtain⟨h1,h2⟩:=List.nodup_cons.mp (hp.nodup_iff.mp hn);have:=ih (l.erase (m:Int)) h2 fun x hx=>by
       have b:=h x (List.mem_of_mem_erase hx);have:x≠(m:Int):=fun e=>h1 (e▸hx);omega
      omega
    . have:=ih l hn fun x hx=>by
       have b:=h x hx;have:x≠(m:Int):=fun e=>hm (e▸hx);omega
      omega
  exact key n _ g.nd fun x hx=>mem_pl.mp (g.rng x hx)
 intro v hv;obtain⟨h1,h2⟩:=mem_pl.mp hv;exact dA n _ g.nd (fun x hx=>mem_pl.mp (g.rng x hx)) (by rw[List.length_map]at le⊢;omega) v h1 h2
theorem Gr.full {rs:List Road}{n:Nat}{f:Int->Int->Int}{s:Int}{fd:List (Int×Int)}(g:Gr rs n f s fd)(t:Tree n rs)(h:∀r∈rs,r.1∈fd.map (·.1)<->r.2.1∈fd.map (·.1)):n≤fd.length:=by
 have all:∀v∈pl n,v∈fd.map (·.1):=fun v hv=>t.tr.whole (P:=fun v=>v∈fd.map (·.1)) h s (g.rng s g.st) v hv g.st;have sub:∀(m:Nat) (l:List Int),(∀v,0≤v->v < (m:Int)->v∈l)->m≤l.length:=by
  intro m
  induction m with
  | zero=>intro l _;omega
  | succ m ih =>
   intro l hl;have hm:=hl m (by omega) (by omega)
   have hp:=List.perm_cons_erase hm;rw[hp.length_eq,List.length_cons];have:=ih (l.erase (m:Int)) fun v h1 h2=>(List.mem_erase_of_ne (by omega)).mpr (hl v h1 (by omega))
   omega
 have:=sub n (fd.map (·.1)) fun v h1 h2=>all v (mem_pl.mpr ⟨h1,h2⟩);simpa using this
end Tw
namespace Tw
end Tw
namespace Tw
end Tw
namespace Tw
theorem Met.grown {n:Nat}{rs:List Road}{f:Int->Int->Int}(t:Tree n rs)(m:Met rs (pl n) f){s B:Int}(hs:s∈pl n)(hB:∀r∈rs,r.2.2≤B){P:Int->Prop}(h0:P s)
 (hstep:∀r∈rs,∀p q,p∈pl n->q∈pl n->Joins r p q->f s q=f s p+r.2.2->P p->P q) :
 ∀k:Nat,k < n->∃fd:List (Int×Int),Gr rs n f s fd/\fd.length=k+1/\∀x∈fd,x.2≤(k:Int)*B/\P x.1
 | 0,_=>⟨[(s,0)],Gr.start m hs,rfl,fun x hx=>by rw[List.mem_singleton.mp hx];exact⟨by simp,h0⟩⟩
 | k+1,hk=>by
  obtain⟨fd,g,hl,hx⟩:=Met.grown t m hs hB h0 hstep k (by omega)
  have hno:¬∀r∈rs,r.1∈fd.map (·.1)<->r.2.1∈fd.map (·.1):=fun h=>by have:=g.full t h;omega
  obtain⟨r,hr,p,q,j,hp,hq⟩:∃r∈rs,∃p q,Joins r p q/\p∈fd.map (·.1)/\q∉fd.map (·.1):=by
   apply Classical.byContradiction;intro hn;apply hno;intro r hr;constructor
   . intro h1;apply Classical.byContradiction;intro h2;exact hn ⟨r,hr,r.1,r.2.1,.inl ⟨rfl,rfl⟩,h1,h2⟩
   . intro h1;apply Classical.byContradiction;intro h2;exact hn ⟨r,hr,r.2.1,r.1,.inr ⟨rfl,rfl⟩,h1,h2⟩
  obtain⟨⟨p',d⟩,hpd,ep⟩:=List.mem_map.mp hp;have ep':p'=p:=ep;subst ep';obtain⟨m1,m2,_⟩:=t.tr.places r hr;have qm:q∈pl n:=by
   rcases j with⟨_,e⟩ | ⟨e,_⟩
   . rw[←e];exact m2
   . rw[←e];exact m1
  have g2:=g.grow m t.len hr j qm hpd hq;have lr:=t.len r hr;have br:=hB r hr;have ek:((k+1:Nat):Int)*B=(k:Int)*B+B:=by rw[Int.natCast_add,Int.add_mul];simp
  refine⟨fd++[(q,d+r.2.2)],g2,by rw[List.length_append,hl];rfl,fun x hx'=>?_⟩
  rw[ek];rcases List.mem_append.mp hx' with h | h
  . have:=hx x h;exact⟨by omega,this.2⟩
  . have e:x=(q,d+r.2.2):=List.mem_singleton.mp h;subst e;have hp2:=hx _ hpd;refine⟨by have:=hp2.1;show d+r.2.2≤_;have h1:d≤(k:Int)*B:=hp2.1;omega,hstep r hr p' q (g.rng p' hp) qm j ?_ hp2.2⟩
    have v1:=g2.val q (d+r.2.2) (List.mem_append_right _ (List.mem_singleton.mpr rfl));have v2:=g.val p' d hpd;omega
theorem Met.ind {n:Nat}{rs:List Road}{f:Int->Int->Int}(t:Tree n rs)(m:Met rs (pl n) f){s:Int}(hs:s∈pl n){P:Int->Prop}(h0:P s)(hstep:∀r∈rs,∀p q,p∈pl n->q∈pl n->Joins r p q->f s q=f s p+r.2.2->P p->P q):∀v∈pl n,P v:=by
 intro v hv;have n1:=t.lo;obtain⟨B,hB⟩:∃B:Int,∀r∈rs,r.2.2≤B:=by
  clear hstep m t
  induction rs with
  | nil=>exact⟨0,fun _ h=>nomatch h⟩
  | cons r q ih =>
   obtain⟨B,h⟩:=ih;refine⟨max B r.2.2,fun x hx=>?_⟩;rcases List.mem_cons.mp hx with e | e
   . rw[e];exact Int.le_max_right _ _
   . exact Int.le_trans (h x e) (Int.le_max_left _ _)
 obtain⟨fd,g,hl,hx⟩:=Met.grown t m hs hB h0 hstep (n - 1) (by omega)
 obtain⟨x,hxm,e⟩:=List.mem_map.mp (g.length (by omega) v hv)
 rw[←e];exact(hx x hxm).2
end Tw
namespace Tw
section
variable {n:Nat}{rs:List Road}{f:Int->Int->Int}
end
end Tw
namespace Tw
section
variable {n:Nat}{rs:List Road}{f:Int->Int->Int}
end
end Tw
namespace Tw
section
variable {n:Nat}{rs:List Road}{f:Int->Int->Int}
end
end Tw
namespace Tw
section
variable {n:Nat}{rs:List Road}{f:Int->Int->Int}
end
end Tw
namespace Tw
section
variable {n:Nat}{rs:List Road}{f:Int->Int->Int}
end
end Tw
namespace Tw
section
variable {n:Nat}{rs:List Road}{f:Int->Int->Int}
end
end Tw
namespace Tw
section
variable {n:Nat}{rs:List Road}{f:Int->Int->Int}
end
end Tw
namespace Tw
section
variable {n:Nat}{rs:List Road}{f:Int->Int->Int}
instance decJ16 (r:Road) (u v:Int):Decidable (Joins r u v):=by unfold Joins;infer_instance
end
end Tw
namespace Tw
section
variable {n:Nat}{rs:List Road}{f:Int->Int->Int}
end
end Tw
namespace Tw
end Tw
namespace Tw
end Tw
namespace Tw
variable {n:Nat}{rs:List Road}{f:Int->Int->Int}
def inB (S:List Int)(r:Road):Bool:=decide (r.1∈S)&&decide (r.2.1∈S)
end Tw
namespace Tw
end Tw
namespace Tw
end Tw
namespace Tw
section
variable {n:Nat}{rs:List Road}{f:Int->Int->Int}
theorem gX:∀{l k:List Int},l.Nodup->(∀x∈l,x∈k)->k.length=l.length->k.Perm l
 | [],k,_,_,e=>by rw[List.length_eq_zero_iff.mp e]
 | x::l,k,nd,sub,e=>by
  have nd':=List.nodup_cons.mp nd;have hx:=sub x (List.mem_cons_self ..);refine(List.perm_cons_erase hx).trans (.cons x (gX nd'.2 (fun y hy=>?_) ?_))
  . refine(List.mem_erase_of_ne ?_).mpr (sub y (List.mem_cons_of_mem _ hy));rintro rfl;exact nd'.1 hy
  . rw[List.length_erase_of_mem hx,e,List.length_cons];rfl
theorem gt:∀{l k:List Int},l.Nodup->(∀x∈l,x∈k)->l.length≤k.length
 | [],k,_,_=>Nat.zero_le _
 | x::l,k,nd,sub=>by
  have nd':=List.nodup_cons.mp nd;have hx:=sub x (List.mem_cons_self ..);have:=gt (l:=l) (k:=k.erase x) nd'.2 fun y hy=>(List.mem_erase_of_ne (by rintro rfl;exact nd'.1 hy)).mpr (sub y (List.mem_cons_of_mem _ hy))
  rw[List.length_erase_of_mem hx]at this;have:=List.length_pos_of_mem hx;rw[List.length_cons];omega
end
end Tw
namespace Tw
section
variable {n:Nat}{rs:List Road}{f:Int->Int->Int}
end
end Tw
namespace Tw
section
variable {sv:Nat->List Int}{g:Nat->Int}{w:Nat->Int}
end
end Tw
namespace Tw
variable {f:Int->Int->Int}{hs ss hs' ss':List Int}{c c' r R R':Int}
end Tw
namespace Tw
end Tw
namespace Tw
variable {n:Nat}{rs:List Road}{f:Int->Int->Int}
end Tw
namespace Tw
variable {n:Nat}{rs:List Road}{f:Int->Int->Int}
end Tw
namespace Tw
variable {n:Nat}{rs:List Road}{f:Int->Int->Int}
end Tw
namespace L2
open PySem PySem.Spec PyProof.Rows
end L2
namespace L2
open PySem PySem.Spec PyProof.Rows
end L2
namespace L2
open PySem PySem.Spec PyProof.Rows
structure Mk0 (K:PySem.W.Frag) (C:Addr):Prop where
 makes:PySem.W.makesIn K C=true
 init:PySem.W.findIn K (.ref C) "__init__" = some (some (.builtin "object.__init__"))
 kp:PySem.W.keepIn K (.ref C)=true
def j5 (C:Addr):TE:=fun σ H Q=>∀x dx,H x=none->H dx=none->dx≠x->Q (.ref x) (upd (upd H dx (.own x)) x (.ins C dx []))
section
variable {X:Cx}{C:Addr}
theorem run_make0 {pins:List (Addr×Obj)}{σ:St}{H:Hp}{s:Shared}{Q:VK}(M:Mk0 X.K C)(I:Inv X pins σ H s)(h:∀x dx,H x=none->H dx=none->dx≠x->Q (.ref x) (upd (upd H dx (.own x)) x (.ins C dx []))):wpAny (model X.prog X.w) X.A (call (.ref C) []) (EP X pins σ Q) X.xe s:=by
 have hq:=h (s.heap.objs.size+1) s.heap.objs.size (I.hok.fresh (Nat.le_succ _)) (I.hok.fresh (Nat.le_refl _)) (Nat.ne_of_lt (Nat.lt_succ_self _));have I2:=Inv.made (C:=C) I;refine wpAny_call (make_map0 I.kIn M.makes M.init (fun self=>PySem.W.Looks.of_pure (PySem.W.oi_bind self)) ?_);have Y:=PySem.W.makes_of (M:=model X.prog X.w) I.kIn M.makes;have hg:((s.heap.push PySem.W.emptyDict).push (PySem.W.instObj C s.heap.objs.size)).get? (s.heap.objs.size+1)=some (PySem.W.instObj C s.heap.objs.size):=by
  have e:(s.heap.push PySem.W.emptyDict).objs.size=s.heap.objs.size+1:=Heap.size_push ..;rw[←e];exact Heap.get?_push_size _ rfl
 have t1:PySem.W.Looks (model X.prog X.w) ((s.heap.push PySem.W.emptyDict).push (PySem.W.instObj C s.heap.objs.size)) (typeOf (.ref (s.heap.objs.size+1))) (.ref C):=(PySem.W.Looks.ld hg).andThen .now;have t2:PySem.W.Looks (model X.prog X.w) ((s.heap.push PySem.W.emptyDict).push (PySem.W.instObj C s.heap.objs.size)) (isInstance (.ref (s.heap.objs.size+1)) (.type "object")) true:=t1.andThen (Y.top.keeps fun b o e=>Heap.get?_push_of_some _ (Heap.get?_push_of_some _ e));refine codeAny_call_builtin PySem.W.oi_plain PySem.W.entry_oi (@PySem.W.check_slot (model X.prog X.w) _ _ _ "object.__init__" "object" "__init__" (.ref (s.heap.objs.size+1)) [] [] _ PySem.W.oi_kind PySem.W.oi_split t2 (PySem.W.oi_args (.ref (s.heap.objs.size+1))) ?_);rw[PySem.W.oi_run];exact wpAny_pure (And.intro rfl ⟨V.ref (s.heap.objs.size+1),_,I2,rfl,hq⟩)
theorem bG {x:Str}{p pos:Pos}(M:Mk0 X.K C)(hg:Gl X x)(hm:X.mg x=some (.ref C))(hdb:(x == ("__debug__" : Str))=false:=by decide):PE X (.Call (.Name x p) [] [] pos) (j5 C):=by
 intro pins s σ H Q I h;refine wpAny_Call_Name_kw (ff I hg hm ?_ hdb);exact PySem.W.callWith_K0 I.kIn M.kp (run_make0 M I h)
end
end L2
namespace L2
open PySem PySem.Spec PyProof.Rows
section
variable {X:Cx}
end
end L2
namespace L2
open PySem PySem.Spec PyProof.Rows Tw
open PySem.W (tabObj CodeHd kla_obj kla_fn envX)
section
variable {X:Cx}{pins:List (Addr×Obj)}{σ:St}{H:Hp}{s:Shared}{h':Heap}
end
end L2
namespace L2
open PySem PySem.Spec PyProof.Rows Tw
open PySem.W (tabObj CodeHd kla_obj kla_fn envX)
end L2
namespace L2
open PySem PySem.Spec PyProof.Rows Tw
open PySem.W (tabObj CodeHd kla_obj kla_fn envX)
section
variable {X:Cx}{pins:List (Addr×Obj)}{σ:St}{H:Hp}{s:Shared}
end
end L2
namespace L2
open PySem PySem.Spec PyProof.Rows
section
variable {X:Cx}
end
end L2
namespace Tw
open PySem PyProof.Rows
section
variable {M:Model}{A:Around}{E:Value->Shared->Prop}{s:Shared}{kd:SortKind}{k:Keyed->Int}{P:Keyed->Prop}
end
end Tw
namespace Tw
open PySem PyProof.Rows
section
variable {M:Model}{A:Around}{E:Value->Shared->Prop}{s:Shared}{kd:SortKind}{k:Keyed->Int}{P:Keyed->Prop}
end
end Tw
namespace Tw
open PySem PyProof.Rows
section
variable {k:Keyed->Int}{l o x y:List Keyed}
end
section
variable {k:Keyed->Int}{a b o:Array Keyed}{i j:Nat}
end
end Tw
namespace Tw
open PySem PyProof.Rows
section
variable {M:Model}{A:Around}{E:Value->Shared->Prop}{s:Shared}{kd:SortKind}{k:Keyed->Int}{P:Keyed->Prop}{a b o:Array Keyed}{i j mg ca cb:Nat}{st:SortSt}
end
end Tw
namespace Tw
open PySem PyProof.Rows
section
variable {k:Keyed->Int}{a b o:Array Keyed}{i j:Nat}
end
section
variable {M:Model}{A:Around}{E:Value->Shared->Prop}{s:Shared}{kd:SortKind}{k:Keyed->Int}{P:Keyed->Prop}{a b o:Array Keyed}{i j mg ca cb:Nat}{st:SortSt}
end
end Tw
namespace Tw
open PySem PyProof.Rows
section
variable {M:Model}{A:Around}{E:Value->Shared->Prop}{s:Shared}{kd:SortKind}{k:Keyed->Int}{P:Keyed->Prop}{st:SortSt}
end
end Tw
namespace Tw
open PySem PyProof.Rows
section
variable {M:Model}{A:Around}{E:Value->Shared->Prop}{s:Shared}{kd:SortKind}{k:Keyed->Int}{a₀:Array Keyed}{st:SortSt}{lo:Nat}
end
end Tw
namespace L2
open PySem PySem.Spec PyProof.Rows Tw
section
variable {prog:Program}{w:World}{A:Around}{E:Value->Shared->Prop}{s:Shared}{g0:Heap}{L:Addr}{mm:Str->Option Value}{ws:List (Addr×Obj)}{D kS:Addr}{b:Bool}{us:List Value}{zs:List Int}{ks:Array Value}{e e1:Nat}{R:PySem.Fin->Shared->Prop}
end
end L2
namespace L2
open PySem PySem.Spec PyProof.Rows Tw
section
variable {prog:Program}{w:World}{A:Around}{E:Value->Shared->Prop}{s:Shared}
end
section
variable {X:Cx}
end
end L2
namespace L2
open PySem PySem.Spec PyProof.Rows Tw
section
variable {prog:Program}{w:World}{A:Around}{E:Value->Shared->Prop}{s:Shared}
end
section
variable {X:Cx}
end
end L2
namespace L2
open PySem PySem.Spec PyProof.Rows Tw
open PySem.AutoSeq1 (wpAny_loadPart')
open PySem.MeetsSeq PySem.MeetsSeq2 PySem.MeetsSeq3
section
variable {prog:Program}{w:World}{A:Around}{E:Value->Shared->Prop}{s:Shared}
end
end L2
namespace Tw
open L2
end Tw
namespace L2
open PySem PySem.Spec PyProof.Rows Tw
section
variable {prog:Program}{w:World}{A:Around}{E:Value->Shared->Prop}{s:Shared}
end
section
variable {prog:Program}{w:World}{A:Around}{E:Value->Shared->Prop}{s:Shared}{g0:Heap}{L:Addr}{mm:Str->Option Value}{ws:List (Addr×Obj)}{D kS:Addr}{us:List Value}{ks:Array Value}{e e1:Nat}{R:PySem.Fin->Shared->Prop}{lf:Value->List Int}
end
end L2
namespace L2
open PySem PySem.Spec PyProof.Rows Tw
open PySem.AutoSeq1 (wpAny_loadPart')
open PySem.MeetsSeq PySem.MeetsSeq2 PySem.MeetsSeq3
open PySem.SeqAt (EqAt RcAt)
section
variable {A:Around}{s:Shared}
end
end L2
namespace L2
open PySem PySem.Spec PyProof.Rows Tw
open PySem.AutoSeq1 (wpAny_loadPart')
open PySem.MeetsSeq PySem.MeetsSeq2 PySem.MeetsSeq3
open PySem.SeqAt (EqAt RcAt)
section
variable {A:Around}{s:Shared}
end
section
variable {prog:Program}{w:World}{A:Around}{E:Value->Shared->Prop}{s:Shared}
end
end L2
namespace Tw
open L2
end Tw
namespace L2
open PySem PySem.Spec PyProof.Rows Tw
section
variable {prog:Program}{w:World}{A:Around}{E:Value->Shared->Prop}{s:Shared}
end
section
variable {prog:Program}{w:World}{A:Around}{E:Value->Shared->Prop}{s:Shared}{g0:Heap}{L:Addr}{mm:Str->Option Value}{ws:List (Addr×Obj)}{D kS:Addr}{us:List Value}{ks:Array Value}{e e1:Nat}{R:PySem.Fin->Shared->Prop}{lf:Value->List Int}
end
end L2
namespace L2
open PySem PySem.Spec PyProof.Rows Tw
open PySem.W (tabObj CodeHd kla_obj kla_fn envX)
section
variable {X:Cx}{pins:List (Addr×Obj)}{σ:St}{H:Hp}{s:Shared}{h':Heap}
end
end L2
namespace L2
open PySem PySem.Spec PyProof.Rows Tw
open PySem.W (tabObj CodeHd kla_obj kla_fn envX)
section
variable {X:Cx}{pins:List (Addr×Obj)}{σ:St}{H:Hp}{s:Shared}
end
end L2
namespace L2
open PySem PySem.Spec PyProof.Rows Tw
open PySem.W (tabObj CodeHd kla_obj kla_fn envX)
section
variable {X:Cx}
end
end L2
namespace L2
open PySem PySem.Spec PyProof.Rows Tw
open PySem.W (tabObj CodeHd tabIn)
section
variable {P:Program}{w:World}{K:PySem.W.Frag}{mg:Str->Option Value}{base:Heap}
end
end L2
namespace L2
open PySem PySem.Spec PyProof.Rows Tw
open PySem.W (tabObj CodeHd kla_obj kla_fn envX)
end L2
namespace L2
open PySem PySem.Spec PyProof.Rows Tw
open PySem.W (tabObj CodeHd kla_obj kla_fn envX)
section
variable {X:Cx}{pins:List (Addr×Obj)}{σ:St}{H:Hp}{s:Shared}{h':Heap}
end
section
variable {X:Cx}{pins:List (Addr×Obj)}{σ:St}{H:Hp}{s:Shared}
end
end L2
namespace L2
open PySem PySem.Spec PyProof.Rows Tw
open PySem.W (tabObj CodeHd kla_obj kla_fn envX)
section
variable {X:Cx}{pins:List (Addr×Obj)}{σ:St}{H:Hp}{s:Shared}{h':Heap}
end
section
variable {X:Cx}{pins:List (Addr×Obj)}{σ:St}{H:Hp}{s:Shared}
end
end L2
namespace L2
open PySem PySem.Spec PyProof.Rows
section
variable {prog:Program}{w:World}{A:Around}{E:Value->Shared->Prop}{s:Shared}{L:Bool}{a:Addr}
end
section
variable {prog:Program}{w:World}{A:Around}{R:Result->Shared->Prop}{I:Addr}{fp wr:List Addr}{G:Array GenState->Array GenState->Prop}{n:Nat}{P:Nat->Value->Prop}{St:Nat->Shared->Prop}{L:Bool}
end
section
variable {prog:Program}{w:World}{A:Around}{E:Value->Shared->Prop}{s:Shared}
end
end L2
namespace L2
open PySem PySem.Spec PyProof.Rows
section
variable {prog:Program}{w:World}{A:Around}{E:Value->Shared->Prop}{s:Shared}{L:Bool}{a:Addr}
end
section
variable {prog:Program}{w:World}{A:Around}{R:Result->Shared->Prop}{I:Addr}{fp wr:List Addr}{G:Array GenState->Array GenState->Prop}{n:Nat}{P:Nat->Value->Prop}{St:Nat->Shared->Prop}{L:Bool}
end
section
variable {prog:Program}{w:World}{A:Around}{E:Value->Shared->Prop}{s:Shared}
end
section
variable {X:Cx}
end
end L2
namespace L2
open PySem PySem.Spec PyProof.Rows
section
variable {prog:Program}{w:World}{A:Around}{E:Value->Shared->Prop}{s:Shared}
end
end L2
namespace L2
open PySem PySem.Spec PyProof.Rows
section
variable {X:Cx}{pins:List (Addr×Obj)}{σ:St}{H:Hp}{s:Shared}
end
section
variable {X:Cx}
end
end L2
namespace L2
open PySem PySem.Spec PyProof.Rows Tw
open PySem.W (tabObj CodeHd kla_obj kla_fn envX)
section
variable {X:Cx}{pins:List (Addr×Obj)}{σ:St}{H:Hp}{s:Shared}
end
end L2
namespace L2
open PySem PySem.Spec PyProof.Rows Tw
open PySem.W (tabObj CodeHd kla_obj kla_fn envX)
section
variable {X:Cx}{pins:List (Addr×Obj)}{σ:St}{H:Hp}{s:Shared}
end
end L2
namespace L2
open PySem PySem.Spec PyProof.Rows Tw
open PySem.W (tabObj CodeHd kla_obj kla_fn envX)
section
variable {X:Cx}{pins:List (Addr×Obj)}{σ:St}{H:Hp}{s:Shared}
end
end L2
namespace Tw
open PySem L2
section
variable {n:Nat}{rs:List Road}{f:Int->Int->Int}
end
end Tw
namespace L2
open PySem PySem.Spec PyProof.Rows
section
variable {X:Cx}{tg:Expr}
end
end L2
namespace Tw
open PySem L2
def top (i:Nat):Stmt:=PySem.Challenge.pw_treewells_k82_what_is_asked.main.body.getD i (.Pass ⟨0,0,0,0⟩)
abbrev bP:Stmt:=top 12
abbrev d3:Stmt:=top 13
abbrev bi:Stmt:=top 14
abbrev bE:Stmt:=top 15
abbrev fK:Stmt:=top 16
abbrev cR:Stmt:=top 17
abbrev e8:Stmt:=top 18
abbrev f7:Stmt:=top 20
abbrev dX:Stmt:=top 21
abbrev eA:Stmt:=top 26
abbrev bK:Stmt:=top 30
abbrev bI:Stmt:=top 38
abbrev bJ:Stmt:=top 59
abbrev cx:Stmt:=top 60
abbrev bz:Stmt:=top 81
abbrev e5:Stmt:=top 96
abbrev sMix:Stmt:=top 98
abbrev dO:Stmt:=top 100
abbrev f8:Stmt:=top 101
abbrev dv:Stmt:=top 102
abbrev fJ:Stmt:=top 103
abbrev eB:Stmt:=top 104
abbrev fG:Stmt:=top 105
abbrev dZ:Stmt:=top 107
abbrev dY:Stmt:=top 108
abbrev dk:Stmt:=top 109
abbrev cg:Stmt:=top 110
abbrev fL:Stmt:=top 111
abbrev cQ:Stmt:=top 112
abbrev bX:Stmt:=top 113
abbrev sDue:Stmt:=top 114
abbrev sLaw:Stmt:=top 115
end Tw
namespace Tw
open PySem L2
structure Bi (K:PySem.W.Frag) (mg:Str->Option Value):Prop where
 isinstance:mg "isinstance" = none
 int:mg "int" = none
 bool:mg "bool" = none
 list:mg "list" = none
 len:mg "len" = none
 all:mg "all" = none
 sum:mg "sum" = none
 range:mg "range" = none
 max:mg "max" = none
 min:mg "min" = none
 set:mg "set" = none
 sorted:mg "sorted" = none
 zip:mg "zip" = none
 any:mg "any" = none
 dict:mg "dict" = none
 reversed:mg "reversed" = none
 tuple:mg "tuple" = none
 ii:PySem.W.kitOne K (.type "int") (.type "int")=some true
 ib:PySem.W.kitOne K (.type "int") (.type "bool")=some false
 ll:PySem.W.kitOne K (.type "list") (.type "list")=some true
 bb:PySem.W.kitOne K (.type "bool") (.type "bool")=some true
 tt:PySem.W.kitOne K (.type "tuple") (.type "tuple")=some true
structure Def (K:PySem.W.Frag) (mg:Str->Option Value) (x:Str) (st:Stmt) (ps:List Str) (f:Addr) (fd:FuncData):Prop where
 fn:Fun K x x st f fd
 bn:Binds K fd ps []
 mg:mg x=some (.ref f)
section
variable {P:Program}{w:World}{K:PySem.W.Frag}{mg:Str->Option Value}{base:Heap}
def cr:Sp:=fun vs H Q _=>∃i:Int,vs=[.int i]/\Q (.bl true) H
theorem scWhole:FnScope ["value"] ["value"] (aa bP):=⟨rfl,rfl,rfl,by decide +kernel,rfl,by decide +kernel,by decide +kernel⟩
theorem cy {f:Addr}{fd:FuncData}(F:Def K mg "is_whole" bP ["value"] f fd)(B:Bi K mg):FnOk P w K mg base CX0 1 f fd ["value"] cr:=by
 refine F.fn.ok scWhole (fun vs H Q E h=>?_) (fun cdv A outer s H vs Q E hr h=>?_)
 . obtain⟨i,rfl,_⟩:=h;rfl
 . obtain⟨i,rfl,k⟩:=h;refine⟨_,ah (aB (bc (ak dC (by rfl) B.isinstance PyProof.Rows.boot_isinstance (a2 (pv 0) (a2 (gS (v:=.ty "int") rfl B.int PyProof.Rows.boot_int rfl) a4)))
    (bA (pe_not (ak dC (by rfl) B.isinstance PyProof.Rows.boot_isinstance (a2 (pv 0) (a2 (gS (v:=.ty "bool") rfl B.bool PyProof.Rows.boot_bool rfl) a4))))))),?_⟩
   refine⟨_,rfl,_,_,_,_,rfl,.int i,B.ii,_,rfl,iteT ?_⟩;exact⟨_,rfl,_,_,_,_,rfl,.int i,B.ib,_,rfl,k⟩
def fc:Sp:=fun vs H Q _=>∃n v:Int,vs=[.int n,.int v]/\Q (.bl (decide (0≤v/\v < n))) H
theorem scPlace:FnScope ["many", "value"] ["many", "value"] (aa d3):=⟨rfl,rfl,rfl,by decide +kernel,rfl,by decide +kernel,by decide +kernel⟩
theorem g5 {f fW:Addr}{fd fdW:FuncData}(F:Def K mg "is_place" d3 ["many", "value"] f fd)(FW:Def K mg "is_whole" bP ["value"] fW fdW)(B:Bi K mg):FnOk P w K mg base CX0 2 f fd ["many", "value"] fc:=by
 have GW:FnOk P w K mg base CX0 1 fW fdW ["value"] cr:=cy FW B;refine F.fn.ok scPlace (fun vs H Q E h=>?_) (fun cdv A outer s H vs Q E hr h=>?_)
 . obtain⟨n,v,rfl,_⟩:=h;rfl
 . obtain⟨n,v,rfl,k⟩:=h;refine⟨_,ah (aB (bc (aj GW hr rfl FW.mg FW.fn.kp FW.bn .nil aE (a2 (pv 1) a4)) (bA (pe_chain op_le dP a3 (pv 1) (pv 0))))),?_⟩;refine⟨_,rfl,v,rfl,_,rfl,iteT ?_⟩;refine⟨_,rfl,_,_,rfl,rfl,_,rfl,iteD (fun h0=>?_) (fun h0=>?_)⟩
   . refine⟨_,rfl,_,_,rfl,rfl,?_⟩;have e:decide (0≤v/\v < n)=decide (v < n):=by simp[h0]
     rw[e]at k;exact k
   . have e:decide (0≤v/\v < n)=false:=by simp[h0]
     rw[e]at k;exact k
def j9:Sp:=fun vs H Q _=>∃(n:Int) (a:Addr) (z:List Int),vs=[.int n,.ref a]/\H a=some (.lst (zV z))/\Q (.bl (bM n z)) H
theorem scRoad:FnScope ["many", "row"] ["many", "row"] (aa fK):=⟨rfl,rfl,rfl,by decide +kernel,rfl,by decide +kernel,by decide +kernel⟩
theorem ok_road {f fW fP:Addr}{fd fdW fdP:FuncData}(F:Def K mg "is_road" fK ["many", "row"] f fd)(FW:Def K mg "is_whole" bP ["value"] fW fdW)(FP:Def K mg "is_place" d3 ["many", "value"] fP fdP)(B:Bi K mg):FnOk P w K mg base CX0 3 f fd ["many", "row"] j9:=by
 have GW:FnOk P w K mg base CX0 1 fW fdW ["value"] cr:=cy FW B;have GP:FnOk P w K mg base CX0 2 fP fdP ["many", "value"] fc:=g5 FP FW B;refine F.fn.ok scRoad (fun vs H Q E h=>?_) (fun cdv A outer s H vs Q E hr h=>?_)
 . obtain⟨n,a,z,rfl,_⟩:=h;rfl
 . obtain⟨n,a,z,rfl,ha,k⟩:=h;have hr1:Room 1 _:=hr.mono (by decide)
   refine⟨_,ad (b6 (PW.pt (bN (ax dy (ak bB (by rfl) B.len PySem.boot_len (a2 (pv 1) a4)) a3 (av _))
    (ci (cG (cz (aj GW hr1 rfl FW.mg FW.fn.kp FW.bn .nil aE (a2 (aF b7 (pv 1) a3 (fun _ _=>rfl)) a4))))))) (ah (aB bO)) aG)
    (ah (aB (bc (aj GP hr rfl FP.mg FP.fn.kp FP.bn .nil aE (a2 (pv 0) (a2 (aF b7 (pv 1) a3 (fun _ _=>rfl)) a4)))
      (bc (aj GP hr rfl FP.mg FP.fn.kp FP.bn .nil aE (a2 (pv 0) (a2 (aF b7 (pv 1) a3 (fun _ _=>rfl)) a4)))
      (bc (aU dy (aF b7 (pv 1) a3 (fun _ _=>rfl)) (aF b7 (pv 1) a3 (fun _ _=>rfl)) (av _))
      (bA (aU gr (aF b7 (pv 1) a3 (fun _ _=>rfl)) a3 (av _)))))))),?_⟩
   have hl:(zV z).length=z.length:=by unfold zV;simp
   refine⟨_,rfl,a,_,rfl,.inl (SqL.of ha),rfl,_,rfl,?_⟩;by_cases h3:z.length=3
   . obtain⟨x,y,l,rfl⟩:∃x y l,z=[x,y,l]:=by
      match z,h3 with
      | [x,y,l],_=>exact⟨x,y,l,rfl⟩
     have at0:atI (zV [x,y,l]) 0=some (V.int x):=rfl;have at1:atI (zV [x,y,l]) 1=some (V.int y):=rfl;have at2:atI (zV [x,y,l]) 2=some (V.int l):=rfl;refine iteF ?_;refine⟨_,rfl,a,_,_,_,rfl,rfl,SqL.of ha,at2,l,rfl,_,rfl,iteF ?_⟩;refine⟨_,rfl,_,rfl,a,_,_,_,rfl,rfl,SqL.of ha,at0,n,x,rfl,_,rfl,?_⟩;have ek:bM n [x,y,l]=(decide (0≤x/\x < n)&&decide (0≤y/\y < n)&&!decide (x=y)&&decide (1≤l)):=rfl;rw[ek]at k;refine iteB (fun e1=>?_) (fun e1=>?_)
     . rw[e1,Bool.true_and]at k;refine⟨_,rfl,_,rfl,a,_,_,_,rfl,rfl,SqL.of ha,at1,n,y,rfl,_,rfl,iteB (fun e2=>?_) (fun e2=>?_)⟩
       . rw[e2,Bool.true_and]at k;refine⟨_,rfl,a,_,_,_,rfl,rfl,SqL.of ha,at0,_,rfl,a,_,_,_,rfl,rfl,SqL.of ha,at1,rfl,_,rfl,?_⟩;have ev:decide (V.int x=V.int y)=decide (x=y):=by
          by_cases e:x=y
          . subst e;simp
          . simp[e]
         rw[ev];refine iteB (fun e3=>?_) (fun e3=>?_)
         . rw[e3,Bool.true_and]at k;exact⟨_,rfl,a,_,_,_,rfl,rfl,SqL.of ha,at2,_,_,rfl,rfl,k⟩
         . rw[e3,Bool.false_and]at k;exact k
       . rw[e2,Bool.false_and,Bool.false_and]at k;exact k
     . rw[e1,Bool.false_and,Bool.false_and,Bool.false_and]at k;exact k
   . have e:bM n z=false:=by
      unfold bM
      split
      . simp at h3
      . rfl
     rw[e]at k;have e2:(!decide (V.int ((zV z).length:Int)=V.int 3))=true:=by
      rw[hl];have:¬(V.int (z.length:Int)=V.int 3):=fun q=>h3 (by injection q with q;omega)
      rw[decide_eq_false this];rfl
     rw[e2];refine iteT ?_;exact iteT k
end
end Tw
namespace Tw
open PySem L2
section
variable {P:Program}{w:World}{K:PySem.W.Frag}{mg:Str->Option Value}{base:Heap}
theorem near_put {H:Hp}{D:Addr}{ds:List Addr}{n:Nat}{pre:List Road}{r:Road}(h:NearAt H D ds (ck n pre))(nd:ds.Nodup)(v:Valid n r){da db:Addr}(ha:ds[r.1.toNat]? = some da)(hb:ds[r.2.1.toNat]? = some db):NearAt (upd (upd H da (.dK (dV (put (nbOf pre r.1) r.2.1 r.2.2)))) db (.dK (dV (put (nbOf pre r.2.1) r.1 r.2.2)))) D ds (ck n (pre++[r])):=by
 have hl:ds.length=n:=by rw[h.len,bS]
 have a0:=v.a0;have a1:=v.a1;have b0:=v.b0;have b1:=v.b1;have ne:=v.ne;have inj:∀{i j:Nat} {x:Addr},ds[i]? = some x->ds[j]? = some x->i=j:=fun{i j x} e1 e2=>by
  obtain⟨h1,q1⟩:=List.getElem?_eq_some_iff.mp e1;obtain⟨h2,q2⟩:=List.getElem?_eq_some_iff.mp e2;exact(List.getElem_inj nd).mp (q1.trans q2.symm)
 have dD:∀{i:Nat} {x:Addr},ds[i]? = some x->D≠x:=fun{i x} e z=>by
  have hi:i < n:=by rw[←hl];exact(List.getElem?_eq_some_iff.mp e).1
  have q:=h.row i x _ e (bW hi);rw[←z,h.top]at q;cases q
 refine⟨?_,by rw[h.len,bS,bS],fun i p d e1 e2=>?_⟩
 . rw[ae (dD hb),ae (dD ha)];exact h.top
 . have hi:i < n:=by rw[←hl];exact(List.getElem?_eq_some_iff.mp e1).1
   rw[bW hi]at e2;cases e2;rw[nbOf_snoc];have old:=h.row i p _ e1 (bW hi);unfold nb1;by_cases ib:i=r.2.1.toNat
   . have ep:p=db:=by rw[ib,hb]at e1;exact(Option.some.inj e1).symm
     subst ep;have e3:((i:Nat):Int)=r.2.1:=by omega
     rw[a9,e3,if_neg ne,if_pos rfl]
   . have np:p≠db:=fun z=>ib (inj e1 (z▸hb));rw[ae np];by_cases ia:i=r.1.toNat
     . have ep:p=da:=by rw[ia,ha]at e1;exact(Option.some.inj e1).symm
       subst ep;have e3:((i:Nat):Int)=r.1:=by omega
       rw[a9,e3,if_pos rfl]
     . have np2:p≠da:=fun z=>ia (inj e1 (z▸ha));rw[ae np2,if_neg (by omega),if_neg (by omega)]
       exact old
def ja:Sp:=fun vs H Q _=>∃(n:Nat) (a:Addr) (as:List Addr) (rs:List Road),vs=[.int n,.ref a]/\RowsAt H a as (rs.map rowI)/\n≤12/\(∀r∈rs,Valid n r)/\rs.length≤100 ∧
 ∀(D:Addr) (ds:List Addr) (H':Hp),Same H H'->NearAt H' D ds (ck n rs)->Q (.ref D) H'
theorem scNear:FnScope ["many", "roads", "near", "row"] ["many", "roads"] (aa f7):=⟨rfl,rfl,rfl,by decide +kernel,rfl,by decide +kernel,by decide +kernel⟩
theorem bU {α:Type}{xs:List α}{i:Int}{v:α}(h0:0≤i)(h:xs[i.toNat]? = some v):atI xs i=some v:=by
 have e:i=((i.toNat:Nat):Int):=by omega
 rw[e];exact cw h
theorem dJ {as:List Addr}{i:Nat}{y:V}(h:(as.map V.ref)[i]? = some y):∃p,as[i]? = some p/\y=V.ref p:=by
 rw[List.getElem?_map]at h;cases e:as[i]? with
 | none=>rw[e]at h;cases h
 | some p=>rw[e]at h;exact⟨p,rfl,(Option.some.inj h).symm⟩
theorem dm {as:List Addr}{i:Nat}{p:Addr}(h:as[i]? = some p):(as.map V.ref)[i]? = some (V.ref p):=by rw[List.getElem?_map,h];rfl
theorem nodup_snoc {l:List Addr}{p:Addr}(h:l.Nodup)(hp:p∉l):(l++[p]).Nodup:=
 List.nodup_append.mpr ⟨h,by simp,fun a ha b hb e=>by
  have:b=p:=by simpa using hb
  exact hp (by rw[←this,←e];exact ha)⟩
theorem ok_near {f:Addr}{fd:FuncData}(F:Def K mg "neighbours" f7 ["many", "roads"] f fd)(B:Bi K mg):FnOk P w K mg base CX0 1 f fd ["many", "roads"] ja:=by
 refine F.fn.ok scNear (fun vs H Q E h=>?_) (fun cdv A outer s H vs Q E hr h=>?_)
 . obtain⟨n,a,as,rs,rfl,_⟩:=h;rfl
 . obtain⟨n,a,as,rs,rfl,hR,hn,hv,hlen,k⟩:=h;have hu:=iT hr;refine⟨_,ad (cU (aa f7).names ["many", "roads", "near", "row"] ["many", "roads", "near", "row", "place"] 2 scNear.nd rfl (Or.inl rfl) (bg rfl B.range (a2 (pv 0) a4)) (fun _ _ _ _=>bF) (fun _ _ _ _=>pe_dnewK))
    (ad (bV PassesOwn.never rfl (gO (pv 1)) (bj (i:=3) scNear.nd rfl (Or.inl rfl))
      (ad (gN hu (aF b7 (pv 2) (aF b7 (pv 3) a3 (fun _ _=>rfl)) (fun _ _=>rfl)) (aF b7 (pv 3) a3 (fun _ _=>rfl)) (aF b7 (pv 3) a3 (fun _ _=>rfl)) rfl)
      (ah (gN hu (aF b7 (pv 2) (aF b7 (pv 3) a3 (fun _ _=>rfl)) (fun _ _=>rfl)) (aF b7 (pv 3) a3 (fun _ _=>rfl)) (aF b7 (pv 3) a3 (fun _ _=>rfl)) rfl))))
    (ah (aB (pv 2)))),?_⟩
   refine⟨_,rfl,(n:Int),rfl,by omega,by omega,fun D hD=>?_⟩
   rw[Int.toNat_natCast];refine cK (fun i ys H2=>∃ds:List Addr,ys=ds.map V.ref/\ds.length=i/\ds.Nodup/\H2 D=some (.lst ys)/\(∀d∈ds,H2 d=some (.dK [])/\d≠D/\H d=none)/\Same H H2/\i≤n) (fun i ys H2 ⟨_,_,_,_,q,_⟩=>q)
    ⟨[],rfl,rfl,List.nodup_nil,a9,(fun _ z=>nomatch z),ac hD,Nat.zero_le _⟩ ?_ ?_
   . rintro i ys H2 hi ⟨ds,rfl,hl,nd,hDl,hds,sm,hin⟩;refine yesI ?_;intro p hp;have npD:D≠p:=af hDl hp;have npd:∀d∈ds,d≠p:=fun d hd=>af (hds d hd).1 hp;refine⟨by rw[ae npD];exact hDl,?_,ds++[p],by rw[List.map_append];rfl,by rw[List.length_append,hl];rfl,nodup_snoc nd (fun z=>npd p z rfl),a9,fun d hd=>?_,fun b o e=>?_,hi⟩
     . rw[List.length_map,hl];exact aR (by omega)
     . rcases List.mem_append.mp hd with z | z
       . exact⟨by rw[ae (hds d z).2.1,ae (npd d z)];exact(hds d z).1,(hds d z).2⟩
       . have e:d=p:=by simpa using z
         subst e;exact⟨by rw[ae npD.symm,a9],npD.symm,sm.free hp⟩
     . have e2:=sm b o e;have nb:b≠D:=af e hD;rw[ae nb,ae (af e2 hp)];exact e2
   . rintro ys H2 ⟨ds,rfl,hl,nd,hDl,hds,sm,_⟩;have hN0:NearAt H2 D ds (ck n []):=⟨hDl,by rw[bS];exact hl,fun i p d e1 e2=>by
      have hi:i < n:=by rw[←hl];exact(List.getElem?_eq_some_iff.mp e1).1
      rw[bW hi]at e2;cases e2;exact(hds p (List.mem_of_getElem? e1)).1⟩
     refine⟨_,rfl,a,rfl,⟨_,SqL.of (hR.mono sm).top⟩,cJ (K:=K) (a:=a) (xs:=as.map V.ref) (fun i σ H3=>∃v,σ=[some (.int n),some (.ref a),some (.ref D),v]/\Same H H3/\NearAt H3 D ds (ck n (rs.take i)))
      ⟨none,rfl,sm,hN0⟩ (fun i σ H3 _ ⟨_,_,s3,_⟩=>SqL.of (hR.mono s3).top) ?_ ?_⟩
     . rintro i y σ H3 hi ⟨v,rfl,s3,hN3⟩;obtain⟨p,hp,rfl⟩:=dJ hi;have hil:i < rs.length:=by
        have:=(List.getElem?_eq_some_iff.mp hp).1;have l2:=hR.len;rw[List.length_map]at l2;omega
       obtain⟨r,er⟩:∃r,rs[i]? = some r:=⟨rs[i],by simp[hil]⟩
       have V0:=hv r (List.mem_of_getElem? er);have a0:=V0.a0;have a1:=V0.a1;have b0:=V0.b0;have b1:=V0.b1;have ne:=V0.ne;have hrow:H3 p=some (.lst [.int r.1,.int r.2.1,.int r.2.2]):=(hR.mono s3).row i p (rowI r) hp (by rw[List.getElem?_map,er];rfl)
       have hdl:ds.length=n:=hl;obtain⟨da,eda⟩:∃d,ds[r.1.toNat]? = some d:=⟨ds[r.1.toNat]'(by omega),List.getElem?_eq_getElem _⟩
       obtain⟨db,edb⟩:∃d,ds[r.2.1.toNat]? = some d:=⟨ds[r.2.1.toNat]'(by omega),List.getElem?_eq_getElem _⟩
       have ga:(ck n (rs.take i))[r.1.toNat]? = some (nbOf (rs.take i) r.1):=by
        rw[bW (by omega)]
        have:((r.1.toNat:Nat):Int)=r.1:=by omega
        rw[this]
       have gb:(ck n (rs.take i))[r.2.1.toNat]? = some (nbOf (rs.take i) r.2.1):=by
        rw[bW (by omega)]
        have:((r.2.1.toNat:Nat):Int)=r.2.1:=by omega
        rw[this]
       have hda:=hN3.row _ _ _ eda ga;have hdb:=hN3.row _ _ _ edb gb;have ndab:db≠da:=fun z=>by
        obtain⟨h1,q1⟩:=List.getElem?_eq_some_iff.mp eda;obtain⟨h2,q2⟩:=List.getElem?_eq_some_iff.mp edb;have:=(List.getElem_inj nd).mp (q1.trans (z.symm.trans q2.symm));omega
       have npa:p≠da:=jh hrow hda (by intro z;cases z)
       have nDa:D≠da:=jh hN3.top hda (by intro z;cases z)
       have sz:∀v,(dV (nbOf (rs.take i) v)).length < sizeLine:=fun v=>by
        rw[dL];have q:=nbOf_length_le (rs.take i) v;have q2:(rs.take i).length≤rs.length:=by rw[List.length_take];omega
        exact aR (by omega)
       refine⟨_,rfl,p,_,_,_,rfl,rfl,SqL.of hrow,rfl,_,rfl,_,rfl,p,_,_,_,rfl,rfl,SqL.of hrow,rfl,D,_,_,_,rfl,rfl,SqL.of hN3.top,bU a0 (dm eda),_,rfl,p,_,_,_,rfl,rfl,SqL.of hrow,rfl,da,_,rfl,DPut.k (k:=Sum.inl r.2.1) hda (sz _),?_⟩;have hrow2:(upd H3 da (HO.dK (putK (dV (nbOf (rs.take i) r.1)) (Sum.inl r.2.1:Key) (V.int r.2.2)))) p=some (.lst [.int r.1,.int r.2.1,.int r.2.2]):=by rw[ae npa];exact hrow
       have hD2:(upd H3 da (HO.dK (putK (dV (nbOf (rs.take i) r.1)) (Sum.inl r.2.1:Key) (V.int r.2.2)))) D=some (.lst (ds.map V.ref)):=by rw[ae nDa];exact hN3.top
       have hdb2:(upd H3 da (HO.dK (putK (dV (nbOf (rs.take i) r.1)) (Sum.inl r.2.1:Key) (V.int r.2.2)))) db=some (.dK (dV (nbOf (rs.take i) r.2.1))):=by rw[ae ndab];exact hdb
       refine⟨_,rfl,p,_,_,_,rfl,rfl,SqL.of hrow2,rfl,_,rfl,_,rfl,p,_,_,_,rfl,rfl,SqL.of hrow2,rfl,D,_,_,_,rfl,rfl,SqL.of hD2,bU b0 (dm edb),_,rfl,p,_,_,_,rfl,rfl,SqL.of hrow2,rfl,db,_,rfl,DPut.k (k:=Sum.inl r.1) hdb2 (sz _),?_⟩;refine⟨_,rfl,fun b o e=>?_,?_⟩
       . rw[ae (af e (hds db (List.mem_of_getElem? edb)).2.2),ae (af e (hds da (List.mem_of_getElem? eda)).2.2)];exact s3 b o e
       . rw[iy,iy,List.take_add_one,er];exact near_put hN3 nd V0 eda edb
     . rintro σ H3 ⟨v,rfl,s3,hN3⟩;refine⟨_,rfl,k D ds H3 s3 ?_⟩;have l2:=hR.len;rw[List.length_map]at l2;rw[List.length_map,l2,List.take_length]at hN3;exact hN3
end
end Tw
namespace Tw
open PySem L2
section
variable {P:Program}{w:World}{K:PySem.W.Frag}{mg:Str->Option Value}{base:Heap}
def iB:Sp:=fun vs H Q _=>∃(n:Nat) (D:Addr) (ds:List Addr) (rs:List Road) (g:Int),vs=[.ref D,.int g]/\NearAt H D ds (ck n rs)/\n≤12/\(∀r∈rs,Valid n r)/\0≤g/\g < n ∧
 ∀(S:Addr) (st:List (Int×Int)) (H':Hp),Same H H'->H S=none->H' S=some (.dK (dV st))->Srch n (nbOf rs) g st.length st->Q (.ref S) H'
theorem scSteps:FnScope ["near", "goal", "steps", "reached", "done", "here", "place"] ["near", "goal"] (aa dX):=⟨rfl,rfl,rfl,by decide +kernel,rfl,by decide +kernel,by decide +kernel⟩
theorem adj_rng {n:Nat}{rs:List Road}(hv:∀r∈rs,Valid n r){q p:Int}(h:p∈(nbOf rs q).map (·.1)):0≤p/\p < n:=by
 obtain⟨r,hr,j⟩:=(eT rs q p).mp h;have v:=hv r hr;have:=v.a0;have:=v.a1;have:=v.b0;have:=v.b1;rcases j with⟨a,b⟩ | ⟨a,b⟩<;>omega
theorem bC (a:List Int)(x:Int):zV a++[V.int x]=zV (a++[x]):=by unfold zV;rw[List.map_append];rfl
theorem di {z:List Int}{i:Nat}{x:Int}(h:z[i]? = some x):(zV z)[i]? = some (V.int x):=by unfold zV;rw[List.getElem?_map,h];rfl
theorem ao (z:List Int):(zV z).length=z.length:=by unfold zV;simp
theorem dV_get {d:List (Int×Int)}{i:Nat}{kv:Key×V}(h:(dV d)[i]? = some kv):∃p q,d[i]? = some (p,q)/\kv=(Sum.inl p,V.int q):=by
 unfold dV at h;rw[List.getElem?_map]at h;cases e:d[i]? with
 | none=>rw[e]at h;cases h
 | some p=>rw[e]at h;exact⟨p.1,p.2,rfl,(Option.some.inj h).symm⟩
theorem len_le_of_nodup:∀(m:Nat) (l:List Int),l.Nodup->(∀x∈l,0≤x/\x < m)->l.length≤m:=by
 intro m
 induction m with
 | zero =>
  intro l _ h;cases l with
  | nil=>exact Nat.le_refl _
  | cons x t=>have:=h x (by simp);omega
 | succ m ih =>
  intro l hn h;by_cases hm:((m:Nat):Int)∈l
  . have hp:=List.perm_cons_erase hm;rw[hp.length_eq,List.length_cons];obtain⟨h1,h2⟩:=List.nodup_cons.mp (hp.nodup_iff.mp hn);have:=ih (l.erase (m:Int)) h2 fun x hx=>by
     have b:=h x (List.mem_of_mem_erase hx);have:x≠(m:Int):=fun e=>h1 (e▸hx);omega
    omega
  . have:=ih l hn fun x hx=>by
     have b:=h x hx;have:x≠(m:Int):=fun e=>hm (e▸hx);omega
    omega
theorem Mid.length {n:Nat}{nb:Int->List (Int×Int)}{g:Int}{k i:Nat}{q:Int}{st:List (Int×Int)}(s:Mid n nb g k i q st):st.length≤n:=by
 have:=len_le_of_nodup n (st.map (·.1)) s.nd fun x hx=>by
  obtain⟨p,hp,e⟩:=List.mem_map.mp hx;rw[←e];exact s.rng p hp
 simpa using this
theorem ok_steps {f:Addr}{fd:FuncData}(F:Def K mg "steps_to" dX ["near", "goal"] f fd)(B:Bi K mg):FnOk P w K mg base CX0 1 f fd ["near", "goal"] iB:=by
 refine F.fn.ok scSteps (fun vs H Q E h=>?_) (fun cdv A outer s H vs Q E hr h=>?_)
 . obtain⟨n,D,ds,rs,g,rfl,_⟩:=h;rfl
 . obtain⟨n,D,ds,rs,g,rfl,hN,hn,hv,hg0,hg1,k⟩:=h;have hu:=iT hr;have nd:=scSteps.nd;refine⟨_,ad (aQ (i:=2) nd rfl (Or.inl rfl) (pe_disp (pps_cons (pv 1) (pv 1) pps_nil) rfl rfl (by simp) (by decide)))
    (ad (aQ (i:=3) nd rfl (Or.inl rfl) (aK (a2 (pv 1) a4)))
    (ad (aQ (i:=4) nd rfl (Or.inl rfl) a3)
    (ad (ps_while PassesOwn.never (ax dP (pv 4) (ak bB (by rfl) B.len PySem.boot_len (a2 (pv 3) a4)) (av _))
      (ad (aQ (i:=5) nd rfl (Or.inl rfl) (aF b7 (pv 3) (pv 4) (fun _ _=>rfl)))
      (ad (ps_thaw (bV PassesOwn.never rfl (pi_dict (aF b7 (pv 0) (pv 5) (fun _ _=>rfl))) (bj (i:=6) nd rfl (Or.inl rfl))
        (ah (b6 (pt_cmp (pc_dnotin hu (pv 6) (pv 2)))
          (ad (gN hu (pv 2) (pv 6) (pv 5) rfl)
          (ah (cu (eE PySem.F.plainAttrs_list PySem.F.slot_list_append PySem.F.type_list_append dg (pv 3) (a2 (pv 6) a4)))))
          aG))))
      (ah (ps_aug (i:=4) nd rfl (Or.inl rfl) a3 ip_add)))))
    (ah (aB (pv 2)))))),?_⟩
   intro S hS;refine⟨_,rfl,_,rfl,a9,[(Sum.inl g,V.int g)],rfl,by show 1≤15;decide,?_⟩
   have eS:eV [] [((Sum.inl g:Key),V.int g)]=dV [(g,g)]:=rfl;rw[eS];refine⟨_,rfl,by show 1≤sizeLine;exact aO (by decide),fun R hR=>?_⟩
   have nRS:R≠S:=fun z=>by rw[z,a9]at hR;cases hR
   have hR0:H R=none:=by
    rw[ae nRS,ae nRS]at hR;exact hR
   have dl:ds.length=n:=by rw[hN.len,bS]
   refine⟨fun m σ H2=>∃(k:Nat) (st:List (Int×Int)) (v5 v6:Option V),m=n - k/\σ=[some (.ref D),some (.int g),some (.ref S),some (.ref R),some (.int k),v5,v6]/\k≤st.length ∧
    Same H H2/\H2 S=some (.dK (dV st))/\H2 R=some (.lst (zV (st.map (·.1))))/\Srch n (nbOf rs) g k st,⟨n,0,[(g,g)],none,none,rfl,rfl,Nat.zero_le _,?_,?_,?_,Srch.start hg0 hg1⟩,?_⟩
   . intro b o e;rw[ae (af e hR0),ae (af e hS),ae (af e hS)];exact e
   . rw[ae nRS.symm,a9]
   . rw[a9];rfl
   . rintro m σ H2 ⟨k0,st,v5,v6,rfl,rfl,hk,sm,hS2,hR2,sr⟩;refine⟨_,rfl,_,rfl,R,_,rfl,.inl (SqL.of hR2),_,_,rfl,rfl,_,rfl,?_⟩;have hle:=sr.length;refine iteD (fun hlt=>?_) (fun hge=>?_)
     . rw[ao,List.length_map]at hlt;have hlt':k0 < st.length:=by omega
       obtain⟨q,hq⟩:∃q,(st.map (·.1))[k0]? = some q:=⟨(st.map (·.1))[k0]'(by simpa using hlt'),List.getElem?_eq_getElem _⟩
       have hqr:0≤q/\q < n:=by
        have:=List.mem_of_getElem? hq;obtain⟨p,hp,e⟩:=List.mem_map.mp this;rw[←e];exact sr.rng p hp
       obtain⟨d,hd⟩:∃d,ds[q.toNat]? = some d:=⟨ds[q.toNat]'(by omega),List.getElem?_eq_getElem _⟩
       have gq:(ck n rs)[q.toNat]? = some (nbOf rs q):=by
        rw[bW (by omega)]
        have:((q.toNat:Nat):Int)=q:=by omega
        rw[this]
       have hdH:H d=some (.dK (dV (nbOf rs q))):=hN.row _ _ _ hd gq;have hd2:=sm _ _ hdH;have hD2:=sm _ _ hN.top;have nSd:S≠d:=fun z=>by rw[z]at hS;rw[hS]at hdH;cases hdH
       have nRd:R≠d:=fun z=>by rw[z]at hR0;rw[hR0]at hdH;cases hdH
       refine⟨fun σ' H'=>∃(st':List (Int×Int)) (v5 v6:Option V),σ'=[some (.ref D),some (.int g),some (.ref S),some (.ref R),some (.int ((k0:Int)+1)),v5,v6]/\k0+1≤st'.length ∧
        Same H H'/\H' S=some (.dK (dV st'))/\H' R=some (.lst (zV (st'.map (·.1))))/\Srch n (nbOf rs) g (k0+1) st',?_,?_⟩
       . rintro σ' H' ⟨st',v5,v6,rfl,h1,h2,h3,h4,h5⟩;have:=h5.length;exact⟨n - (k0+1),by omega,k0+1,st',v5,v6,rfl,by simp,h1,h2,h3,h4,h5⟩
       . refine⟨_,rfl,_,rfl,R,_,_,_,rfl,rfl,SqL.of hR2,cw (di hq),?_⟩;refine⟨_,rfl,_,rfl,D,_,_,_,rfl,rfl,SqL.of hD2,bU hqr.1 (dm hd),d,_,rfl,hd2,fun o=>?_⟩;refine for_dict (fun i σ H4=>∃(st':List (Int×Int)) (v6:Option V),σ=[some (.ref D),some (.int g),some (.ref S),some (.ref R),some (.int k0),some (.int q),v6]/\Mid n (nbOf rs) g k0 i q st' ∧
          H4 S=some (.dK (dV st'))/\H4 R=some (.lst (zV (st'.map (·.1))))/\H4 d=some (.frz o (.dK (dV (nbOf rs q))))/\(∀b u,H b=some u->b≠d->H4 b=some u)) ?_ ?_ ?_ ?_
         . exact⟨st,_,rfl,sr.mid hq,by rw[ae nSd];exact hS2,by rw[ae nRd];exact hR2,a9,fun b u e nb=>by rw[ae nb];exact sm b u e⟩
         . rintro i σ H4 _ ⟨_,_,_,_,_,_,h,_⟩;exact h
         . rintro i kv σ H4 hi ⟨st',v6,rfl,md,hS4,hR4,hd4,sm4⟩;obtain⟨p,l,hpl,rfl⟩:=dV_get hi;have hp:((nbOf rs q).map (·.1))[i]? = some p:=by rw[List.getElem?_map,hpl];rfl
           have pr:=adj_rng hv (List.mem_of_getElem? hp);have l':st'.length≤n:=md.length;refine⟨_,rfl,_,rfl,S,_,rfl,DGet.k (k:=Sum.inl p) hS4,_,rfl,?_⟩;rw[dV_val];refine iteN (fun e=>?_) (fun e=>?_)
           . have hnp:p∉st'.map (·.1):=of_decide_eq_false e;refine⟨_,rfl,_,rfl,_,rfl,S,_,rfl,DPut.k (k:=Sum.inl p) hS4 (by rw[dL];exact aR (by omega)),?_⟩
             have nRS':R≠S:=nRS;refine⟨_,rfl,.inl ⟨rfl,_,SqL.of (by rw[ae nRS'];exact hR4)⟩,_,rfl,R,_,_,rfl,rfl,by rw[ae nRS'];exact hR4,by rw[ao,List.length_map];exact aR (by omega),?_⟩
             refine⟨st'++[(p,q)],_,rfl,md.new hp hnp pr.1 pr.2,?_,?_,?_,?_⟩
             . rw[ae nRS.symm,a9,iy,put_new hnp]
             . rw[a9];show some (HO.lst (zV (st'.map (·.1))++[V.int p]))=_;rw[bC,List.map_append];rfl
             . rw[ae nRd.symm,ae nSd.symm];exact hd4
             . intro b u e nb;rw[ae (af e hR0),ae (af e hS)];exact sm4 b u e nb
           . have hp':p∈st'.map (·.1):=of_decide_eq_true e;exact⟨st',_,rfl,md.old hp hp',hS4,hR4,hd4,sm4⟩
         . rintro σ H4 ⟨st',v6,rfl,md,hS4,hR4,hd4,sm4⟩;refine⟨d,o,_,hd4,(fun o' u' z=>by rw[hd2]at z;cases z),?_⟩
           refine⟨_,rfl,_,_,rfl,rfl,?_⟩;have sd:=md.done (by rw[dL])
           refine⟨st',_,_,rfl,?_,?_,by rw[ae nSd];exact hS4,by rw[ae nRd];exact hR4,sd⟩
           . have:=(List.getElem?_eq_some_iff.mp md.here).1;rw[List.length_map]at this;omega
           . intro b u e;by_cases nb:b=d
             . subst nb;rw[a9,←hdH];exact e.symm▸rfl
             . rw[ae nb];exact sm4 b u e nb
     . rw[ao,List.length_map]at hge;have e:k0=st.length:=by omega
       subst e;exact⟨_,rfl,k S st H2 sm hS hS2 sr⟩
end
end Tw
namespace Tw
open PySem L2
section
variable {P:Program}{w:World}{K:PySem.W.Frag}{mg:Str->Option Value}{base:Heap}
theorem gI {n i:Nat}(h:i < n):(pl n).take (i+1)=(pl n).take i++[(i:Int)]:=by
 rw[List.take_add_one,iq h];rfl
theorem eF:∀{rs qs:List Road},rs.map rowI=qs.map rowI->rs=qs
 | [],[],_=>rfl
 | [],_::_,h=>by simp at h
 | _::_,[],h=>by simp at h
 | r::rs,q::qs,h=>by
  rw[List.map_cons,List.map_cons]at h;injection h with h1 h2
  rw[hG h1,eF h2]
theorem ay (i j:Int):decide (V.int i=V.int j)=decide (i=j):=by
 by_cases e:i=j
 . subst e;simp
 . simp[e]
theorem IsTree.iff {n:Nat}{rs:List Road}(h1:1≤n)(h2:n≤12)(hl:(rs.length:Int)=n - 1)(hv:∀r∈rs,Valid n r):IsTree n (rs.map rowI)<->Conn n rs:=by
 constructor
 . rintro⟨_,_,_,qs,e,_,c⟩;rw[eF e];exact c
 . intro c;exact⟨by omega,by omega,by rw[List.length_map];exact hl,rs,rfl,hv,c⟩
def fz:Sp:=fun vs H Q _=>∃(n:Int) (a:Addr) (as:List Addr) (zss:List (List Int)),vs=[.int n,.ref a]/\RowsAt H a as zss/\zss.length≤100 ∧
 ∀(b:Bool) (H':Hp),Same H H'->(b=true<->IsTree n zss)->Q (.bl b) H'
theorem scIsTree:FnScope ["many", "roads"] ["many", "roads"] (aa cR):=⟨rfl,rfl,rfl,by decide +kernel,rfl,by decide +kernel,by decide +kernel⟩
theorem ok_istree {f fW fP fR fN fS:Addr}{fd fdW fdP fdR fdN fdS:FuncData}(F:Def K mg "is_tree" cR ["many", "roads"] f fd)(FW:Def K mg "is_whole" bP ["value"] fW fdW)(FP:Def K mg "is_place" d3 ["many", "value"] fP fdP)(FR:Def K mg "is_road" fK ["many", "row"] fR fdR)(FN:Def K mg "neighbours" f7 ["many", "roads"] fN fdN)(FS:Def K mg "steps_to" dX ["near", "goal"] fS fdS)(B:Bi K mg){tm:Tok}(hM:mg "MOST_PLACES" = some (.int 12 tm)):FnOk P w K mg base CX0 4 f fd ["many", "roads"] fz:=by
 have GW:FnOk P w K mg base CX0 1 fW fdW ["value"] cr:=cy FW B;have GR:FnOk P w K mg base CX0 3 fR fdR ["many", "row"] j9:=ok_road FR FW FP B;have GN:FnOk P w K mg base CX0 1 fN fdN ["many", "roads"] ja:=ok_near FN B;have GS:FnOk P w K mg base CX0 1 fS fdS ["near", "goal"] iB:=ok_steps FS B;refine F.fn.ok scIsTree (fun vs H Q E h=>?_) (fun cdv A outer s H vs Q E hr h=>?_)
 . obtain⟨n,a,as,zss,rfl,_⟩:=h;rfl
 . obtain⟨n,a,as,zss,rfl,hR,hz,k⟩:=h;have hr1:Room 1 _:=hr.mono (by decide)
   refine⟨_,ad (b6 (PW.pt (bN (cG (cz (aj GW hr1 rfl FW.mg FW.fn.kp FW.bn .nil aE (a2 (pv 0) a4))))
    (bN (ax dP (pv 0) a3 (av _)) (ci (ax gp (pv 0) (pe_glob (v:=.int 12) rfl hM ⟨_,rfl⟩) (av _)))))) (ah (aB bO)) aG)
    (ad (b6 (PW.pt (bN (ax dy (ak bB (by rfl) B.len PySem.boot_len (a2 (pv 1) a4)) (ar bQ (pv 0) a3) (av _))
      (ci (cG (cz (ak (cO rfl) (by rfl) B.all PyProof.Rows.boot_all (a2 (bL (aa cR).names ["many", "roads"] ["many", "roads", "row"] (gO (pv 1)) (fun _ _ _ _=>bF)
        (fun _ _ _ _=>aj GR hr rfl FR.mg FR.fn.kp FR.bn .nil aE (a2 (pv 0) (a2 (pv 2) a4)))) a4))))))) (ah (aB bO)) aG)
    (ah (aB (aU aV (ak call_lenD (by rfl) B.len PySem.boot_len (a2 (aj GS hr1 rfl FS.mg FS.fn.kp FS.bn .nil aE
      (a2 (aj GN hr1 rfl FN.mg FN.fn.kp FN.bn .nil aE (a2 (pv 0) (a2 (pv 1) a4))) (a2 a3 a4))) a4)) (pv 0) (av _))))),?_⟩
   refine⟨_,rfl,n,rfl,_,rfl,iteF ?_⟩;refine⟨_,rfl,_,_,rfl,rfl,_,rfl,?_⟩;refine iteD (fun h1=>?_) (fun h1=>?_)
   . refine iteT ?_;exact k false H (Same.refl H) ⟨(fun z=>nomatch z),fun t=>absurd t.lo (by omega)⟩
   refine⟨_,rfl,_,_,rfl,rfl,_,rfl,?_⟩;refine iteD (fun h2=>?_) (fun h2=>?_)
   . exact k false H (Same.refl H) ⟨(fun z=>nomatch z),fun t=>absurd t.hi (by omega)⟩
   obtain⟨m,rfl⟩:∃m:Nat,n=(m:Int):=⟨n.toNat,by omega⟩
   have m1:1≤m:=by omega
   have m2:m≤12:=by omega
   have len:as.length=zss.length:=hR.len;refine⟨_,rfl,a,_,rfl,.inl (SqL.of hR.top),_,rfl,_,_,rfl,rfl,rfl,_,rfl,?_⟩;rw[ay,List.length_map,len];refine iteN (fun e=>?_) (fun e=>?_)
   . refine iteT ?_;have:=of_decide_eq_false e;exact k false H (Same.refl H) ⟨(fun z=>nomatch z),fun t=>absurd t.len (by omega)⟩
   have hlen:=of_decide_eq_true e;refine⟨_,rfl,a,rfl,⟨_,SqL.of hR.top⟩,fun D hD=>?_⟩;refine cq (K:=K) (a:=a) (xs:=as.map V.ref) (fun i ys H2=>ys=((zss.take i).map (bM m)).map V.bl/\H2 D=some (.lst ys)/\Same H H2) ?_ ?_ ?_ ?_
   . rintro i ys H2 ⟨_,h2,sm⟩;exact⟨h2,SqL.of (sm _ _ hR.top)⟩
   . exact⟨rfl,a9,ac hD⟩
   . rintro i y ys H2 hi ⟨rfl,hD2,sm⟩;obtain⟨p,hp,rfl⟩:=dJ hi;have hil:i < zss.length:=by
      have:=(List.getElem?_eq_some_iff.mp hp).1;omega
     have er:zss[i]? = some zss[i]:=List.getElem?_eq_getElem hil;refine yesI ?_;refine⟨_,rfl,_,rfl,(m:Int),p,zss[i],rfl,sm _ _ (hR.row i p _ hp er),hD2,?_,?_,a9,?_⟩
     . rw[List.length_map,List.length_map,List.length_take];exact aR (by omega)
     . rw[List.take_add_one,er,List.map_append,List.map_append];rfl
     . exact fun b o e=>by rw[ae (af e hD)];exact sm b o e
   . rintro ys H2 ⟨rfl,hD2,sm⟩;rw[List.length_map,len,List.take_length]at hD2;refine⟨D,zss.map (bM m),rfl,SqL.of hD2,_,rfl,?_⟩;have ea:(zss.map (bM m)).all id=zss.all (bM m):=by rw[List.all_map];rfl
     rw[ea];refine iteN (fun e=>?_) (fun e=>?_)
     . refine k false H2 sm ⟨(fun z=>nomatch z),fun t=>?_⟩;obtain⟨rs,e2,v,_⟩:=t.ex;rw[e2,all_roads.mpr v]at e;cases e
     . obtain⟨rs,rfl,v⟩:=fQ e;rw[List.length_map]at hlen hz;refine⟨_,rfl,_,rfl,m,a,as,rs,rfl,hR.mono sm,m2,v,hz,fun E ds H3 sm3 hN=>?_⟩;refine⟨m,E,ds,rs,0,rfl,hN,m2,v,by omega,by omega,fun S st H4 sm4 hS0 hS4 sr=>?_⟩
       refine⟨S,_,rfl,hS4,_,rfl,rfl,?_⟩;rw[ay,dL];refine k _ H4 ((sm.trans sm3).trans sm4) ?_;rw[decide_eq_true_iff,IsTree.iff m1 m2 hlen v,←sr.conn m1];omega
end
end Tw
namespace Tw
open PySem L2
section
variable {P:Program}{w:World}{K:PySem.W.Frag}{mg:Str->Option Value}{base:Heap}
def gK:Sp:=fun vs H Q _=>∃(n:Int) (a:Addr) (as:List Addr) (zss:List (List Int)),vs=[.int n,.ref a]/\RowsAt H a as zss/\zss.length≤100/\IsTree n zss/\∀H':Hp,Same H H'->Q .non H'
theorem scCheck:FnScope ["many", "roads"] ["many", "roads"] (aa e8):=⟨rfl,rfl,rfl,by decide +kernel,rfl,by decide +kernel,by decide +kernel⟩
theorem ok_check {f fT:Addr}{fd fdT:FuncData}(F:Def K mg "check_tree" e8 ["many", "roads"] f fd)(FT:Def K mg "is_tree" cR ["many", "roads"] fT fdT)(GT:FnOk P w K mg base CX0 4 fT fdT ["many", "roads"] fz):FnOk P w K mg base CX0 5 f fd ["many", "roads"] gK:=by
 refine F.fn.ok scCheck (fun vs H Q E h=>?_) (fun cdv A outer s H vs Q E hr h=>?_)
 . obtain⟨n,a,as,zss,rfl,_⟩:=h;rfl
 . obtain⟨n,a,as,zss,rfl,hR,hz,t,k⟩:=h;refine⟨_,ah (b6 (cG (cz (aj GT hr rfl FT.mg FT.fn.kp FT.bn .nil aE (a2 (pv 0) (a2 (pv 1) a4))))) (ah ps_never) aG),?_⟩;refine⟨_,rfl,_,rfl,n,a,as,zss,rfl,hR,hz,fun b H' sm hb=>?_⟩;refine⟨_,rfl,?_⟩;rw[hb.mpr t];exact iteF (k H' sm)
end
end Tw
namespace Tw
open PySem L2
section
variable {P:Program}{w:World}{K:PySem.W.Frag}{mg:Str->Option Value}{base:Heap}
theorem zV_at {zs:List Int}{i:Nat}{y:V}(hi:(zV zs)[i]? = some y):∃z,zs[i]? = some z/\y=V.int z:=by
 unfold zV at hi;rw[List.getElem?_map]at hi;cases e:zs[i]? with
 | none=>rw[e]at hi;cases hi
 | some z=>rw[e]at hi;exact⟨z,rfl,(Option.some.inj hi).symm⟩
end
end Tw
namespace Tw
open PySem L2
section
variable {P:Program}{w:World}{K:PySem.W.Frag}{mg:Str->Option Value}{base:Heap}
def plcs (n:Int)(zs:List Int):Bool:=(zs.map fun z=>decide (0≤z/\z < n)).all id
theorem plcs_iff {n:Int}{zs:List Int}:plcs n zs=true<->∀z∈zs,0≤z/\z < n:=by
 unfold plcs;rw[List.all_eq_true];exact⟨fun h z hz=>of_decide_eq_true (h _ (List.mem_map.mpr ⟨z,hz,rfl⟩)),fun h x hx=>by obtain⟨z,hz,rfl⟩:=List.mem_map.mp hx;exact decide_eq_true (h z hz)⟩
def dW:Sp:=fun vs H Q _=>∃(n:Int) (a:Addr) (zs:List Int),vs=[.int n,.ref a]/\H a=some (.lst (zV zs))/\zs.length≤100/\∀H':Hp,Same H H'->Q (.bl (plcs n zs)) H'
theorem scAreP:FnScope ["many", "some"] ["many", "some"] (aa bi):=⟨rfl,rfl,rfl,by decide +kernel,rfl,by decide +kernel,by decide +kernel⟩
theorem ok_arep {f fP fW:Addr}{fd fdP fdW:FuncData}(F:Def K mg "are_places" bi ["many", "some"] f fd)(FP:Def K mg "is_place" d3 ["many", "value"] fP fdP)(FW:Def K mg "is_whole" bP ["value"] fW fdW)(B:Bi K mg):FnOk P w K mg base CX0 3 f fd ["many", "some"] dW:=by
 have GP:FnOk P w K mg base CX0 2 fP fdP ["many", "value"] fc:=g5 FP FW B;refine F.fn.ok scAreP (fun vs H Q E h=>?_) (fun cdv A outer s H vs Q E hr h=>?_)
 . obtain⟨n,a,zs,rfl,_⟩:=h;rfl
 . obtain⟨n,a,zs,rfl,ha,hl,k⟩:=h;refine⟨_,(ah (aB (ak (cO rfl) (by rfl) B.all PyProof.Rows.boot_all (a2 (bL (aa bi).names ["many", "some"] ["many", "some", "value"] (bd K (pv 1)) (fun _ _ _ _=>bF) (fun _ _ _ _=>(aj GP (hr.mono (by decide)) rfl FP.mg FP.fn.kp FP.bn .nil aE (a2 (pv 0) (a2 (pv 2) a4))))) a4)))),?_⟩
   refine⟨_,rfl,a,rfl,⟨_,SqL.of ha⟩,fun D hD=>?_⟩;refine cq (K:=K) (a:=a) (xs:=zV zs) (fun i ys H2=>ys=((zs.take i).map fun z=>decide (0≤z/\z < n)).map V.bl/\H2 D=some (.lst ys)/\Same H H2) (fun _ _ _ h=>⟨h.2.1,SqL.of (h.2.2 _ _ ha)⟩) ⟨rfl,a9,ac hD⟩ ?_ ?_
   . rintro i y ys H2 hi ⟨rfl,hD2,s2⟩;obtain⟨z,hz',rfl⟩:=zV_at hi;have hil:i < zs.length:=(List.getElem?_eq_some_iff.mp hz').1;refine yesI ?_;refine⟨_,rfl,_,rfl,n,z,rfl,hD2,by rw[List.length_map,List.length_map,List.length_take];exact aR (by omega),?_,a9,fun b o e=>by rw[ae (af e hD)];exact s2 b o e⟩
     rw[List.take_add_one,hz',List.map_append,List.map_append];rfl
   . rintro ys H2 ⟨rfl,hD2,s2⟩;refine⟨D,_,rfl,SqL.of hD2,?_⟩;rw[List.take_of_length_le (by rw[ao];exact Nat.le_refl _)]
     exact k H2 s2
end
end Tw
namespace Tw
open PySem L2
section
variable {P:Program}{w:World}{K:PySem.W.Frag}{mg:Str->Option Value}{base:Heap}
end
end Tw
namespace Tw
open PySem L2
open PySem.Builtin.Int (intBits)
section
variable {P:Program}{w:World}{K:PySem.W.Frag}{mg:Str->Option Value}{base:Heap}
def mix1 (x k:Int):Int:=(x*x+k*x+7*k*k)*1103515245 % 2147483629
def mixF (x k:Int):Int:=mix1 x k*mix1 x k % 2147483587
theorem mix1_lo (x k:Int):0≤mix1 x k:=Int.emod_nonneg _ (by decide)
theorem mix1_hi (x k:Int):mix1 x k < 2147483629:=Int.emod_lt_of_pos _ (by decide)
theorem mixF_lo (x k:Int):0≤mixF x k:=Int.emod_nonneg _ (by decide)
theorem mixF_hi (x k:Int):mixF x k < 2147483587:=Int.emod_lt_of_pos _ (by decide)
def fw:Sp:=fun vs H Q _=>∃x k:Int,vs=[.int x,.int k]/\intBits x≤2 ^ 21/\-1000 < k/\k < 1000/\Q (.int (mixF x k)) H
theorem scMix:FnScope ["_law_number", "_law_k", "_law_mixed"] ["_law_number", "_law_k"] (aa sMix):=⟨rfl,rfl,rfl,by decide +kernel,rfl,by decide +kernel,by decide +kernel⟩
theorem eR {f:Addr}{fd:FuncData}(F:Def K mg "_law_mix" sMix ["_law_number", "_law_k"] f fd):FnOk P w K mg base CX0 1 f fd ["_law_number", "_law_k"] fw:=by
 refine F.fn.ok scMix (fun vs H Q E h=>?_) (fun cdv A outer s H vs Q E hr h=>?_)
 . obtain⟨x,k,rfl,_⟩:=h;rfl
 . obtain⟨x,k,rfl,hx,k0,k1,q⟩:=h;refine⟨_,ad (aQ (i:=2) scMix.nd rfl (Or.inl rfl) (ar b5 (ar dn (ar aY (ar aY (ar dG (pv 0) (pv 0)) (ar dn (pv 1) (pv 0))) (ar dn (ar dn a3 (pv 1)) (pv 1))) a3) a3))
    (ah (aB (ar b5 (ar dn (pv 2) (pv 2)) a3))),?_⟩
   refine⟨_,rfl,_,rfl,_,_,rfl,rfl,hX hx hx (by decide),_,rfl,_,rfl,_,_,rfl,rfl,.inl ⟨by omega,by omega⟩,_,_,rfl,rfl,_,rfl,_,_,rfl,rfl,.inl ⟨by decide,by decide⟩,_,rfl,_,_,rfl,rfl,.inr ⟨by omega,by omega⟩,_,_,rfl,rfl,_,_,rfl,rfl,.inr ⟨by decide,by decide⟩,_,_,rfl,rfl,(by show(0:Int) < 2147483629;decide),?_⟩
   have a:=mix1_lo x k;have b:=mix1_hi x k;refine⟨_,rfl,_,rfl,_,_,rfl,rfl,.inl ⟨?_,?_⟩,_,_,rfl,rfl,(by show(0:Int) < 2147483587;decide),q⟩
   . show -(2 ^ 64) < mix1 x k;omega
   . show mix1 x k < 2 ^ 64;omega
def fF (K:PySem.W.Frag):Sp:=fun vs H Q _=>∃(a:Addr) (ns:List Int) (k:Nat),vs=[.ref a,.int k]/\SqL K H a (zV ns)/\Q (.int (ns.getD k 0)) H
theorem scCell:FnScope ["_law_script", "_law_k"] ["_law_script", "_law_k"] (aa dO):=⟨rfl,rfl,rfl,by decide +kernel,rfl,by decide +kernel,by decide +kernel⟩
theorem fe {f:Addr}{fd:FuncData}(F:Def K mg "_law_cell_at" dO ["_law_script", "_law_k"] f fd)(B:Bi K mg):FnOk P w K mg base CX0 1 f fd ["_law_script", "_law_k"] (fF K):=by
 refine F.fn.ok scCell (fun vs H Q E h=>?_) (fun cdv A outer s H vs Q E hr h=>?_)
 . obtain⟨a,ns,k,rfl,_⟩:=h;rfl
 . obtain⟨a,ns,k,rfl,hS,q⟩:=h;refine⟨_,ad (b6 (ax dP (pv 1) (ak bB (by rfl) B.len PySem.boot_len (a2 (pv 0) a4)) (av _)) (ah (aB (aF b7 (pv 0) (pv 1) (fun _ _=>rfl)))) aG)
    (ah (aB a3)),?_⟩
   refine⟨_,rfl,_,rfl,a,_,rfl,.inl hS,_,_,rfl,rfl,_,rfl,?_⟩;rw[ao];refine iteD (fun h=>?_) (fun h=>?_)
   . have hk:k < ns.length:=by omega
     have e:ns[k]? = some ns[k]:=List.getElem?_eq_getElem hk;refine⟨_,rfl,_,rfl,a,_,_,_,rfl,rfl,hS,cw (di e),?_⟩;rw[List.getD_eq_getElem?_getD,e]at q;exact q
   . have hk:ns[k]? = none:=List.getElem?_eq_none (by omega)
     rw[List.getD_eq_getElem?_getD,hk]at q;exact q
theorem cj {K:PySem.W.Frag}{H:Hp}{p:Addr}{xs:List V}(h:H p=some (.lst xs)){i:Int}(h0:0≤i)(h1:i < xs.length):∃v,v∈xs/\SqL K H p xs/\atI xs i=some v/\xs[i.toNat]? = some v:=by
 have hi:i.toNat < xs.length:=by omega
 exact⟨xs[i.toNat],List.getElem_mem hi,SqL.of h,bU h0 (List.getElem?_eq_getElem hi),List.getElem?_eq_getElem hi⟩
theorem bits_ediv {a:Int}{m:Nat}(h:intBits a≤m){b:Int}(hb:0 < b):intBits (a / b)≤m+1:=by
 have h1:=PyProof.Rows.lt_pow_of_bits h (Nat.le_refl m);have h2:(a / b).natAbs≤a.natAbs+1:=by
  have e:=Int.ediv_mul_le a (Int.ne_of_gt hb);have l:=Int.lt_ediv_add_one_mul_self a hb;rcases Int.le_total 0 (a / b)with q | q
  . have:a / b≤a / b*b:=by
     have:=Int.mul_le_mul_of_nonneg_left (show(1:Int)≤b by omega) q
     rw[Int.mul_one]at this;exact this
    omega
  . rcases Int.lt_or_eq_of_le q with q' | q'
    . have:(a / b+1)*b≤a / b+1:=by
       have:=Int.mul_le_mul_of_nonneg_left (show(1:Int)≤b by omega) (show 0≤-(a / b+1) by omega)
       rw[Int.mul_one,Int.neg_mul]at this;omega
      omega
    . omega
 refine PyProof.Rows.intBits_le ?_;rw[Nat.pow_succ];omega
theorem bits_small {a:Int}(h1:-(2 ^ 64) < a)(h2:a < 2 ^ 64):intBits a≤64:=intBits_le_64 h1 h2
theorem eY {a b:Int}(ha:intBits a≤2 ^ 20+1)(hb:-(2 ^ 64) < b/\b < 2 ^ 64):intBits (a+b)≤2 ^ 21:=by
 refine Nat.le_trans (PyProof.Rows.bits_add ha (bits_small hb.1 hb.2)) ?_;have:max (2 ^ 20+1) 64=2 ^ 20+1:=by decide
 rw[this];decide
end
end Tw
namespace Tw
open PySem L2
open PySem.Builtin.Int (intBits)
section
variable {P:Program}{w:World}{K:PySem.W.Frag}{mg:Str->Option Value}{base:Heap}
def j8:Sp:=fun vs H Q _=>∃c k:Int,vs=[.int c,.int k]/\intBits c≤2 ^ 20/\1≤k/\k≤12/\∀(o:Int) (H':Hp),Same H H'->1≤o->o≤10 ^ 39->Q (.int o) H'
theorem scSize:FnScope ["_law_cell", "_law_k", "_law_mixed", "_law_some"] ["_law_cell", "_law_k"] (aa fJ):=⟨rfl,rfl,rfl,by decide +kernel,rfl,by decide +kernel,by decide +kernel⟩
theorem ok_size {f fM:Addr}{fd fdM:FuncData}(F:Def K mg "_law_size" fJ ["_law_cell", "_law_k"] f fd)(FM:Def K mg "_law_mix" sMix ["_law_number", "_law_k"] fM fdM):FnOk P w K mg base CX0 2 f fd ["_law_cell", "_law_k"] j8:=by
 have GM:FnOk P w K mg base CX0 1 fM fdM ["_law_number", "_law_k"] fw:=eR FM;refine F.fn.ok scSize (fun vs H Q E h=>?_) (fun cdv A outer s H vs Q E hr h=>?_)
 . obtain⟨x,k,rfl,_⟩:=h;rfl
 . obtain⟨c,k,rfl,hc,k0,k1,q⟩:=h;refine⟨_,ad (aQ (i:=2) scSize.nd rfl (Or.inl rfl) (aj GM hr rfl FM.mg FM.fn.kp FM.bn .nil aE (a2 (ar aY (pv 0) (ar dn (ar dn a3 (pv 1)) (pv 1))) (a2 a3 a4))))
    (ad (aQ (i:=3) scSize.nd rfl (Or.inl rfl) (aK (a2 (ar aY a3 (ar b5 (pv 2) a3)) (a2 (ar aY a3 (ar b5 (pv 2) a3))
      (a2 (ar aY (ar dn (ar aY a3 (ar b5 (pv 2) a3)) (ar e9 a3 a3)) (ar b5 (pv 2) a3))
      (a2 (ar aY a3 (ar b5 (ar dn (pv 0) (pv 2)) (ar e9 a3 a3))) a4))))))
    (ah (aB (aF b7 (pv 3) (ar b5 (ar cV (pv 0) a3) a3) (fun _ _=>rfl))))),?_⟩
   have kk:-(2 ^ 64) < 3*k*k/\3*k*k < 2 ^ 64:=by
    have a:=Int.mul_le_mul (show 3*k≤36 by omega) k1 (by omega) (by omega)
    have b:=Int.mul_nonneg (show 0≤3*k by omega) (show 0≤k by omega)
    omega
   refine⟨_,rfl,_,rfl,_,_,rfl,rfl,.inl ⟨by decide,by decide⟩,_,rfl,_,_,rfl,rfl,.inr ⟨by omega,by omega⟩,_,_,rfl,rfl,_,_,rfl,eY (Nat.le_trans hc (by decide)) kk,by decide,by decide,?_⟩
   generalize hm:mixF (c+3*k*k) 2=m;have m0:0≤m:=hm▸mixF_lo _ _;have m1:m < 2147483587:=hm▸mixF_hi _ _;have n4:=Int.emod_nonneg m (show(4:Int)≠0 by decide)
   have l4:=Int.emod_lt_of_pos m (show(0:Int) < 4 by decide)
   refine⟨_,rfl,_,_,rfl,rfl,(by show(0:Int) < 9;decide),_,_,rfl,rfl,_,rfl,_,_,rfl,rfl,(by show(0:Int) < 2;decide),_,_,rfl,rfl,
    _,rfl,_,_,rfl,rfl,(by show(0:Int) < 4;decide),_,_,rfl,rfl,_,_,rfl,rfl,⟨by decide,by decide,by decide⟩,_,_,rfl,rfl,.inl ⟨by omega,by omega⟩,_,rfl,_,_,rfl,rfl,(by show(0:Int) < 5;decide),_,_,rfl,rfl,
    _,rfl,_,rfl,_,_,rfl,rfl,.inr ⟨by omega,by omega⟩,_,_,rfl,rfl,⟨by decide,by decide,by decide⟩,_,_,rfl,rfl,(by show(0:Int) < 10 ^ 39;decide),_,_,rfl,rfl,by show 4≤sizeLine;exact aO (by decide),fun p hp=>?_⟩
   refine⟨_,rfl,_,rfl,_,_,rfl,rfl,⟨by decide,by decide⟩,_,_,rfl,rfl,(by show(0:Int) < 4;decide),?_⟩
   obtain⟨v,hv,hs,hat,_⟩:=cj (K:=K) (H:=upd H p (.lst [V.int (1+m % 9),V.int (1+m % 2),V.int ((1+m % 4)*10 ^ 30+m % 5),V.int (1+c*m % 10 ^ 39)])) a9 (i:=c / 5 % 4) (Int.emod_nonneg _ (by decide)) (Int.emod_lt_of_pos _ (by decide))
   refine⟨p,_,_,v,rfl,rfl,hs,hat,?_⟩;simp only[List.mem_cons,List.not_mem_nil,or_false]at hv;rcases hv with rfl | rfl | rfl | rfl
   . exact q _ _ (ac hp) (by omega) (by omega)
   . exact q _ _ (ac hp) (by omega) (by omega)
   . exact q _ _ (ac hp) (by omega) (by omega)
   . exact q _ _ (ac hp) (by omega) (by omega)
end
end Tw
namespace Tw
open PySem L2
open PySem.Builtin.Int (intBits)
section
variable {P:Program}{w:World}{K:PySem.W.Frag}{mg:Str->Option Value}{base:Heap}
theorem gu:∀{l:List Addr} (i:Nat) {q:Addr},l.Nodup->q∉l->(l.set i q).Nodup
 | [],_,_,h,_=>by simpa using h
 | x::t,0,q,h,hq=>by
  obtain⟨h1,h2⟩:=List.nodup_cons.mp h;exact List.nodup_cons.mpr ⟨fun z=>hq (List.mem_cons_of_mem _ z),h2⟩
 | x::t,i+1,q,h,hq=>by
  obtain⟨h1,h2⟩:=List.nodup_cons.mp h;refine List.nodup_cons.mpr ⟨fun z=>?_,gu i h2 fun z=>hq (List.mem_cons_of_mem _ z)⟩;rcases List.mem_or_eq_of_mem_set z with z | z
  . exact h1 z
  . exact hq (by rw[z];exact List.mem_cons_self)
theorem RoadsAt.put {H H5:Hp}{a q:Addr}{as:List Addr}{rs:List Road}{r':Road}{i:Nat}(h:RoadsAt H a as rs)(s:Same H H5)(hq0:H q=none)(hq:H5 q=some (.lst (zV (rowI r')))):RoadsAt (upd H5 a (.lst ((as.map V.ref).set i (.ref q)))) a (as.set i q) (rs.set i r'):=by
 have nqa:q≠a:=fun z=>by rw[z,h.rows.top]at hq0;cases hq0
 have nq:q∉as:=fun z=>by
  obtain⟨j,hj⟩:=List.mem_iff_getElem?.mp z;have hjl:j < rs.length:=by rw[←h.len];exact(List.getElem?_eq_some_iff.mp hj).1
  have e:=h.rows.row j q (rowI rs[j]) hj (by rw[List.getElem?_map,List.getElem?_eq_getElem hjl];rfl)
  rw[hq0]at e;cases e
 refine⟨⟨?_,?_,fun j p z e1 e2=>?_⟩,gu i h.nd nq⟩
 . rw[a9,List.map_set]
 . rw[List.length_set,List.length_map,List.length_set];exact h.len
 . by_cases e:i=j
   . subst e;have hil:i < as.length:=by
      have:=(List.getElem?_eq_some_iff.mp e1).1;rw[List.length_set]at this;exact this
     rw[List.getElem?_set_self hil]at e1;cases e1;rw[List.map_set,List.getElem?_set_self (by rw[List.length_map,←h.len];exact hil)]at e2
     cases e2;rw[ae nqa];exact hq
   . rw[List.getElem?_set_ne e]at e1;rw[List.map_set,List.getElem?_set_ne e]at e2;have na:p≠a:=fun z=>h.ne_top (z▸List.mem_of_getElem? e1);rw[ae na];exact s _ _ (h.rows.row j p z e1 e2)
theorem inV_pair (v a b:Int):inV (.int v) [.int a,.int b]=inc v (a,b,0):=by
 unfold inV inc;simp only[List.any_cons,List.any_nil,Bool.or_false,eqV];rw[Bool.beq_eq_decide_eq,Bool.beq_eq_decide_eq]
theorem i3 (v:Int)(r:Road):inV (.int v) (cutV [.int r.1,.int r.2.1,.int r.2.2] none (some 2))=inc v r:=inV_pair v r.1 r.2.1
theorem i7 {rs:List Road}{i:Nat}{r:Road}(h:rs[i]? = some r)(v:Int):deg (rs.take (i+1)) v=deg (rs.take i) v+if inc v r=true then 1 else 0:=by
 rw[List.take_add_one,h];unfold deg;rw[List.countP_append];show _+List.countP (inc v) [r]=_;rw[List.countP_cons,List.countP_nil,Nat.zero_add]
theorem emod_shift {p t n:Int}(hp:0≤p)(hpn:p < n)(ht:1≤t)(htn:t < n):0≤(p+t) % n/\(p+t) % n < n/\(p+t) % n≠p:=by
 have hn:0 < n:=by omega
 refine⟨Int.emod_nonneg _ (by omega),Int.emod_lt_of_pos _ hn,?_⟩
 by_cases h:p+t < n
 . rw[Int.emod_eq_of_lt (by omega) h];omega
 . have e:(p+t) % n=p+t - n:=by
    have e1:p+t=(p+t - n)+n:=by omega
    rw[e1,Int.add_emod_right,Int.emod_eq_of_lt (by omega) (by omega)]
    omega
   omega
def reR (c o p:Int)(r:Road):Road:=if c % 2=0 then (o,p,r.2.2)else (p,o,r.2.2)
theorem reR_joins (c o p:Int)(r:Road):Joins (reR c o p r) o p:=by
 unfold reR
 split
 . exact .inl ⟨rfl,rfl⟩
 . exact .inr ⟨rfl,rfl⟩
theorem iK (c o p:Int)(r:Road):(reR c o p r).2.2=r.2.2:=by unfold reR;split<;>rfl
def reH (c o p:Int)(r:Road):Road:=if inc p r=true then reR c o p r else r
theorem gZ {α:Type}{rs:List α}{g:α->α}{i:Nat}{r:α}(h:rs[i]? = some r):((rs.take i).map g++rs.drop i).set i (g r)=(rs.take (i+1)).map g++rs.drop (i+1):=by
 obtain⟨hi,e⟩:=List.getElem?_eq_some_iff.mp h;have l:((rs.take i).map g).length=i:=by rw[List.length_map,List.length_take];omega
 rw[List.set_append_right _ _ (by omega),l,Nat.sub_self,List.drop_eq_getElem_cons hi,List.set_cons_zero,List.take_add_one,h,List.map_append]
 simp
theorem i4 {α:Type}{rs:List α}{g:α->α}{i:Nat}:((rs.take i).map g++rs.drop i)[i]? = rs[i]?:=by
 by_cases hi:i < rs.length
 . have l:((rs.take i).map g).length=i:=by rw[List.length_map,List.length_take];omega
   rw[List.getElem?_append_right (by omega),l,Nat.sub_self,List.getElem?_drop];rfl
 . rw[List.getElem?_eq_none (show rs.length≤i by omega)]
   exact List.getElem?_eq_none (by rw[List.length_append,List.length_map,List.length_take,List.length_drop];omega)
theorem skip_step {α:Type}{rs:List α}{g:α->α}{i:Nat}{r:α}(h:rs[i]? = some r)(e:g r=r):(rs.take i).map g++rs.drop i=(rs.take (i+1)).map g++rs.drop (i+1):=by
 rw[←gZ h,e];have:((rs.take i).map g++rs.drop i)[i]? = some r:=by rw[i4];exact h
 obtain⟨hi,e2⟩:=List.getElem?_eq_some_iff.mp this;rw[←e2];exact(List.set_getElem_self hi).symm
def jc:Sp:=fun vs H Q _=>∃(a:Addr) (as:List Addr) (rs:List Road) (n:Nat) (c:Int),vs=[.ref a,.int n,.int c]/\RoadsAt H a as rs/\Tree n rs/\1 < n/\intBits c≤2 ^ 20+1 ∧
 ∀(as':List Addr) (rs':List Road) (H':Hp),RoadsAt H' a as' rs'->Tree n rs'->(∀l,(∀r∈rs,r.2.2≤l)->∀r∈rs',r.2.2≤l)->But a H H'->(∀x∈as',x∈as∨H x=none)->Q .non H'
theorem scHung:FnScope ["_law_roads", "_law_many", "_law_cell", "_law_counts", "_law_alone_ones", "_law_place", "_law_other", "_law_k"] ["_law_roads", "_law_many", "_law_cell"] (aa eB):=⟨rfl,rfl,rfl,by decide +kernel,rfl,by decide +kernel,by decide +kernel⟩
theorem ok_hung {f fM:Addr}{fd fdM:FuncData}(F:Def K mg "_law_hung" eB ["_law_roads", "_law_many", "_law_cell"] f fd)(FM:Def K mg "_law_mix" sMix ["_law_number", "_law_k"] fM fdM)(B:Bi K mg):FnOk P w K mg base CX0 2 f fd ["_law_roads", "_law_many", "_law_cell"] jc:=by
 have GM:FnOk P w K mg base CX0 1 fM fdM ["_law_number", "_law_k"] fw:=eR FM;refine F.fn.ok scHung (fun vs H Q E h=>?_) (fun cdv A outer s H vs Q E hr h=>?_)
 . obtain⟨a,as,rs,n,c,rfl,_⟩:=h;rfl
 . obtain⟨a,as,rs,n,c,rfl,hR,t,hn1,hc,k⟩:=h;have nd:=scHung.nd;have hN:=t.hi;have hlen:=t.length;refine⟨_,ad (aQ (i:=3) nd rfl (Or.inr rfl) (bL (aa eB).names ["_law_roads", "_law_many", "_law_cell", "_law_counts", "_law_alone_ones", "_law_place", "_law_other", "_law_k"] ["_law_roads", "_law_many", "_law_cell", "_law_counts", "_law_alone_ones", "x5", "_law_other", "_law_k", "_law_place"]
    (bg rfl B.range (a2 (pv 1) a4)) (fun _ _ _ _=>bF)
    (fun _ _ _ _=>ak (lenK K) (by rfl) B.len PySem.boot_len (a2 (bL [(".0",.local),("_law_place",.cell),("len",.globalImplicit),("_law_roads",.cell)] ["_law_roads", "_law_many", "_law_cell", "_law_counts", "_law_alone_ones", "x5", "_law_other", "_law_k", "_law_place"]
      ["_law_roads", "_law_many", "_law_cell", "_law_counts", "_law_alone_ones", "x5", "_law_other", "_law_k", "_law_place", "_law_road"] (bd K (pv 0))
      (fun _ _ _ _=>gP (ax (inK K) (pv 8) (be (slK K) (pv 9) bv (bu a3)) rfl)) (fun _ _ _ _=>pv 9)) a4))))
    (ad (cU (aa eB).names ["_law_roads", "_law_many", "_law_cell", "_law_counts", "_law_alone_ones", "_law_place", "_law_other", "_law_k"] ["_law_roads", "_law_many", "_law_cell", "_law_counts", "_law_alone_ones", "x5", "_law_other", "_law_k", "_law_place"] 4 nd rfl (Or.inl rfl)
      (bg rfl B.range (a2 (pv 1) a4)) (fun _ _ _ _=>gP (ax aV (aF (ixK K) (pv 3) (pv 8) (fun _ _=>rfl)) a3 (av _))) (fun _ _ _ _=>pv 8))
    (ad (aQ (i:=5) nd rfl (Or.inl rfl) (aF b7 (pv 4) (ar b5 (aj GM hr rfl FM.mg FM.fn.kp FM.bn .nil aE (a2 (pv 2) (a2 a3 a4))) (ak bB (by rfl) B.len PySem.boot_len (a2 (pv 4) a4))) (fun _ _=>rfl)))
    (ad (aQ (i:=6) nd rfl (Or.inl rfl) (ar b5 (ar aY (ar aY (pv 5) a3) (ar b5 (aj GM hr rfl FM.mg FM.fn.kp FM.bn .nil aE (a2 (pv 2) (a2 a3 a4))) (ar bQ (pv 1) a3))) (pv 1)))
    (ah (bV PassesOwn.never rfl (bg rfl B.range (a2 (ak bB (by rfl) B.len PySem.boot_len (a2 (pv 0) a4)) a4)) (bj (i:=7) nd rfl (Or.inl rfl))
      (ah (b6 (ax gn (pv 5) (be iE (aF b7 (pv 0) (pv 7) (fun _ _=>rfl)) bv (bu a3)) rfl)
        (ah (eQ (aF b7 (aK (a2 (aK (a2 (pv 6) (a2 (pv 5) (a2 (aF b7 (aF b7 (pv 0) (pv 7) (fun _ _=>rfl)) a3 (fun _ _=>rfl)) a4))))
          (a2 (aK (a2 (pv 5) (a2 (pv 6) (a2 (aF b7 (aF b7 (pv 0) (pv 7) (fun _ _=>rfl)) a3 (fun _ _=>rfl)) a4)))) a4))) (ar b5 (pv 2) a3) (fun _ _=>rfl))
          (fY (pv 0) (pv 7) du))) aG))))))),?_⟩
   refine⟨_,rfl,(n:Int),rfl,by omega,by omega,fun C hC=>?_⟩
   rw[Int.toNat_natCast];refine cK (fun i ys H2=>ys=zV (((pl n).take i).map fun v=>(deg rs v:Int))/\H2 C=some (.lst ys)/\Same H H2) (fun _ _ _ h=>h.2.1) ⟨rfl,a9,ac hC⟩ ?_ ?_
   . rintro i ys H2 hi ⟨rfl,hC2,s2⟩;refine yesI ?_;have hR2:=hR.mono s2;refine⟨_,rfl,a,rfl,⟨_,SqL.of hR2.rows.top⟩,fun D hD=>?_⟩;have nCD:C≠D:=af hC2 hD;refine cq (K:=K) (a:=a) (xs:=as.map V.ref) (fun j ys H3=>ys.length=deg (rs.take j) (i:Int)/\H3 D=some (.lst ys)/\Same H2 H3) (fun _ _ _ h=>⟨h.2.1,SqL.of (h.2.2 _ _ hR2.rows.top)⟩) ⟨rfl,a9,ac hD⟩ ?_ ?_
     . rintro j y ys H3 hj ⟨hl,hD3,s3⟩;obtain⟨p,hp,rfl⟩:=dJ hj;have hjl:j < rs.length:=by rw[←hR.len];exact(List.getElem?_eq_some_iff.mp hp).1
       have er:rs[j]? = some rs[j]:=List.getElem?_eq_getElem hjl;have hrow:=s3 _ _ (hR2.rows.row j p (rowI rs[j]) hp (by rw[List.getElem?_map,er];rfl))
       refine⟨_,rfl,_,rfl,_,rfl,p,_,rfl,SqL.of hrow,fun q hq=>?_⟩;refine⟨q,_,rfl,.inl (SqL.of a9),rfl,rfl,_,rfl,?_⟩;have nDq:D≠q:=af hD3 hq;have dle:deg (rs.take j) (i:Int)≤100:=by
        unfold deg;refine Nat.le_trans List.countP_le_length ?_;rw[List.length_take];omega
       have e0:((0:Int)+(i:Int))=(i:Int):=by omega
       show(if inV (V.int (0+(i:Int))) (cutV [.int rs[j].1,.int rs[j].2.1,.int rs[j].2.2] none (some 2))=true then _ else _)
       rw[e0,i3];refine iteB (fun e=>?_) (fun e=>?_)
       . refine⟨_,rfl,by rw[ae nDq];exact hD3,by rw[hl];exact aR (by omega),?_,a9,fun b o e=>?_⟩
         . rw[List.length_append,hl,i7 er,if_pos e];rfl
         . rw[ae (af e hD),ae (af (s3 b o e) hq)];exact s3 b o e
       . refine⟨?_,by rw[ae nDq];exact hD3,fun b o e=>?_⟩
         . rw[hl,i7 er,if_neg (by rw[e];decide)];rfl
         . rw[ae (af (s3 b o e) hq)];exact s3 b o e
     . rintro ys H3 ⟨hl,hD3,s3⟩;have el:ys.length=deg rs (i:Int):=by
        rw[hl,List.length_map,hR.len,List.take_length]
       refine⟨D,ys,rfl,.inl (SqL.of hD3),s3 _ _ hC2,?_,?_,a9,fun b o e=>?_⟩
       . rw[ao,List.length_map,List.length_take];exact aR (by omega)
       . rw[gI hi,List.map_append,el];exact bC _ _
       . rw[ae (af e hC)];exact s3 b o (s2 b o e)
   . rintro ys H2 ⟨rfl,hC2,s2⟩;rw[List.take_of_length_le (by rw[bY];exact Nat.le_refl _)]at hC2
     refine⟨_,rfl,(n:Int),rfl,by omega,by omega,fun L hL=>?_⟩
     rw[Int.toNat_natCast];refine cK (fun i ys H3=>ys=zV (((pl n).take i).filter fun v=>decide (deg rs v=1))/\H3 L=some (.lst ys)/\Same H2 H3) (fun _ _ _ h=>h.2.1) ⟨rfl,a9,ac hL⟩ ?_ ?_
     . rintro i ys H3 hi ⟨rfl,hL3,s3⟩;have hg:(((pl n).map fun v=>(deg rs v:Int)))[i]? = some (deg rs (i:Int):Int):=by rw[List.getElem?_map,iq hi];rfl
       refine⟨_,rfl,_,rfl,C,_,_,_,rfl,rfl,SqL.of (s3 _ _ hC2),bU (by omega) (by rw[show((0:Int)+(i:Int)).toNat=i by omega];exact di hg),rfl,_,rfl,?_⟩
       rw[ay];refine iteD (fun e=>?_) (fun e=>?_)
       . refine⟨_,rfl,hL3,?_,?_,a9,fun b o e=>by rw[ae (af e hL)];exact s3 b o e⟩
         . rw[ao];refine aR (Nat.le_trans (List.length_filter_le _ _) ?_);rw[List.length_take];omega
         . rw[gI hi,List.filter_append];have:decide (deg rs (i:Int)=1)=true:=by simp;omega
           rw[show([(i:Int)].filter fun v=>decide (deg rs v=1))=[(i:Int)] by rw[List.filter_cons,if_pos this];rfl,←bC]
           rw[show((0:Int)+(i:Int))=(i:Int) by omega]
       . refine⟨?_,hL3,s3⟩;rw[gI hi,List.filter_append];have:¬decide (deg rs (i:Int)=1)=true:=by simp;omega
         rw[show([(i:Int)].filter fun v=>decide (deg rs v=1))=[] by rw[List.filter_cons,if_neg this];rfl,List.append_nil]
     . rintro ys H3 ⟨rfl,hL3,s3⟩;rw[List.take_of_length_le (by rw[bY];exact Nat.le_refl _)]at hL3
       have sH3:=s2.trans s3;generalize hal:((pl n).filter fun v=>decide (deg rs v=1))=al at hL3;have alpos:0 < al.length:=by
        obtain⟨v,hv,hd⟩:=t.leaf hn1;have:v∈al:=by rw[←hal];exact List.mem_filter.mpr ⟨hv,decide_eq_true hd⟩
        exact List.length_pos_of_mem this
       refine⟨_,rfl,_,rfl,_,_,rfl,Nat.le_trans hc (by decide),by decide,by decide,_,rfl,L,_,rfl,.inl (SqL.of hL3),_,_,rfl,rfl,(by rw[ao];omega),?_⟩
       rw[ao];have i0:=Int.emod_nonneg (mixF c 8) (show((al.length:Nat):Int)≠0 by omega)
       have i1:=Int.emod_lt_of_pos (mixF c 8) (show(0:Int) < ((al.length:Nat):Int) by omega)
       obtain⟨p,hp⟩:∃p,al[(mixF c 8 % ((al.length:Nat):Int)).toNat]? = some p:=⟨al[(mixF c 8 % ((al.length:Nat):Int)).toNat]'(by omega),List.getElem?_eq_getElem _⟩
       have hpm:p∈pl n/\deg rs p=1:=by
        have:=List.mem_of_getElem? hp;rw[←hal]at this;obtain⟨h1,h2⟩:=List.mem_filter.mp this;exact⟨h1,of_decide_eq_true h2⟩
       have pr:=mem_pl.mp hpm.1;refine⟨L,_,_,_,rfl,rfl,SqL.of hL3,bU i0 (di hp),?_⟩;refine⟨_,rfl,_,_,rfl,rfl,_,rfl,_,_,rfl,Nat.le_trans hc (by decide),by decide,by decide,_,rfl,_,_,rfl,rfl,_,_,rfl,rfl,(by omega),_,_,rfl,rfl,_,rfl,_,_,rfl,rfl,(by omega),?_⟩
       have j0:=Int.emod_nonneg (mixF c 9) (show((n:Int) - 1)≠0 by omega)
       have j1:=Int.emod_lt_of_pos (mixF c 9) (show(0:Int) < (n:Int) - 1 by omega)
       have sh:=emod_shift (t:=1+mixF c 9 % ((n:Int) - 1)) pr.1 pr.2 (by omega) (by omega)
       rw[←Int.add_assoc]at sh;obtain⟨o,ho⟩:∃o,o=(p+1+mixF c 9 % ((n:Int) - 1)) % (n:Int):=⟨_,rfl⟩;rw[←ho]at sh;obtain⟨o0,o1,one⟩:=sh;have hR3:=hR.mono sH3;refine⟨_,rfl,a,_,rfl,.inl (SqL.of hR3.rows.top),_,rfl,by omega,by rw[List.length_map,hR.len];omega,?_⟩
       rw[Int.toNat_natCast,List.length_map,hR.len];have tR:=t.rehang hpm.1 (mem_pl.mpr ⟨o0,o1⟩) one hpm.2 (reR_joins c o p) (iK c o p);refine cp (fun i σ H4=>∃(as':List Addr) (v7:Option V),σ=[some (.ref a),some (.int n),some (.int c),some (.ref C),some (.ref L),some (.int p),some (.int o),v7]/\RoadsAt H4 a as' ((rs.take i).map (reH c o p)++rs.drop i)/\But a H H4/\∀x∈as',x∈as∨H x=none) ⟨as,none,by rw[ho];rfl,hR3,But.of sH3,fun x hx=>.inl hx⟩ ?_ ?_
       . rintro i σ H4 hi ⟨as',v7,rfl,hR4,b4,nw⟩;have er:rs[i]? = some rs[i]:=List.getElem?_eq_getElem hi;have er':((rs.take i).map (reH c o p)++rs.drop i)[i]? = some rs[i]:=by rw[i4];exact er
         obtain⟨q,hq,hrow⟩:=hR4.get er';generalize hr0:rs[i]=r at er er' hrow;refine⟨_,rfl,_,rfl,_,rfl,a,_,_,_,rfl,rfl,SqL.of hR4.rows.top,bU (by omega) (by rw[show((0:Int)+(i:Int)).toNat=i by omega];exact dm hq),_,rfl,q,_,rfl,SqL.of hrow,fun s1 hs1=>?_⟩
         refine⟨s1,_,rfl,.inl (SqL.of a9),rfl,rfl,_,rfl,?_⟩;show(if inV (V.int p) (cutV [.int r.1,.int r.2.1,.int r.2.2] none (some 2))=true then _ else _)
         rw[i3];have a5:=ac (o:=.lst (cutV [.int r.1,.int r.2.1,.int r.2.2] none (some 2))) hs1;refine iteB (fun e=>?_) (fun e=>?_)
         . have at0:∀{H':Hp},Same H4 H'->SqL K H' a (as'.map V.ref)/\SqL K H' q [.int r.1,.int r.2.1,.int r.2.2]:=fun s=>⟨SqL.of (s _ _ hR4.rows.top),SqL.of (s _ _ hrow)⟩;have ai:atI (as'.map V.ref) (0+(i:Int))=some (V.ref q):=bU (by omega) (by rw[show((0:Int)+(i:Int)).toNat=i by omega];exact dm hq)
           refine⟨_,rfl,_,rfl,_,rfl,_,rfl,a,_,_,_,rfl,rfl,(at0 a5).1,ai,q,_,_,_,rfl,rfl,(at0 a5).2,rfl,by show 3≤sizeLine;exact aO (by decide),fun l1 hl1=>?_⟩
           have a6:=a5.trans (ac (o:=.lst [.int o,.int p,.int r.2.2]) hl1);refine⟨_,rfl,_,rfl,_,rfl,_,rfl,a,_,_,_,rfl,rfl,(at0 a6).1,ai,q,_,_,_,rfl,rfl,(at0 a6).2,rfl,by show 3≤sizeLine;exact aO (by decide),fun l2 hl2=>?_⟩
           have a7:=a6.trans (ac (o:=.lst [.int p,.int o,.int r.2.2]) hl2);refine⟨by show 2≤sizeLine;exact aO (by decide),fun l3 hl3=>?_⟩
           have a8:=a7.trans (ac (o:=.lst [.ref l1,.ref l2]) hl3);have n12:l1≠l2:=fun z=>by rw[←z,a9]at hl2;cases hl2
           have n13:l1≠l3:=fun z=>by rw[←z,ae n12,a9]at hl3;cases hl3
           have n23:l2≠l3:=fun z=>by rw[←z,a9]at hl3;cases hl3
           have f1:H4 l1=none:=a5.free hl1;have f2:H4 l2=none:=a6.free hl2;refine⟨_,rfl,_,_,rfl,rfl,(by show(0:Int) < 2;decide),?_⟩
           have m0:=Int.emod_nonneg c (show(2:Int)≠0 by decide)
           have m1:=Int.emod_lt_of_pos c (show(0:Int) < 2 by decide)
           have fin:∀(l:Addr) (r':Road),reH c o p r=r'->H4 l=none->(upd (upd (upd (upd H4 s1 (.lst (cutV [.int r.1,.int r.2.1,.int r.2.2] none (some 2)))) l1 (.lst [.int o,.int p,.int r.2.2])) l2 (.lst [.int p,.int o,.int r.2.2])) l3 (.lst [.ref l1,.ref l2])) l=some (.lst (zV (rowI r'))) →
            ∃(as'':List Addr) (v7:Option V),[some (V.ref a),some (.int n),some (.int c),some (.ref C),some (.ref L),some (.int p),some (.int o),some (.int (0+(i:Int)))]=[some (.ref a),some (.int n),some (.int c),some (.ref C),some (.ref L),some (.int p),some (.int o),v7] ∧
            RoadsAt (upd (upd (upd (upd (upd H4 s1 (.lst (cutV [.int r.1,.int r.2.1,.int r.2.2] none (some 2)))) l1 (.lst [.int o,.int p,.int r.2.2])) l2 (.lst [.int p,.int o,.int r.2.2])) l3 (.lst [.ref l1,.ref l2])) a (.lst ((as'.map V.ref).set i (.ref l)))) a as'' ((rs.take (i+1)).map (reH c o p)++rs.drop (i+1)) ∧
            But a H (upd (upd (upd (upd (upd H4 s1 (.lst (cutV [.int r.1,.int r.2.1,.int r.2.2] none (some 2)))) l1 (.lst [.int o,.int p,.int r.2.2])) l2 (.lst [.int p,.int o,.int r.2.2])) l3 (.lst [.ref l1,.ref l2])) a (.lst ((as'.map V.ref).set i (.ref l))))/\∀x∈as'',x∈as∨H x=none:=fun l r' e' f' hl'=>by
            refine⟨as'.set i l,_,rfl,?_,fun b u hb nb=>?_,fun x hx=>?_⟩
            . rw[←gZ er,e'];exact hR4.put a8 f' hl'
            . rw[ae nb];exact a8 b u (b4 b u hb nb)
            . rcases List.mem_or_eq_of_mem_set hx with z | z
              . exact nw x z
              . right
                rw[z];cases hl0:H l with
                | none=>rfl
                | some u =>
                 have nla:l≠a:=fun z=>by rw[z,hR4.rows.top]at f';cases f'
                 rw[b4 l u hl0 nla]at f';cases f'
           have ixi:ixN (as'.map V.ref).length (0+(i:Int))=some i:=by
            unfold ixN;rw[if_pos (by omega),if_pos (by rw[List.length_map];have:=(List.getElem?_eq_some_iff.mp hq).1;omega)]
            congr 1;omega
           by_cases hpar:c % 2=0
           . refine⟨l3,[.ref l1,.ref l2],c % 2,V.ref l1,rfl,rfl,SqL.of a9,(by rw[hpar];rfl),?_⟩
             refine⟨_,rfl,_,rfl,a,_,_,i,rfl,rfl,a8 _ _ hR4.rows.top,ixi,?_⟩;refine fin l1 (o,p,r.2.2) ?_ f1 ?_
             . unfold reH reR;rw[if_pos e,if_pos hpar]
             . rw[ae n13,ae n12,a9];rfl
           . have hpar1:c % 2=1:=by omega
             refine⟨l3,[.ref l1,.ref l2],c % 2,V.ref l2,rfl,rfl,SqL.of a9,(by rw[hpar1];rfl),?_⟩
             refine⟨_,rfl,_,rfl,a,_,_,i,rfl,rfl,a8 _ _ hR4.rows.top,ixi,?_⟩;refine fin l2 (p,o,r.2.2) ?_ f2 ?_
             . unfold reH reR;rw[if_pos e,if_neg hpar]
             . rw[ae n23,a9];rfl
         . refine⟨as',_,rfl,?_,fun b u hb nb=>a5 b u (b4 b u hb nb),nw⟩;rw[←skip_step er (by unfold reH;rw[if_neg (by rw[e];decide)])]
           exact hR4.mono a5
       . rintro σ H4 ⟨as',v7,rfl,hR4,b4,nw⟩;rw[List.take_length,List.drop_length,List.append_nil]at hR4;refine k as' _ H4 hR4 tR (fun l hl r hr=>?_) b4 nw;obtain⟨x,hx,rfl⟩:=List.mem_map.mp hr;unfold reH
         split
         . rw[iK];exact hl x hx
         . exact hl x hx
end
end Tw
namespace Tw
open PySem L2
open PySem.Builtin.Int (intBits)
section
variable {P:Program}{w:World}{K:PySem.W.Frag}{mg:Str->Option Value}{base:Heap}
theorem ins_get {α:Type}{l:List α}{j:Nat}{x:α}(hj:j≤l.length)(i:Nat):(l.take j++x::l.drop j)[i]? = if i < j then l[i]? else if i=j then some x else l[i - 1]?:=by
 have lt:(l.take j).length=j:=by rw[List.length_take];omega
 by_cases h:i < j
 . rw[if_pos h,List.getElem?_append_left (by omega),List.getElem?_take_of_lt h]
 . rw[if_neg h,List.getElem?_append_right (by omega),lt]
   by_cases e:i=j
   . subst e;rw[if_pos rfl,Nat.sub_self];rfl
   . rw[if_neg e];obtain⟨d,rfl⟩:∃d,i=j+d+1:=⟨i - j - 1,by omega⟩
     rw[show j+d+1 - j=d+1 by omega,List.getElem?_cons_succ,List.getElem?_drop]
     rfl
theorem RoadsAt.fresh {H:Hp}{a q:Addr}{as:List Addr}{rs:List Road}(h:RoadsAt H a as rs)(hq0:H q=none):q∉as:=fun z=>by
 obtain⟨j,hj⟩:=List.mem_iff_getElem?.mp z;have hjl:j < rs.length:=by rw[←h.len];exact(List.getElem?_eq_some_iff.mp hj).1
 have e:=h.rows.row j q (rowI rs[j]) hj (by rw[List.getElem?_map,List.getElem?_eq_getElem hjl];rfl)
 rw[hq0]at e;cases e
theorem RoadsAt.ins {H H5:Hp}{a q:Addr}{as:List Addr}{rs:List Road}{r':Road}{j:Nat}(h:RoadsAt H a as rs)(s:Same H H5)(hq0:H q=none)(hq:H5 q=some (.lst (zV (rowI r'))))(hj:j≤rs.length):RoadsAt (upd H5 a (.lst ((as.map V.ref).take j++.ref q::(as.map V.ref).drop j))) a (as.take j++q::as.drop j) (rs.take j++r'::rs.drop j):=by
 have nqa:q≠a:=fun z=>by rw[z,h.rows.top]at hq0;cases hq0
 have nq:=h.fresh hq0;have la:=h.len;refine⟨⟨?_,?_,fun i p z e1 e2=>?_⟩,?_⟩
 . rw[a9,List.map_append,List.map_cons,List.map_take,List.map_drop]
 . rw[List.length_append,List.length_cons,List.length_map,List.length_append,List.length_cons,List.length_take,List.length_take,List.length_drop,List.length_drop];omega
 . rw[ins_get (by omega)]at e1
   rw[List.map_append,List.map_cons,List.map_take,List.map_drop,ins_get (by rw[List.length_map];exact hj)]at e2
   by_cases h1:i < j
   . rw[if_pos h1]at e1 e2;have na:p≠a:=fun z=>h.ne_top (z▸List.mem_of_getElem? e1);rw[ae na];exact s _ _ (h.rows.row i p z e1 e2)
   . rw[if_neg h1]at e1 e2;by_cases h2:i=j
     . rw[if_pos h2]at e1 e2;cases e1;cases e2;rw[ae nqa];exact hq
     . rw[if_neg h2]at e1 e2;have na:p≠a:=fun z=>h.ne_top (z▸List.mem_of_getElem? e1);rw[ae na];exact s _ _ (h.rows.row _ p z e1 e2)
 . exact((bH as j q).nodup_iff).mpr (List.nodup_cons.mpr ⟨nq,h.nd⟩)
theorem RoadsAt.longer {H:Hp}{a p:Addr}{as:List Addr}{rs:List Road}{r r':Road}{i:Nat}(h:RoadsAt H a as rs)(hi:as[i]? = some p)(hr:rs[i]? = some r):RoadsAt (upd H p (.lst (zV (rowI r')))) a as (rs.set i r'):=by
 have npa:a≠p:=fun z=>h.ne_top (z▸List.mem_of_getElem? hi);refine⟨⟨?_,?_,fun j q z e1 e2=>?_⟩,h.nd⟩
 . rw[ae npa];exact h.rows.top
 . rw[List.length_map,List.length_set];exact h.len
 . by_cases e:i=j
   . subst e;rw[hi]at e1;cases e1;rw[List.map_set,List.getElem?_set_self (by rw[List.length_map];exact(List.getElem?_eq_some_iff.mp hr).1)]at e2
     cases e2;exact a9
   . rw[List.map_set,List.getElem?_set_ne e]at e2;have nq:q≠p:=fun z=>by
      subst z;obtain⟨h1,q1⟩:=List.getElem?_eq_some_iff.mp hi;obtain⟨h2,q2⟩:=List.getElem?_eq_some_iff.mp e1;exact e ((List.getElem_inj h.nd).mp (q1.trans q2.symm))
     rw[ae nq];exact h.rows.row j q z e1 e2
theorem ik (l:List Int)(j:Nat)(x:Int):(zV l).take j++V.int x::(zV l).drop j=zV (l.take j++x::l.drop j):=by
 unfold zV;rw[List.map_append,List.map_cons,List.map_take,List.map_drop]
theorem mem_cutV {xs:List V}{lo hi:Option Int}{y:V}(h:y∈cutV xs lo hi):y∈xs:=by
 unfold cutV at h;exact List.mem_of_mem_drop (List.mem_of_mem_take h)
theorem eX {ns:List Int}(h:∀n∈ns,Bits n)(i:Nat):intBits (ns.getD i 0)≤2 ^ 20:=by
 rw[List.getD_eq_getElem?_getD];cases e:ns[i]? with
 | none=>decide
 | some n=>exact h n (List.mem_of_getElem? e)
def j7 (K:PySem.W.Frag):Sp:=fun vs H Q _=>∃(a:Addr) (ns:List Int),vs=[.ref a]/\SqL K H a (zV ns)/\(∀n∈ns,Bits n)/\ns.length≤63 ∧
 ∀(T A:Addr) (as:List Addr) (n:Nat) (rs:List Road) (H':Hp),H' T=some (.tup [.int n,.ref A])->RoadsAt H' A as rs->Tree n rs->(∀r∈rs,r.2.2≤10 ^ 39)->Same H H'->Q (.ref T) H'
end
end Tw
namespace Tw
open PySem L2
open PySem.Builtin.Int (intBits)
section
variable {P:Program}{w:World}{K:PySem.W.Frag}{mg:Str->Option Value}{base:Heap}
theorem natAbs_ediv_le (a:Int){b:Int}(hb:0 < b):(a / b).natAbs≤a.natAbs:=by
 have e:=Int.ediv_mul_le a (Int.ne_of_gt hb);have l:=Int.lt_ediv_add_one_mul_self a hb;rcases Int.le_total 0 a with ha | ha
 . have q:0≤a / b:=Int.ediv_nonneg ha (by omega)
   have:a / b≤a / b*b:=by
    have:=Int.mul_le_mul_of_nonneg_left (show(1:Int)≤b by omega) q
    rw[Int.mul_one]at this;exact this
   omega
 . have q:a / b≤0:=by
    rcases Int.lt_or_le 0 (a / b)with z | z
    . have:=Int.mul_pos z hb;omega
    . exact z
   have:(a / b+1)*b≤a / b+1∨a / b=0:=by
    rcases Int.lt_or_eq_of_le q with z | z
    . left
      have:=Int.mul_le_mul_of_nonneg_left (show(1:Int)≤b by omega) (show 0≤-(a / b+1) by omega)
      rw[Int.mul_one,Int.neg_mul]at this;omega
    . exact .inr z
   omega
theorem bits_ediv' {a:Int}{m:Nat}(h:intBits a≤m){b:Int}(hb:0 < b):intBits (a / b)≤m:=PyProof.Rows.bits_of_natAbs_le (natAbs_ediv_le a hb) h
def LeftAt (H:Hp)(p:Addr)(md lim:Int):Prop:=∃x c:Int,H p=some (.lst [.int x,.int md,.int c])/\intBits x≤2 ^ 20/\0≤c/\c≤lim
theorem LeftAt.ty {H:Hp}{p:Addr}{md lim:Int}(h:LeftAt H p md lim):∃x c:Int,H p=some (.lst [.int x,.int md,.int c]):=let ⟨x,c,e,_⟩:=h;⟨x,c,e⟩
theorem LeftAt.mono {H H':Hp}{p:Addr}{md lim lim':Int}(h:LeftAt H p md lim)(s:H' p=H p)(hl:lim≤lim'):LeftAt H' p md lim':=by
 obtain⟨x,c,e,h1,h2,h3⟩:=h;exact⟨x,c,s.trans e,h1,h2,by omega⟩
def ip (K:PySem.W.Frag):Sp:=fun vs H Q _=>∃(a:Addr) (ns:List Int) (k:Nat),vs=[.ref a,.int k]/\SqL K H a (zV ns)/\(∀n∈ns,Bits n)/\∀(p:Addr) (md:Int) (H':Hp),H p=none->LeftAt H' p md 0->Same H H'->Q (.ref p) H'
theorem scLeft:FnScope ["_law_script", "_law_k"] ["_law_script", "_law_k"] (aa f8):=⟨rfl,rfl,rfl,by decide +kernel,rfl,by decide +kernel,by decide +kernel⟩
theorem iP {f fA:Addr}{fd fdA:FuncData}(F:Def K mg "_law_left" f8 ["_law_script", "_law_k"] f fd)(FA:Def K mg "_law_cell_at" dO ["_law_script", "_law_k"] fA fdA)(B:Bi K mg):FnOk P w K mg base CX0 2 f fd ["_law_script", "_law_k"] (ip K):=by
 have GA:FnOk P w K mg base CX0 1 fA fdA ["_law_script", "_law_k"] (fF K):=fe FA B;refine F.fn.ok scLeft (fun vs H Q E h=>?_) (fun cdv A outer s H vs Q E hr h=>?_)
 . obtain⟨a,ns,k,rfl,_⟩:=h;rfl
 . obtain⟨a,ns,k,rfl,hS,hb,q⟩:=h;refine⟨_,(ah (aB (aK (a2 (aj GA (hr.mono (by decide)) rfl FA.mg FA.fn.kp FA.bn .nil aE (a2 (pv 0) (a2 (pv 1) a4))) (aL (ar b5 (aj GA (hr.mono (by decide)) rfl FA.mg FA.fn.kp FA.bn .nil aE (a2 (pv 0) (az a3 a4))) a3) (az a3 a4)))))),?_⟩
   refine⟨_,rfl,_,rfl,a,ns,k,rfl,hS,_,rfl,a,ns,0,rfl,hS,_,_,rfl,rfl,(by show(0:Int) < 2;decide),by show 3≤sizeLine;exact aO (by decide),fun p hp=>?_⟩
   exact q p (ns.getD 0 0 % 2) _ hp ⟨_,_,a9,eX hb k,Int.le_refl _,Int.le_refl _⟩ (ac hp)
def eN:Sp:=fun vs H Q _=>∃(p:Addr) (b md lim:Int),vs=[.ref p,.int b]/\LeftAt H p md lim/\lim≤500/\1≤b/\b≤10 ^ 41/\∀(d:Int) (H':Hp),0≤d->d < b->LeftAt H' p md (lim+1)->(∀q,q≠p->H' q=H q)->Q (.int d) H'
theorem scDraw:FnScope ["_law_left_here", "_law_base", "_law_digit"] ["_law_left_here", "_law_base"] (aa dv):=⟨rfl,rfl,rfl,by decide +kernel,rfl,by decide +kernel,by decide +kernel⟩
theorem iQ {f fM:Addr}{fd fdM:FuncData}(F:Def K mg "_law_draw" dv ["_law_left_here", "_law_base"] f fd)(FM:Def K mg "_law_mix" sMix ["_law_number", "_law_k"] fM fdM)(B:Bi K mg):FnOk P w K mg base CX0 2 f fd ["_law_left_here", "_law_base"] eN:=by
 have GM:FnOk P w K mg base CX0 1 fM fdM ["_law_number", "_law_k"] fw:=eR FM;refine F.fn.ok scDraw (fun vs H Q E h=>?_) (fun cdv A outer s H vs Q E hr h=>?_)
 . obtain⟨p,b,md,lim,rfl,_⟩:=h;rfl
 . obtain⟨p,b,md,lim,rfl,⟨x,c,hp,hx,c0,c1⟩,hlim,b0,b1,q⟩:=h;have nd:=scDraw.nd;refine⟨_,(ad (eQ (ar aY (aF (ixK K) (pv 0) a3 (fun _ _=>rfl)) a3) (fY (pv 0) a3 du))
    (ad (b6 (ax aV (aF (ixK K) (pv 0) a3 (fun _ _=>rfl)) a3 (av _)) (ah (aB (ar b5 (aj GM (hr.mono (by decide)) rfl FM.mg FM.fn.kp FM.bn .nil aE (aJ (aF (ixK K) (pv 0) a3 (fun _ _=>rfl)) (aJ (aF (ixK K) (pv 0) a3 (fun _ _=>rfl)) a4))) (pv 1)))) aG)
    (ad (aQ (i:=2) nd rfl (Or.inl rfl) (ar b5 (aF (ixK K) (pv 0) a3 (fun _ _=>rfl)) (pv 1)))
    (ad (eQ (ar op_fdivB (aF (ixK K) (pv 0) a3 (fun _ _=>rfl)) (pv 1)) (fY (pv 0) a3 du))
    (ah (aB (pv 2))))))),?_⟩
   refine⟨_,rfl,p,_,_,_,rfl,rfl,SqL.of hp,rfl,_,_,rfl,rfl,_,rfl,p,_,_,2,rfl,rfl,hp,rfl,?_⟩;have h1:(upd H p (.lst [.int x,.int md,.int (c+1)])) p=some (.lst [.int x,.int md,.int (c+1)]):=a9;refine⟨_,rfl,p,_,_,_,rfl,rfl,SqL.of h1,rfl,rfl,_,rfl,?_⟩;rw[ay];refine iteD (fun e=>?_) (fun e=>?_)
   . refine⟨_,rfl,p,_,_,_,rfl,rfl,SqL.of h1,rfl,_,rfl,p,_,_,_,rfl,rfl,SqL.of h1,rfl,x,c+1,rfl,Nat.le_trans hx (by decide),by omega,by omega,_,rfl,_,_,rfl,rfl,(by omega),?_⟩
     exact q _ _ (Int.emod_nonneg _ (by omega)) (Int.emod_lt_of_pos _ (by omega)) ⟨x,c+1,h1,hx,by omega,by omega⟩ (fun r hr=>ae hr)
   . refine⟨_,rfl,p,_,_,_,rfl,rfl,SqL.of h1,rfl,_,rfl,_,_,rfl,rfl,(by omega),?_⟩
     refine⟨_,rfl,p,_,_,_,rfl,rfl,SqL.of h1,rfl,_,rfl,_,_,rfl,rfl,⟨by omega,by omega⟩,_,rfl,p,_,_,0,rfl,rfl,h1,rfl,?_⟩
     refine⟨_,rfl,q _ _ (Int.emod_nonneg _ (by omega)) (Int.emod_lt_of_pos _ (by omega)) ⟨x / b,c+1,a9,bits_ediv' hx (by omega),by omega,by omega⟩ (fun r hr=>?_)⟩
     rw[ae hr,ae hr]
theorem scTree:FnScope ["_law_script", "_law_size_here", "_law_many", "_law_left_here", "_law_shape", "_law_names", "_law_k", "_law_roads", "_law_older", "_law_length", "_law_pair", "_law_one", "_law_at"] ["_law_script"] (aa fG):=⟨rfl,rfl,rfl,by decide +kernel,rfl,by decide +kernel,by decide +kernel⟩
theorem ok_tree {f fM fA fLE fD fZ fH:Addr}{fd fdM fdA fdLE fdD fdZ fdH:FuncData}(F:Def K mg "_law_tree" fG ["_law_script"] f fd)(FM:Def K mg "_law_mix" sMix ["_law_number", "_law_k"] fM fdM)(FA:Def K mg "_law_cell_at" dO ["_law_script", "_law_k"] fA fdA)(FLE:Def K mg "_law_left" f8 ["_law_script", "_law_k"] fLE fdLE)(FD:Def K mg "_law_draw" dv ["_law_left_here", "_law_base"] fD fdD)(FZ:Def K mg "_law_size" fJ ["_law_cell", "_law_k"] fZ fdZ)(FH:Def K mg "_law_hung" eB ["_law_roads", "_law_many", "_law_cell"] fH fdH)(B:Bi K mg):FnOk P w K mg base CX0 3 f fd ["_law_script"] (j7 K):=by
 have GM:FnOk P w K mg base CX0 1 fM fdM ["_law_number", "_law_k"] fw:=eR FM;have GA:FnOk P w K mg base CX0 1 fA fdA ["_law_script", "_law_k"] (fF K):=fe FA B;have GLE:FnOk P w K mg base CX0 2 fLE fdLE ["_law_script", "_law_k"] (ip K):=iP FLE FA B;have GD:FnOk P w K mg base CX0 2 fD fdD ["_law_left_here", "_law_base"] eN:=iQ FD FM B;have GZ:FnOk P w K mg base CX0 2 fZ fdZ ["_law_cell", "_law_k"] j8:=ok_size FZ FM;have GH:FnOk P w K mg base CX0 2 fH fdH ["_law_roads", "_law_many", "_law_cell"] jc:=ok_hung FH FM B;refine F.fn.ok scTree (fun vs H Q E h=>?_) (fun cdv A outer s H vs Q E hr h=>?_)
 . obtain⟨a,ns,rfl,_⟩:=h;rfl
 . obtain⟨a,ns,rfl,hS,hb,hl,k⟩:=h;have nd:=scTree.nd;refine⟨_,(ad (aQ (i:=1) nd rfl (Or.inl rfl) (ar cV (aj GA (hr.mono (by decide)) rfl FA.mg FA.fn.kp FA.bn .nil aE (a2 (pv 0) (az a3 a4))) a3))
    (ad (aQ (i:=2) nd rfl (Or.inl rfl) (aF (ixK K) (aK (aL (ar aY a3 (ar b5 (ar cV (pv 1) a3) a3)) (aL (ar aY a3 (ar b5 (ar cV (pv 1) a3) a3)) (az a3 (aL (ar aY a3 (ar b5 (ar cV (pv 1) a3) a3)) a4))))) (ar b5 (pv 1) a3) (fun _ _=>rfl)))
    (ad (aQ (i:=3) nd rfl (Or.inl rfl) (aj GLE (hr.mono (by decide)) rfl FLE.mg FLE.fn.kp FLE.bn .nil aE (a2 (pv 0) (az a3 a4))))
    (ad (aQ (i:=4) nd rfl (Or.inl rfl) (aj GA (hr.mono (by decide)) rfl FA.mg FA.fn.kp FA.bn .nil aE (a2 (pv 0) (az a3 a4))))
    (ad (aQ (i:=5) nd rfl (Or.inl rfl) (aK a4))
    (ad (bV PassesOwn.never rfl (bg rfl B.range (a2 (pv 2) a4)) (bj (i:=6) nd rfl (Or.inl rfl)) (ah (cu (eE PySem.F.plainAttrs_list PySem.F.slot_list_insert PySem.F.type_list_insert dH (pv 5) (a2 (aj GD (hr.mono (by decide)) rfl FD.mg FD.fn.kp FD.bn .nil aE (a2 (pv 3) (aL (ar aY (pv 6) a3) a4))) (a2 (pv 6) a4))))))
    (ad (aQ (i:=7) nd rfl (Or.inl rfl) (aK a4))
    (ad (bV PassesOwn.never rfl (pi_range2 rfl B.range (az a3 (a2 (pv 2) a4))) (bj (i:=6) nd rfl (Or.inl rfl)) (ad (aQ (i:=8) nd rfl (Or.inl rfl) (aj GD (hr.mono (by decide)) rfl FD.mg FD.fn.kp FD.bn .nil aE (a2 (pv 3) (a2 (pv 6) a4))))
    (ad (aQ (i:=9) nd rfl (Or.inl rfl) (ar aY a3 (ar b5 (aj GA (hr.mono (by decide)) rfl FA.mg FA.fn.kp FA.bn .nil aE (a2 (pv 0) (aL (ar aY a3 (pv 6)) a4))) (ar e9 a3 a3))))
    (ad (b6 (ax aV (aF (ixK K) (pv 3) a3 (fun _ _=>rfl)) a3 (av _)) (ad (aQ (i:=8) nd rfl (Or.inl rfl) (aF (ixK K) (aK (aL (ar bQ (pv 6) a3) (az a3 (a2 (pv 8) (a2 (ak (gD rfl) (by rfl) B.max PyProof.Rows.boot_max (az a3 (aL (ar bQ (ar bQ (pv 6) a3) (ar b5 (pv 8) a3)) a4))) (aL (ar cV (ar bQ (pv 6) a3) a3) a4)))))) (ar b5 (pv 4) a3) (fun _ _=>rfl)))
    (ah (aQ (i:=9) nd rfl (Or.inl rfl) (aj GZ (hr.mono (by decide)) rfl FZ.mg FZ.fn.kp FZ.bn .nil aE (a2 (pv 4) (a2 (pv 6) a4)))))) aG)
    (ad (aQ (i:=10) nd rfl (Or.inl rfl) (aK (aJ (aF (ixK K) (pv 5) (pv 8) (fun _ _=>rfl)) (aJ (aF (ixK K) (pv 5) (pv 6) (fun _ _=>rfl)) a4))))
    (ad (b6 (ax aV (aj GD (hr.mono (by decide)) rfl FD.mg FD.fn.kp FD.bn .nil aE (a2 (pv 3) (az a3 a4))) a3 (av _)) (ah (aQ (i:=10) nd rfl (Or.inl rfl) (pe_rev (pv 10) (jd im a3)))) aG)
    (ah (cu (eE PySem.F.plainAttrs_list PySem.F.slot_list_insert PySem.F.type_list_insert dH (pv 7) (a2 (aj GD (hr.mono (by decide)) rfl FD.mg FD.fn.kp FD.bn .nil aE (a2 (pv 3) (a2 (pv 6) a4))) (aL (ar d7 (pv 10) (aK (a2 (pv 9) a4))) a4)))))))))))
    (ad (bV PassesOwn.never rfl (bd K (be (slK K) (pv 0) (bu a3) (bu a3))) (bj (i:=11) nd rfl (Or.inl rfl)) (ah (b6 (PW.pt (eO (ax gp (pv 2) a3 (av _)) (dF (ax aV (aF (ixK K) (pv 3) a3 (fun _ _=>rfl)) a3 (av _))))) (ah (b6 (ax aV (ar b5 (pv 11) a3) a3 (av _)) (ah (cu (aj GH (hr.mono (by decide)) rfl FH.mg FH.fn.kp FH.bn .nil aE (a2 (pv 7) (a2 (pv 2) (aL (ar cV (pv 11) a3) a4)))))) (ad (aQ (i:=12) nd rfl (Or.inl rfl) (ar b5 (aj GM (hr.mono (by decide)) rfl FM.mg FM.fn.kp FM.bn .nil aE (a2 (pv 11) (az a3 a4))) (ar bQ (pv 2) a3)))
    (ah (eQ (ar aY a3 (ar b5 (ar aY (aF (ixK K) (aF (ixK K) (pv 7) (pv 12) (fun _ _=>rfl)) a3 (fun _ _=>rfl)) (ar b5 (aj GM (hr.mono (by decide)) rfl FM.mg FM.fn.kp FM.bn .nil aE (a2 (pv 11) (az a3 a4))) a3)) (ar e9 a3 a3))) (fY (aF (ixK K) (pv 7) (pv 12) (fun _ _=>rfl)) a3 du)))))) aG)))
    (ah (aB (g4 (a2 (pv 2) (a2 (pv 7) a4)))))))))))))),?_⟩
   have hd:=eX hb 2;refine⟨_,rfl,a,ns,0,rfl,hS,_,_,rfl,rfl,⟨by decide,by decide⟩,?_⟩
   refine⟨_,rfl,_,_,rfl,rfl,⟨by decide,by decide⟩,_,_,rfl,rfl,(by show(0:Int) < 12;decide),_,_,rfl,rfl,_,rfl,_,_,rfl,rfl,⟨by decide,by decide⟩,_,_,rfl,rfl,(by show(0:Int) < 6;decide),_,_,rfl,rfl,
    _,rfl,_,_,rfl,rfl,⟨by decide,by decide⟩,_,_,rfl,rfl,(by show(0:Int) < 12;decide),_,_,rfl,rfl,by show 4≤sizeLine;exact aO (by decide),fun p hp=>?_⟩
   refine⟨_,rfl,_,_,rfl,rfl,(by show(0:Int) < 4;decide),?_⟩
   obtain⟨v,hv,hs,hat,_⟩:=cj (K:=K) (H:=upd H p (.lst [V.int (1+(ns.getD 0 0 / 2) / 4 % 12),V.int (1+(ns.getD 0 0 / 2) / 4 % 6),V.int 12,V.int (1+(ns.getD 0 0 / 2) / 4 % 12)])) a9 (i:=(ns.getD 0 0 / 2) % 4) (Int.emod_nonneg _ (by decide)) (Int.emod_lt_of_pos _ (by decide))
   refine⟨p,_,_,v,rfl,rfl,hs,hat,?_⟩;obtain⟨m,rfl,m1,m2⟩:∃m:Nat,v=V.int m/\1≤m/\m≤12:=by
    simp only[List.mem_cons,List.not_mem_nil,or_false]at hv;rcases hv with rfl | rfl | rfl | rfl
    . exact⟨(1+(ns.getD 0 0 / 2) / 4 % 12).toNat,by congr 1;omega,by omega,by omega⟩
    . exact⟨(1+(ns.getD 0 0 / 2) / 4 % 6).toNat,by congr 1;omega,by omega,by omega⟩
    . exact⟨12,rfl,by omega,by omega⟩
    . exact⟨(1+(ns.getD 0 0 / 2) / 4 % 12).toNat,by congr 1;omega,by omega,by omega⟩
   have s1:=ac (o:=.lst [V.int (1+(ns.getD 0 0 / 2) / 4 % 12),V.int (1+(ns.getD 0 0 / 2) / 4 % 6),V.int 12,V.int (1+(ns.getD 0 0 / 2) / 4 % 12)]) hp;generalize upd H p (.lst [V.int (1+(ns.getD 0 0 / 2) / 4 % 12),V.int (1+(ns.getD 0 0 / 2) / 4 % 6),V.int 12,V.int (1+(ns.getD 0 0 / 2) / 4 % 12)])=H1 at s1;refine⟨_,rfl,_,_,_,rfl,s1.seq hS,hb,fun LL md H1' hLL lf1 s1'=>?_⟩;have hLL0:H LL=none:=s1.free hLL;have s1:=s1.trans s1';refine⟨_,rfl,a,ns,2,rfl,s1.seq hS,?_⟩;generalize ns.getD 2 0=d at hd;refine⟨by show 0≤sizeLine;exact aO (by decide),fun NL hNL=>?_⟩
   have s2:=s1.trans (ac (o:=.lst []) hNL);obtain⟨_,_,eLL⟩:=lf1.ty;have nLN:LL≠NL:=af eLL hNL;refine⟨_,rfl,(m:Int),rfl,by omega,by omega,?_⟩
   rw[Int.toNat_natCast];have hNL0:H NL=none:=s1.free hNL;refine cp (fun i σ H2=>∃(l:List Int) (v5:Option V),σ=[some (.ref a),some (.int (ns.getD 0 0 / 2)),some (.int m),some (.ref LL),some (.int d),some (.ref NL),v5,none,none,none,none,none,none]/\l.Perm (pl i)/\H2 NL=some (.lst (zV l))/\Same H H2/\LeftAt H2 LL md i) ⟨[],none,rfl,.refl _,a9,s2,lf1.mono (ae nLN) (by omega)⟩ ?_ ?_
   . rintro i σ H2 hi ⟨l,v5,rfl,pm,hl2,sm,lf2⟩;have ll:l.length=i:=by rw[pm.length_eq,bY]
     refine⟨_,rfl,.inl ⟨rfl,_,SqL.of hl2⟩,_,rfl,_,rfl,_,_,rfl,rfl,LL,_,md,(i:Int),rfl,lf2,by omega,by omega,by omega,fun dr H3 d0 d1 lf3 o3=>?_⟩
     have hl3:H3 NL=some (.lst (zV l)):=(o3 NL nLN.symm).trans hl2;obtain⟨j,hj⟩:∃j:Nat,dr=(j:Int):=⟨_,(Int.toNat_of_nonneg d0).symm⟩;subst hj;refine⟨_,rfl,NL,_,j,_,rfl,rfl,hl3,by rw[ao];omega,by rw[ao];exact aR (by omega),?_⟩
     refine⟨l.take j++(i:Int)::l.drop j,_,rfl,names_step pm j,?_,fun b o e=>?_,lf3.mono (ae nLN) (by omega)⟩
     . rw[a9,show(0+(i:Int))=(i:Int) by omega,ik]
     . rw[ae (af e hNL0),o3 b (af e hLL0)];exact sm b o e
   rintro σ H2 ⟨names,v5,rfl,pm,hN2,sm2,lf2⟩;have nl:names.length=m:=by rw[pm.length_eq,bY]
   have nnd:names.Nodup:=pm.nodup_iff.mpr (hV m);refine⟨by show 0≤sizeLine;exact aO (by decide),fun RL hRL=>?_⟩
   have hRL0:H RL=none:=sm2.free hRL;have nNR:NL≠RL:=af hN2 hRL;obtain⟨_,_,eLL2⟩:=lf2.ty;have nLR:LL≠RL:=af eLL2 hRL;refine⟨_,rfl,(1:Int),(m:Int),rfl,⟨by decide,by decide,by omega,by omega⟩,?_⟩
   rw[show((m:Int) - 1).toNat=m - 1 by omega]
   refine cp (fun i σ H3=>∃(as:List Addr) (rs:List Road) (v6 v8 v9 v10:Option V),σ=[some (.ref a),some (.int (ns.getD 0 0 / 2)),some (.int m),some (.ref LL),some (.int d),some (.ref NL),v6,some (.ref RL),v8,v9,v10,none,none]/\RoadsAt H3 RL as rs/\Tr rs (names.take (i+1))/\(∀r∈rs,1≤r.2.2/\r.2.2≤10 ^ 39) ∧
    H3 NL=some (.lst (zV names))/\Same H H3/\(∀x∈as,H x=none/\x≠LL/\x≠NL)/\LeftAt H3 LL md (12+3*i)) ?_ ?_ ?_
   . refine⟨[],[],_,none,none,none,rfl,⟨⟨a9,rfl,fun i p z e=>by simp at e⟩,List.nodup_nil⟩,?_,(fun r hr=>nomatch hr),by rw[ae nNR];exact hN2,fun b o e=>by rw[ae (af e hRL0)];exact sm2 b o e,(fun x hx=>nomatch hx),lf2.mono (ae nLR) (by omega)⟩
     match names,nl with
     | x::t,_=>exact .one x
     | [],e=>simp at e;omega
   . rintro i σ H3 hi ⟨as,rs,v6,v8,v9,v10,rfl,hR3,tr,hlen,hN3,sm3,fr3,lf3⟩;have rl:rs.length=i:=by
      have:=tr.length;rw[List.length_take]at this;omega
     have al:=hR3.len;have keep:∀{H4:Hp},(∀q,q≠LL->H4 q=H3 q)->RoadsAt H4 RL as rs/\H4 NL=some (.lst (zV names))/\Same H H4:=fun{H4} o4=>by
      refine⟨⟨⟨(o4 RL nLR.symm).trans hR3.rows.top,hR3.rows.len,fun j q z e1 e2=>?_⟩,hR3.nd⟩,(o4 NL nLN.symm).trans hN3,fun b o e=>(o4 b (af e hLL0)).trans (sm3 b o e)⟩;exact(o4 q (fr3 q (List.mem_of_getElem? e1)).2.1).trans (hR3.rows.row j q z e1 e2)
     refine⟨_,rfl,_,rfl,LL,1+(i:Int),md,12+3*(i:Int),rfl,lf3,by omega,by omega,by omega,fun o0 H4 oo0 oo1 lf4 o4=>?_⟩
     obtain⟨hR4,hN4,sm4⟩:=keep o4;refine⟨_,rfl,_,rfl,_,_,rfl,rfl,a,ns,3+i,(by show [V.ref a,V.int (2+(1+(i:Int)))]=_;rw[show(2:Int)+(1+(i:Int))=((3+i:Nat):Int) by omega]),sm4.seq hS,_,_,rfl,rfl,⟨by decide,by decide,by decide⟩,_,_,rfl,rfl,(by show(0:Int) < 10 ^ 39;decide),_,_,rfl,rfl,?_⟩
     have e0:=Int.emod_nonneg (ns.getD (3+i) 0) (show((10:Int) ^ 39)≠0 by decide)
     have e1:=Int.emod_lt_of_pos (ns.getD (3+i) 0) (show(0:Int) < (10:Int) ^ 39 by decide)
     obtain⟨x4,c4,eL4⟩:=lf4.ty;refine⟨_,rfl,LL,_,_,_,rfl,rfl,SqL.of eL4,rfl,rfl,_,rfl,?_⟩;rw[ay];refine iteD (fun em=>?g1) (fun em=>?g2)
     case' g1 =>
      have q1:=Int.emod_nonneg o0 (show(3:Int)≠0 by decide)
      refine⟨_,rfl,_,_,rfl,rfl,_,rfl,_,rfl,_,_,rfl,rfl,_,rfl,_,_,rfl,rfl,(by show(0:Int) < 3;decide),_,_,rfl,rfl,_,_,rfl,_,rfl,_,_,rfl,rfl,_,_,rfl,rfl,⟨by decide,by decide⟩,by show 5≤sizeLine;exact aO (by decide),fun p5 hp5=>?_⟩
      refine⟨_,rfl,_,_,rfl,rfl,(by show(0:Int) < 5;decide),?_⟩
      obtain⟨v,hv,hs,hat,_⟩:=cj (K:=K) (H:=upd H4 p5 (.lst [V.int (1+(i:Int) - 1),V.int 0,V.int o0,V.int (if 1+(i:Int) - 1 - o0 % 3 > 0 then 1+(i:Int) - 1 - o0 % 3 else 0),V.int ((1+(i:Int) - 1) / 2)])) a9 (i:=d % 5) (Int.emod_nonneg _ (by decide)) (Int.emod_lt_of_pos _ (by decide))
      refine⟨p5,_,_,v,rfl,rfl,hs,hat,?_⟩;obtain⟨o0,rfl,ob⟩:∃o:Int,v=V.int o/\0≤o/\o < 1+(i:Int):=by
       simp only[List.mem_cons,List.not_mem_nil,or_false]at hv;rcases hv with rfl | rfl | rfl | rfl | rfl
       . exact⟨_,rfl,by omega⟩
       . exact⟨_,rfl,by omega⟩
       . exact⟨_,rfl,by omega⟩
       . exact⟨_,rfl,by split<;>omega⟩
       . exact⟨_,rfl,by omega⟩
      have n5:LL≠p5:=af eL4 hp5;refine⟨_,rfl,_,rfl,d,1+(i:Int),rfl,hd,by omega,by omega,fun len H5 s5 l0 l1=>?_⟩
      have s45:=(ac hp5).trans s5;have ex:1≤len/\len≤10 ^ 39/\0≤o0/\o0 < 1+(i:Int)/\RoadsAt H5 RL as rs/\H5 NL=some (.lst (zV names))/\Same H H5/\LeftAt H5 LL md (12+3*(i:Int)+1):=⟨l0,l1,ob.1,ob.2,hR4.mono s45,s45 _ _ hN4,sm4.trans s45,by
       obtain⟨x,c,e,h1,h2,h3⟩:=lf4;exact⟨x,c,s45 _ _ e,h1,h2,h3⟩⟩
     case' g2 =>
      have ex:1≤1+ns.getD (3+i) 0 % 10 ^ 39/\1+ns.getD (3+i) 0 % 10 ^ 39≤10 ^ 39/\0≤o0/\o0 < 1+(i:Int)/\RoadsAt H4 RL as rs/\H4 NL=some (.lst (zV names))/\Same H H4/\LeftAt H4 LL md (12+3*(i:Int)+1):=⟨by omega,by omega,oo0,oo1,hR4,hN4,sm4,lf4⟩
     all_goals
      obtain⟨l0,l1,o0',o1',hR5,hN5,sm5,lf5⟩:=ex;obtain⟨u,hu⟩:∃u,names[o0.toNat]? = some u:=⟨names[o0.toNat]'(by omega),List.getElem?_eq_getElem _⟩
      obtain⟨x,hx⟩:∃x,names[i+1]? = some x:=⟨names[i+1]'(by omega),List.getElem?_eq_getElem _⟩
      refine⟨_,rfl,_,rfl,NL,_,_,_,rfl,rfl,SqL.of hN5,bU o0' (di hu),_,rfl,_,rfl,NL,_,_,_,rfl,rfl,SqL.of hN5,bU (by omega) (by rw[show(1+(i:Int)).toNat=i+1 by omega];exact di hx),by show 2≤sizeLine;exact aO (by decide),fun pr hpr=>?_⟩
      obtain⟨x5,c5,eL5⟩:=lf5.ty;have nLp:LL≠pr:=af eL5 hpr;refine⟨_,rfl,LL,2,md,12+3*(i:Int)+1,rfl,lf5.mono (ae nLp) (Int.le_refl _),by omega,by decide,by decide,fun dr H6 d0 d1 lf6 o6=>?_⟩
      refine⟨rfl,_,rfl,?_⟩;rw[ay];have hpr6:H6 pr=some (.lst [V.int u,V.int x]):=(o6 pr nLp.symm).trans a9;have k6:∀{b:Addr},b≠LL->b≠pr->H6 b=_:=fun{b} h1 h2=>(o6 b h1).trans (ae h2);have prR:RL≠pr:=af hR5.rows.top hpr;have prN:NL≠pr:=af hN5 hpr;have hR6:RoadsAt H6 RL as rs:=⟨⟨(k6 nLR.symm prR).trans hR5.rows.top,hR5.rows.len,fun j q z e1 e2=>by
       have hq:=hR5.rows.row j q z e1 e2;exact(k6 (fr3 q (List.mem_of_getElem? e1)).2.1 (af hq hpr)).trans hq⟩,hR5.nd⟩
      have hN6:H6 NL=some (.lst (zV names)):=(k6 nLN.symm prN).trans hN5;have sm6:Same H H6:=fun b o e=>(k6 (af e hLL0) (af (sm5 b o e) hpr)).trans (sm5 b o e);have hpr0:H pr=none:=sm5.free hpr;have mid:∃(pr':Addr) (y z:Int),True:=⟨pr,u,x,trivial⟩;clear mid;refine iteD (fun e2=>?_) (fun e2=>?_)
      . refine⟨_,rfl,_,rfl,pr,_,rfl,rfl,SqL.of hpr6,fun p2 hp2=>?_⟩;have s7:=ac (o:=.lst [V.int x,V.int u]) hp2;obtain⟨x6,c6,eL6⟩:=lf6.ty;have nL2:LL≠p2:=af eL6 hp2;refine⟨_,rfl,.inl ⟨rfl,_,SqL.of (s7 _ _ hR6.rows.top)⟩,_,rfl,_,rfl,LL,1+(i:Int),md,12+3*(i:Int)+1+1,rfl,lf6.mono (ae nL2) (Int.le_refl _),by omega,by omega,by omega,fun dj H7 j0 j1 lf7 o7=>?_⟩
        obtain⟨j,hj⟩:∃j:Nat,dj=(j:Int):=⟨_,(Int.toNat_of_nonneg j0).symm⟩;subst hj;refine⟨_,rfl,_,rfl,by show 1≤sizeLine;exact aO (by decide),fun q1 hq1=>?_⟩
        have hp7:H7 p2=some (.lst [V.int x,V.int u]):=(o7 p2 nL2.symm).trans a9;have npq:=af hp7 hq1;refine⟨p2,q1,_,_,rfl,rfl,(ae npq).trans hp7,a9,by show 2+1≤sizeLine;exact aO (by decide),fun q2 hq2=>?_⟩
        have k7:∀{b:Addr} {o:HO},b≠LL->H6 b=some o->H7 b=some o:=fun{b o} h1 h2=>(o7 b h1).trans (s7 b o h2);have hR7:RoadsAt H7 RL as rs:=⟨⟨k7 nLR.symm hR6.rows.top,hR6.rows.len,fun j q z e1 e2=>k7 (fr3 q (List.mem_of_getElem? e1)).2.1 (hR6.rows.row j q z e1 e2)⟩,hR6.nd⟩;have s8:=fun o2=>(ac hq1).trans (ac (o:=o2) hq2);have q20:H7 q2=none:=(ac (H:=H7) hq1).free hq2;refine⟨RL,_,j,_,rfl,rfl,(s8 _) _ _ hR7.rows.top,by rw[List.length_map,al];omega,by rw[List.length_map,al];exact aR (by omega),?_⟩
        obtain⟨x7,c7,eL7⟩:=lf7.ty;have hN7:=k7 nLN.symm hN6;refine⟨as.take j++q2::as.drop j,rs.take j++(x,u,_)::rs.drop j,_,_,_,_,rfl,hR7.ins (s8 _) q20 a9 (by omega),?_,?_,?_,?_,?_,?_⟩
        . exact gx tr nnd (show o0.toNat < i+1 by omega) (by omega) hu hx (.inr ⟨rfl,rfl⟩) j
        . intro r hr;rcases List.mem_cons.mp ((bH rs j (x,u,_)).mem_iff.mp hr)with e | e
          . subst e;exact⟨l0,l1⟩
          . exact hlen r e
        . rw[ae nNR];exact(s8 _) _ _ hN7
        . intro b o e;rw[ae (af e hRL0)];exact(s8 _) b o (k7 (af e hLL0) (sm6 b o e))
        . intro b hb;rcases List.mem_cons.mp ((bH as j q2).mem_iff.mp hb)with e | e
          . subst e;refine⟨?_,(fun z=>by rw[z,eL7]at q20;cases q20),(fun z=>by rw[z,hN7]at q20;cases q20)⟩
            cases hz:H b with
            | none=>rfl
            | some u=>rw[k7 (af hz hLL0) (sm6 b u hz)]at q20;cases q20
          . exact fr3 b e
        . refine lf7.mono ?_ (by omega)
          rw[ae nLR];exact((s8 _) _ _ eL7).trans eL7.symm
      . obtain⟨x6,c6,eL6⟩:=lf6.ty;refine⟨_,rfl,.inl ⟨rfl,_,SqL.of hR6.rows.top⟩,_,rfl,_,rfl,LL,1+(i:Int),md,12+3*(i:Int)+1+1,rfl,lf6,by omega,by omega,by omega,fun dj H7 j0 j1 lf7 o7=>?_⟩
        obtain⟨j,hj⟩:∃j:Nat,dj=(j:Int):=⟨_,(Int.toNat_of_nonneg j0).symm⟩;subst hj;refine⟨_,rfl,_,rfl,by show 1≤sizeLine;exact aO (by decide),fun q1 hq1=>?_⟩
        have hp7:H7 pr=some (.lst [V.int u,V.int x]):=(o7 pr nLp.symm).trans hpr6;have npq:=af hp7 hq1;refine⟨pr,q1,_,_,rfl,rfl,(ae npq).trans hp7,a9,by show 2+1≤sizeLine;exact aO (by decide),fun q2 hq2=>?_⟩
        have k7:∀{b:Addr} {o:HO},b≠LL->H6 b=some o->H7 b=some o:=fun{b o} h1 h2=>(o7 b h1).trans h2;have hR7:RoadsAt H7 RL as rs:=⟨⟨k7 nLR.symm hR6.rows.top,hR6.rows.len,fun j q z e1 e2=>k7 (fr3 q (List.mem_of_getElem? e1)).2.1 (hR6.rows.row j q z e1 e2)⟩,hR6.nd⟩;have s8:=fun o2=>(ac hq1).trans (ac (o:=o2) hq2);have q20:H7 q2=none:=(ac (H:=H7) hq1).free hq2;refine⟨RL,_,j,_,rfl,rfl,(s8 _) _ _ hR7.rows.top,by rw[List.length_map,al];omega,by rw[List.length_map,al];exact aR (by omega),?_⟩
        obtain⟨x7,c7,eL7⟩:=lf7.ty;have hN7:=k7 nLN.symm hN6;refine⟨as.take j++q2::as.drop j,rs.take j++(u,x,_)::rs.drop j,_,_,_,_,rfl,hR7.ins (s8 _) q20 a9 (by omega),?_,?_,?_,?_,?_,?_⟩
        . exact gx tr nnd (show o0.toNat < i+1 by omega) (by omega) hu hx (.inl ⟨rfl,rfl⟩) j
        . intro r hr;rcases List.mem_cons.mp ((bH rs j (u,x,_)).mem_iff.mp hr)with e | e
          . subst e;exact⟨l0,l1⟩
          . exact hlen r e
        . rw[ae nNR];exact(s8 _) _ _ hN7
        . intro b o e;rw[ae (af e hRL0)];exact(s8 _) b o (k7 (af e hLL0) (sm6 b o e))
        . intro b hb;rcases List.mem_cons.mp ((bH as j q2).mem_iff.mp hb)with e | e
          . subst e;refine⟨?_,(fun z=>by rw[z,eL7]at q20;cases q20),(fun z=>by rw[z,hN7]at q20;cases q20)⟩
            cases hz:H b with
            | none=>rfl
            | some u=>rw[k7 (af hz hLL0) (sm6 b u hz)]at q20;cases q20
          . exact fr3 b e
        . refine lf7.mono ?_ (by omega)
          rw[ae nLR];exact((s8 _) _ _ eL7).trans eL7.symm
   rintro σ H3 ⟨as,rs,v6,v8,v9,v10,rfl,hR3,tr,hlen,hN3,sm3,fr3,lf3⟩;have tr0:Tree m rs:=by
    refine⟨m1,m2,tr.perm (.refl _) ?_,fun r hr=>(hlen r hr).1⟩;rw[show m - 1+1=m by omega,←nl,List.take_length]
    rw[nl];exact pm.symm
   have hle0:∀r∈rs,r.2.2≤10 ^ 39:=fun r hr=>(hlen r hr).2;obtain⟨xL,cL,eL3⟩:=lf3.ty;refine⟨_,rfl,_,rfl,_,rfl,a,_,rfl,sm3.seq hS,fun SL hSL=>?_⟩;have hSR:SL≠RL:=fun z=>by rw[z,hR3.rows.top]at hSL;cases hSL
   have hLS:LL≠SL:=af eL3 hSL;have hSa:SL∉as:=hR3.fresh hSL;refine⟨SL,rfl,⟨_,SqL.of a9⟩,?_⟩;have s4:=ac (o:=.lst (cutV (zV ns) (some 3) (some 63))) hSL;refine cJ (K:=K) (a:=SL) (xs:=cutV (zV ns) (some 3) (some 63)) (fun i σ H5=>∃(as:List Addr) (rs:List Road) (v11 v12:Option V),σ=[some (.ref a),some (.int (ns.getD 0 0 / 2)),some (.int m),some (.ref LL),some (.int d),some (.ref NL),v6,some (.ref RL),v8,v9,v10,v11,v12]/\RoadsAt H5 RL as rs/\Tree m rs/\(∀r∈rs,r.2.2≤10 ^ 39) ∧
    H5 SL=some (.lst (cutV (zV ns) (some 3) (some 63)))/\H5 LL=some (.lst [.int xL,.int md,.int cL])/\SL∉as/\LL∉as/\Same H H5/\∀x∈as,H x=none) ⟨as,rs,none,none,rfl,hR3.mono s4,tr0,hle0,a9,by rw[ae hLS];exact eL3,hSa,fun z=>(fr3 LL z).2.1 rfl,sm3.trans s4,fun x hx=>(fr3 x hx).1⟩ (fun i σ H5 _ ⟨_,_,_,_,_,_,_,_,h,_⟩=>SqL.of h) ?_ ?_
   . rintro i y σ H5 hi ⟨as,rs,v11,v12,rfl,hR5,t5,hle5,hS5,hL5,nS5,nL5,sm5,fr5⟩;obtain⟨z,rfl,hz⟩:∃z,y=V.int z/\Bits z:=by
      have:=mem_cutV (List.mem_of_getElem? hi);unfold zV at this;obtain⟨z,hz,e⟩:=List.mem_map.mp this;exact⟨z,e.symm,hb z hz⟩
     have hz':intBits z≤2 ^ 20:=hz;have t5l:=t5.length;refine⟨_,rfl,_,_,rfl,rfl,_,rfl,?_⟩;refine iteD (fun h1=>?_) (fun h1=>?_)
     . refine⟨_,rfl,LL,_,_,_,rfl,rfl,SqL.of hL5,rfl,rfl,_,rfl,?_⟩;rw[ay];refine iteD (fun h2=>?_) (fun h2=>?_)
       . refine⟨_,rfl,_,_,rfl,rfl,(by show(0:Int) < 2;decide),rfl,_,rfl,?_⟩
         rw[ay];refine iteD (fun h3=>?_) (fun h3=>?_)
         . refine⟨_,rfl,_,rfl,_,rfl,_,_,rfl,rfl,⟨by decide,by decide⟩,RL,as,rs,m,_,rfl,hR5,t5,by omega,bits_ediv hz' (by decide),fun as' rs' H6 hR6 t6 le6 bt6 nw6=>?_⟩
           refine⟨as',rs',_,_,rfl,hR6,t6,le6 _ hle5,bt6 _ _ hS5 hSR,bt6 _ _ hL5 nLR,fun q=>?_,fun q=>?_,fun b u hb=>bt6 _ _ (sm5 b u hb) (af hb hRL0),fun x hx=>?_⟩
           . rcases nw6 _ q with h | h
             . exact nS5 h
             . rw[hS5]at h;cases h
           . rcases nw6 _ q with h | h
             . exact nL5 h
             . rw[hL5]at h;cases h
           . rcases nw6 _ hx with h | h
             . exact fr5 x h
             . exact sm5.free h
         . refine⟨_,rfl,_,_,rfl,Nat.le_trans hz' (by decide),by decide,by decide,_,rfl,_,_,rfl,rfl,_,_,rfl,rfl,(by omega),?_⟩
           have i0:=Int.emod_nonneg (mixF z 6) (show((m:Int) - 1)≠0 by omega)
           have i1:=Int.emod_lt_of_pos (mixF z 6) (show(0:Int) < (m:Int) - 1 by omega)
           have hjl:(mixF z 6 % ((m:Int) - 1)).toNat < rs.length:=by omega
           obtain⟨r,er⟩:∃r,rs[(mixF z 6 % ((m:Int) - 1)).toNat]? = some r:=⟨_,List.getElem?_eq_getElem hjl⟩;obtain⟨q,hq,hrow⟩:=hR5.get er;have at1:atI (as.map V.ref) (mixF z 6 % ((m:Int) - 1))=some (V.ref q):=bU i0 (dm hq);refine⟨_,rfl,_,rfl,RL,_,_,_,rfl,rfl,SqL.of hR5.rows.top,at1,q,_,_,_,rfl,rfl,SqL.of hrow,rfl,_,rfl,_,_,rfl,Nat.le_trans hz' (by decide),by decide,by decide,_,_,rfl,rfl,(by show(0:Int) < 9;decide),_,_,rfl,rfl,_,_,rfl,rfl,⟨by decide,by decide,by decide⟩,_,_,rfl,rfl,(by show(0:Int) < 10 ^ 39;decide),_,_,rfl,rfl,?_⟩
           refine⟨_,rfl,_,rfl,RL,_,_,_,rfl,rfl,SqL.of hR5.rows.top,at1,q,_,_,2,rfl,rfl,hrow,rfl,?_⟩;have e0:=Int.emod_nonneg (r.2.2+mixF z 7 % 9) (show((10:Int) ^ 39)≠0 by decide)
           have e1:=Int.emod_lt_of_pos (r.2.2+mixF z 7 % 9) (show(0:Int) < (10:Int) ^ 39 by decide)
           have nSq:SL≠q:=fun w=>nS5 (by rw[w];exact List.mem_of_getElem? hq)
           have nLq:LL≠q:=fun w=>nL5 (by rw[w];exact List.mem_of_getElem? hq)
           refine⟨as,rs.set _ (r.1,r.2.1,1+(r.2.2+mixF z 7 % 9) % 10 ^ 39),_,_,rfl,?_,t5.longer er (by omega),fun x hx=>?_,by rw[ae nSq];exact hS5,by rw[ae nLq];exact hL5,nS5,nL5,fun b u hb=>?_,fr5⟩
           . exact hR5.longer (r':=(r.1,r.2.1,1+(r.2.2+mixF z 7 % 9) % 10 ^ 39)) hq er
           . rcases List.mem_or_eq_of_mem_set hx with h | h
             . exact hle5 x h
             . rw[h];show 1+(r.2.2+mixF z 7 % 9) % 10 ^ 39≤10 ^ 39;omega
           . rw[ae (af hb (fr5 q (List.mem_of_getElem? hq)))];exact sm5 b u hb
       . exact⟨as,rs,_,_,rfl,hR5,t5,hle5,hS5,hL5,nS5,nL5,sm5,fr5⟩
     . exact⟨as,rs,_,_,rfl,hR5,t5,hle5,hS5,hL5,nS5,nL5,sm5,fr5⟩
   rintro σ H5 ⟨as,rs,v11,v12,rfl,hR5,t5,hle5,hS5,hL5,nS5,nL5,sm5,fr5⟩;refine⟨_,rfl,_,rfl,by show 2≤sizeLine;exact aO (by decide),fun T hT=>?_⟩
   have s6:=ac (o:=.tup [V.int m,V.ref RL]) hT;exact k T RL as m rs _ a9 (hR5.mono s6) t5 hle5 (sm5.trans s6)
end
end Tw
namespace Tw
open PySem L2
open PySem.Builtin.Int (intBits)
section
variable {P:Program}{w:World}{K:PySem.W.Frag}{mg:Str->Option Value}{base:Heap}
theorem bD (z:List Int):(zV z).all cf=true:=by
 unfold zV;rw[List.all_map,List.all_eq_true];intro x _;rfl
theorem zV_item {z:List Int}{i:Nat}{y:V}(h:(zV z)[i]? = some y):∃x,z[i]? = some x/\y=V.int x:=by
 unfold zV at h;rw[List.getElem?_map]at h;cases e:z[i]? with
 | none=>rw[e]at h;cases h
 | some x=>rw[e]at h;exact⟨x,rfl,(Option.some.inj h).symm⟩
theorem eD {H:Hp}{a:Addr}{as:List Addr}{zss:List (List Int)}(h:RowsAt H a as zss):Rows2 K H a as (zss.map zV):=by
 refine⟨SqL.of h.top,by rw[List.length_map];exact h.len,fun i p xs e1 e2=>?_⟩
 rw[List.getElem?_map]at e2;cases e:zss[i]? with
 | none=>rw[e]at e2;cases e2
 | some z =>
  rw[e]at e2;cases e2;exact⟨SqL.of (h.row i p z e1 e),bD z⟩
theorem gm (zss:List (List Int)):((List.range (zss.map zV).length).all fun j=>eqVs ((zss.map zV).getD j []) ((zss.map zV).getD j []))=true:=by
 rw[List.all_eq_true];intro j hj;have hj':=List.mem_range.mp hj;rw[List.length_map]at hj';have e:(zss.map zV).getD j []=zV zss[j]:=by
  rw[List.getD_eq_getElem?_getD,List.getElem?_map,List.getElem?_eq_getElem hj'];rfl
 rw[e];exact eqVs_refl (bD _)
def spLaw (K:PySem.W.Frag):Sp:=fun vs H Q _=>∃(a:Addr) (ns:List Int),vs=[.ref a]/\SqL K H a (zV ns)/\(∀n∈ns,Bits n)/\ns.length≤63/\∀H',Q (.bl true) H'
theorem gz {H1:Hp}{R D:Addr}{as:List Addr}{zss:List (List Int)}{te:TE}{σ:St}{Qf:Hp->Prop}(hR:RowsAt H1 R as zss)(hz:zss.length≤100)(hD:H1 D=none)(hte:∀(p:Addr) (H4:Hp) (Qv:VK) (zs:List V),H4 p=some (.lst zs)->(∀l,H4 l=none->Qv (.ref l) (upd H4 l (.lst zs)))->te (σ++[some (.ref p)]) H4 Qv)(k:∀(bs:List Addr) (H2:Hp),RowsAt H2 D bs zss->Same H1 H2->(∀b∈bs,H1 b=none)->Qf H2):∃W:Nat->Nat->List V->Hp->Prop,(∃m,W 0 m [] (upd H1 D (.lst [])))/\∀i m ys H2,W i m ys H2->H2 D=some (.lst ys)/\(((Itl K R).stop i H2/\Qf H2)∨((Itl K R).go i H2/\∃N:List V->Hp->Prop,(∀ys' H',N ys' H'->∃m',m' < m/\W (i+1) m' ys' H')/\∀y H3,(Itl K R).yld i H2 y H3->tYes (σ++[some y]) H3 fun c H4=>if c=true then te (σ++[some y]) H4 fun z H5=>H5 D=some (.lst ys)/\ys.length < sizeLine/\N (ys++[z]) (upd H5 D (.lst (ys++[z])))else N ys H4)):=by
 have al:=hR.len;refine cq (K:=K) (a:=R) (xs:=as.map V.ref) (fun i ys H2=>∃bs:List Addr,ys=bs.map V.ref/\bs.length=i/\H2 D=some (.lst ys)/\Same H1 H2/\(∀(j:Nat) (p:Addr) (z:List Int),bs[j]? = some p->zss[j]? = some z->H2 p=some (.lst (zV z)))/\∀b∈bs,H1 b=none/\b≠D)
  (fun i ys H2 ⟨_,_,_,h1,h2,_⟩=>⟨h1,SqL.of (h2 _ _ hR.top)⟩) ⟨[],rfl,rfl,a9,ac hD,(fun j p r e=>by simp at e),(fun b hb=>nomatch hb)⟩ ?_ ?_
 . rintro i y ys H2 hi ⟨bs,rfl,bl,hD2,s2,rw2,fr2⟩;obtain⟨p,hp,rfl⟩:=dJ hi;have hil:i < zss.length:=by rw[←al];exact(List.getElem?_eq_some_iff.mp hp).1
   have er:zss[i]? = some zss[i]:=List.getElem?_eq_getElem hil;have hrow:=s2 _ _ (hR.row i p zss[i] hp er);refine yesI ?_;refine hte p H2 _ _ hrow fun q hq=>?_;have nDq:D≠q:=af hD2 hq;refine⟨by rw[ae nDq];exact hD2,by rw[List.length_map,bl];exact aR (by omega),bs++[q],by rw[List.map_append];rfl,by rw[List.length_append,bl];rfl,a9,fun b o e=>?_,fun j p' r e1 e2=>?_,fun b hb=>?_⟩
   . rw[ae (af e hD),ae (af (s2 b o e) hq)];exact s2 b o e
   . by_cases hj:j < bs.length
     . rw[List.getElem?_append_left hj]at e1;have h2:=rw2 j p' r e1 e2;rw[ae (fr2 p' (List.mem_of_getElem? e1)).2,ae (af h2 hq)];exact h2
     . rw[List.getElem?_append_right (by omega)]at e1
       have hz:j - bs.length=0:=by
        have:=(List.getElem?_eq_some_iff.mp e1).1;simp at this;omega
       rw[hz]at e1;have e3:q=p':=by simpa using e1
       subst e3;have e4:j=i:=by omega
       subst e4;rw[er]at e2;cases e2;rw[ae nDq.symm,a9]
   . rcases List.mem_append.mp hb with z | z
     . exact fr2 b z
     . have e:b=q:=by simpa using z
       subst e;exact⟨s2.free hq,nDq.symm⟩
 . rintro ys H2 ⟨bs,rfl,bl,hD2,s2,rw2,fr2⟩;rw[List.length_map,al]at bl;exact k bs H2 ⟨hD2,bl,fun i p z e1 e2=>rw2 i p z e1 e2⟩ s2 fun b hb=>(fr2 b hb).1
end
end Tw
namespace Tw
open PySem L2
section
variable {P:Program}{w:World}{K:PySem.W.Frag}{mg:Str->Option Value}{base:Heap}
end
end Tw
namespace Tw
open PySem L2
theorem cm (v:Int)(l:List Int):inV (.int v) (zV l)=decide (v∈l):=by
 unfold inV;by_cases h:v∈l
 . rw[decide_eq_true h,List.any_eq_true];exact⟨.int v,List.mem_map.mpr ⟨v,h,rfl⟩,by show(v == v)=true;exact beq_self_eq_true v⟩
 . rw[decide_eq_false h,List.any_eq_false];rintro y hy;obtain⟨x,hx,rfl⟩:=List.mem_map.mp hy;show ¬(x == v)=true;rw[beq_iff_eq];rintro rfl;exact h hx
section
variable {P:Program}{w:World}{K:PySem.W.Frag}{mg:Str->Option Value}{base:Heap}
end
end Tw
namespace Tw
open PySem L2
def SameP (p:Addr)(H H':Hp):Prop:=∀b o,b≠p->H b=some o->H' b=some o
theorem SameP.trans {p:Addr}{H H' H2:Hp}(a:SameP p H H')(b:SameP p H' H2):SameP p H H2:=fun x o n e=>b x o n (a x o n e)
theorem Same.toP {p:Addr}{H H':Hp}(a:Same H H'):SameP p H H':=fun x o _ e=>a x o e
theorem SameP.of_eq {p:Addr}{H H':Hp}(a:∀q,q≠p->H' q=H q):SameP p H H':=fun x o n e=>(a x n).trans e
theorem RowsAt.monoP {H H':Hp}{a p:Addr}{as:List Addr}{zss:List (List Int)}(h:RowsAt H a as zss)(s:SameP p H H')(n1:a≠p)(n2:p∉as):RowsAt H' a as zss:=
 ⟨s _ _ n1 h.top,h.len,fun i q z e1 e2=>s _ _ (fun e=>n2 (e▸List.mem_of_getElem? e1)) (h.row i q z e1 e2)⟩
theorem leads_out {n:Nat}{rs:List Road}{f:Int->Int->Int}(t:Tree n rs)(m:Met rs (pl n) f){S:List Int}(hS:∀x∈S,x∈pl n)(ne:S≠[])(hl:S.length < n):∃r∈rs,(r.1∈S/\r.2.1∉S)∨(r.2.1∈S/\r.1∉S):=by
 refine Classical.byContradiction fun h=>?_;have h':∀r∈rs,(r.1∈S<->r.2.1∈S):=fun r hr=>by
  constructor
  . intro a;exact Classical.byContradiction fun b=>h ⟨r,hr,.inl ⟨a,b⟩⟩
  . intro a;exact Classical.byContradiction fun b=>h ⟨r,hr,.inr ⟨a,b⟩⟩
 obtain⟨s,hs⟩:∃s,s∈S:=by
  cases S with
  | nil=>exact absurd rfl ne
  | cons s l=>exact⟨s,List.mem_cons_self ..⟩
 have all:=Met.ind t m (hS s hs) (P:=fun x=>x∈S) hs fun r hr p q _ _ j _ hp=>by
  rcases j with⟨rfl,rfl⟩ | ⟨rfl,rfl⟩
  . exact(h' r hr).mp hp
  . exact(h' r hr).mpr hp
 have:=gt (hV n) all;rw[bY]at this;omega
section
variable {P:Program}{w:World}{K:PySem.W.Frag}{mg:Str->Option Value}{base:Heap}
def iC:Sp:=fun vs H Q _=>∃(n:Nat) (R p:Addr) (as:List Addr) (rs:List Road) (f:Int->Int->Int) (md lim:Int),vs=[.int n,.ref R,.ref p]/\RowsAt H R as (rs.map rowI)/\Tree n rs/\Met rs (pl n) f/\LeftAt H p md lim/\0≤lim/\lim≤100/\R≠p/\p∉as ∧
 ∀(L:Addr) (S:List Int) (H':Hp),SameP p H H'->H L=none->H' L=some (.lst (zV S))->S≠[]->S.Nodup->(∀x∈S,x∈pl n)->LeftAt H' p md (lim+14)->Q (.ref L) H'
theorem scLLump:FnScope ["_law_many", "_law_roads", "_law_left_here", "_law_found", "_law_turn", "_law_more", "_law_a", "_law_b", "_law_length"] ["_law_many", "_law_roads", "_law_left_here"] (aa dZ):=⟨rfl,rfl,rfl,by decide +kernel,rfl,by decide +kernel,by decide +kernel⟩
theorem ok_llump {f fD:Addr}{fd fdD:FuncData}(F:Def K mg "_law_lump" dZ ["_law_many", "_law_roads", "_law_left_here"] f fd)(FD:Def K mg "_law_draw" dv ["_law_left_here", "_law_base"] fD fdD)(GD:FnOk P w K mg base CX0 2 fD fdD ["_law_left_here", "_law_base"] eN)(B:Bi K mg):FnOk P w K mg base CX0 3 f fd ["_law_many", "_law_roads", "_law_left_here"] iC:=by
 refine F.fn.ok scLLump (fun vs H Q E h=>?_) (fun cdv A outer s H vs Q E hr h=>?_)
 . obtain⟨n,R,p,as,rs,f,md,lim,rfl,_⟩:=h;rfl
 . obtain⟨n,R,p,as,rs,f,md,lim,rfl,hR,t,m,lf,l0,l1,nRp,npa,k⟩:=h;have nd:=scLLump.nd;have th:=t.hi;have tlo:=t.lo;have tl:=t.length;have al:=hR.len;rw[List.length_map]at al;refine⟨_,(ad (aQ (i:=3) nd rfl (Or.inl rfl) (aK (a2 (aj GD (hr.mono (by decide)) rfl FD.mg FD.fn.kp FD.bn .nil aE (a2 (pv 2) (a2 (pv 0) a4))) a4)))
    (ad (bV PassesOwn.never rfl (bg rfl B.range (a2 (aj GD (hr.mono (by decide)) rfl FD.mg FD.fn.kp FD.bn .nil aE (a2 (pv 2) (a2 (ak (call_min2 rfl) (by rfl) B.min PyProof.Rows.boot_min (a2 (pv 0) (az a3 a4))) a4))) a4)) (bj (i:=4) nd rfl (Or.inl rfl)) (ad (aQ (i:=5) nd rfl (Or.inl rfl) (aK a4))
    (ad (bV PassesOwn.never rfl (bd K (pv 1)) (pg_lst rfl (dw (bj (i:=6) nd rfl (Or.inl rfl)) (dw (bj (i:=7) nd rfl (Or.inl rfl)) (dw (bj (i:=8) nd rfl (Or.inl rfl)) iO)))) (ad (b6 (PW.pt (eO (ax (inK K) (pv 6) (pv 3) rfl) (dF (ax (jg K) (pv 7) (pv 3) rfl)))) (ah (cu (eE PySem.F.plainAttrs_list PySem.F.slot_list_append PySem.F.type_list_append dg (pv 5) (a2 (pv 7) a4)))) aG)
    (ah (b6 (PW.pt (eO (ax (inK K) (pv 7) (pv 3) rfl) (dF (ax (jg K) (pv 6) (pv 3) rfl)))) (ah (cu (eE PySem.F.plainAttrs_list PySem.F.slot_list_append PySem.F.type_list_append dg (pv 5) (a2 (pv 6) a4)))) aG))))
    (ah (cu (eE PySem.F.plainAttrs_list PySem.F.slot_list_insert PySem.F.type_list_insert dH (pv 3) (a2 (aj GD (hr.mono (by decide)) rfl FD.mg FD.fn.kp FD.bn .nil aE (a2 (pv 2) (aL (ar aY (ak (lenK K) (by rfl) B.len PySem.boot_len (a2 (pv 3) a4)) a3) a4))) (aJ (aF (ixK K) (pv 5) (aj GD (hr.mono (by decide)) rfl FD.mg FD.fn.kp FD.bn .nil aE (a2 (pv 2) (a2 (ak (lenK K) (by rfl) B.len PySem.boot_len (a2 (pv 5) a4)) a4))) (fun _ _=>rfl)) a4))))))))
    (ah (aB (pv 3))))),?_⟩
   refine⟨_,rfl,_,rfl,p,(n:Int),md,lim,rfl,lf,by omega,by omega,by omega,fun d1 H1 a0 a1 lf1 o1=>⟨by show 1≤sizeLine;exact aO (by decide),fun Fo hFo=>?_⟩⟩
   obtain⟨x1,c1,eP1⟩:=lf1.ty;have nFp:Fo≠p:=fun z=>by rw[z]at hFo;rw[hFo]at eP1;cases eP1
   have fo0:H Fo=none:=(o1 Fo nFp).symm.trans hFo;have w2:SameP p H (upd H1 Fo (.lst [V.int d1])):=fun b o nb e=>by
    have e1:H1 b=some o:=(o1 b nb).trans e;rw[ae (af e1 hFo)];exact e1
   have tF:(upd H1 Fo (.lst [V.int d1])) Fo=some (.lst (zV [d1])):=a9;have lf2:LeftAt (upd H1 Fo (.lst [V.int d1])) p md (lim+1):=lf1.mono (ae nFp.symm) (Int.le_refl _);generalize upd H1 Fo (.lst [V.int d1])=H2 at w2 tF lf2⊢;obtain⟨mb,hmb⟩:∃mb:Int,mb=(if (6:Int) < (n:Int)then (6:Int)else (n:Int)):=⟨_,rfl⟩
   have mn:1≤mb/\mb≤n:=by rw[hmb];split<;>omega
   refine⟨_,rfl,_,rfl,_,_,rfl,p,mb,md,lim+1,(by rw[hmb];rfl),lf2,by omega,by omega,by omega,fun d2 H3 b0 b1 lf3 o3=>⟨d2,rfl,by omega,by omega,?_⟩⟩
   have w3:SameP p H H3:=w2.trans (SameP.of_eq o3);have tF3:H3 Fo=some (.lst (zV [d1])):=(o3 Fo nFp).trans tF;obtain⟨tn,etn⟩:∃tn:Nat,d2.toNat=tn:=⟨_,rfl⟩;rw[etn];have htn:tn < n:=by omega
   have htn5:tn≤5:=by omega
   refine cp (fun i σ H4=>∃(S:List Int) (v4 v5 v6 v7 v8:Option V),σ=[some (.int n),some (.ref R),some (.ref p),some (.ref Fo),v4,v5,v6,v7,v8]/\H4 Fo=some (.lst (zV S))/\S.Nodup/\(∀x∈S,x∈pl n)/\S.length=i+1/\LeftAt H4 p md (lim+2+2*(i:Int))/\SameP p H H4)
    ⟨[d1],none,none,none,none,none,rfl,tF3,by simp,(fun x hx=>by rw[List.mem_singleton.mp hx];exact mem_pl.mpr ⟨a0,a1⟩),rfl,lf3.mono rfl (by omega),w3⟩ ?_ ?_
   . rintro i σ H4 hi ⟨S,v4,v5,v6,v7,v8,rfl,hF4,snd,srg,sln,lf4,w4⟩;have sne:S≠[]:=fun e=>by rw[e]at sln;simp at sln
     refine⟨by show 0≤sizeLine;exact aO (by decide),fun Mo hMo=>?_⟩
     obtain⟨x4,c4,eP4⟩:=lf4.ty;have nMp:Mo≠p:=fun z=>by rw[z]at hMo;rw[hMo]at eP4;cases eP4
     have nFM:Fo≠Mo:=af hF4 hMo;have wM:=ac (o:=.lst []) hMo;have tM:(upd H4 Mo (.lst [])) Mo=some (.lst (zV [])):=a9;have hF5:=wM _ _ hF4;have lf5:LeftAt (upd H4 Mo (.lst [])) p md (lim+2+2*(i:Int)):=lf4.mono (ae nMp.symm) (Int.le_refl _);have w5:SameP p H (upd H4 Mo (.lst [])):=w4.trans (Same.toP wM);have mo0:∀b o,b≠p->H b=some o->b≠Mo:=fun b o nb e z=>by
      have:=w4 b o nb e;rw[z,hMo]at this;cases this
     generalize upd H4 Mo (.lst [])=H5 at tM hF5 lf5 w5⊢;have hR5:=hR.monoP w5 nRp npa;refine⟨_,rfl,R,rfl,⟨_,SqL.of hR5.top⟩,cJ (K:=K) (a:=R) (xs:=as.map V.ref) (fun j σ H6=>∃(ms:List Int) (v6 v7 v8:Option V),σ=[some (.int n),some (.ref R),some (.ref p),some (.ref Fo),some (.int (0+(i:Int))),some (.ref Mo),v6,v7,v8]/\H6 Mo=some (.lst (zV ms))/\(∀x∈ms,x∉S/\x∈pl n)/\ms.length≤j/\(∀r∈rs.take j,((r.1∈S/\r.2.1∉S)∨(r.2.1∈S/\r.1∉S))->ms≠[])/\(∀b,b≠Mo->H6 b=H5 b)) ⟨[],v6,v7,v8,rfl,tM,(fun _ h=>nomatch h),Nat.le_refl _,(fun r h=>by simp at h),fun _ _=>rfl⟩ (fun j σ H6 _ ⟨_,_,_,_,_,_,_,_,_,h⟩=>SqL.of ((h R (mo0 R _ nRp hR.top)).trans hR5.top)) ?_ ?_⟩
     . rintro j y σ H6 hj ⟨ms,v6,v7,v8,rfl,hM6,mo,ml,mne,o6⟩;obtain⟨q,hq,rfl⟩:=dJ hj;have hjl:j < rs.length:=by rw[←al];exact(List.getElem?_eq_some_iff.mp hq).1
       obtain⟨r,er⟩:∃r,rs[j]? = some r:=⟨_,List.getElem?_eq_getElem hjl⟩;have hrm:=List.mem_of_getElem? er;have hrow0:H q=some (.lst [.int r.1,.int r.2.1,.int r.2.2]):=hR.row j q (rowI r) hq (by rw[List.getElem?_map,er];rfl)
       have nqp:q≠p:=fun z=>npa (z▸List.mem_of_getElem? hq);have hrow:H6 q=some (.lst [.int r.1,.int r.2.1,.int r.2.2]):=(o6 q (mo0 q _ nqp hrow0)).trans (w5 _ _ nqp hrow0);have hF6:H6 Fo=some (.lst (zV S)):=(o6 Fo nFM).trans hF5;obtain⟨pm1,pm2,_⟩:=t.tr.places r hrm;have tk:∀{Z:Road->Prop},(∀r'∈rs.take j,Z r')->Z r->∀r'∈rs.take (j+1),Z r':=fun{Z} h1 h2 r' hr'=>by
        rw[List.take_add_one,er]at hr';rcases List.mem_append.mp hr' with h | h
        . exact h1 r' h
        . have:r'=r:=by simpa using h
          rw[this];exact h2
       refine⟨q,_,rfl,SqL.of hrow,rfl,_,_,rfl,_,_,rfl,_,_,rfl,rfl,?_⟩;refine⟨_,rfl,_,rfl,Fo,_,rfl,.inl (SqL.of hF6),rfl,bD _,_,rfl,?_⟩;show(if inV (.int r.1) (zV S)=true then _ else _)
       rw[cm];by_cases c1:r.1∈S
       . rw[decide_eq_true c1];refine iteT ⟨_,rfl,_,rfl,Fo,_,rfl,.inl (SqL.of hF6),rfl,bD _,_,rfl,?_⟩;show(if (!inV (.int r.2.1) (zV S))=true then _ else _)
         rw[cm];by_cases c2:r.2.1∈S
         . rw[decide_eq_true c2];refine iteF ⟨_,rfl,_,rfl,Fo,_,rfl,.inl (SqL.of hF6),rfl,bD _,_,rfl,?_⟩;show(if inV (.int r.2.1) (zV S)=true then _ else _)
           rw[cm,decide_eq_true c2];refine iteT ⟨_,rfl,_,rfl,Fo,_,rfl,.inl (SqL.of hF6),rfl,bD _,_,rfl,?_⟩;show(if (!inV (.int r.1) (zV S))=true then _ else _)
           rw[cm,decide_eq_true c1];exact iteF ⟨ms,_,_,_,rfl,hM6,mo,Nat.le_succ_of_le ml,tk mne (fun h=>absurd h (by
            rintro(⟨_,h⟩ | ⟨_,h⟩)
            . exact h c2
            . exact h c1)),o6⟩
         . rw[decide_eq_false c2];refine iteT ⟨_,rfl,.inl ⟨rfl,_,SqL.of hM6⟩,_,rfl,Mo,_,_,rfl,rfl,hM6,by rw[ao];exact aR (by omega),?_⟩
           have hF7:(upd H6 Mo (.lst (zV ms++[V.int r.2.1]))) Fo=some (.lst (zV S)):=by rw[ae nFM];exact hF6
           refine⟨_,rfl,_,rfl,Fo,_,rfl,.inl (SqL.of hF7),rfl,bD _,_,rfl,?_⟩;show(if inV (.int r.2.1) (zV S)=true then _ else _)
           rw[cm,decide_eq_false c2];refine iteF (iteF ⟨ms++[r.2.1],_,_,_,rfl,by rw[a9];exact congrArg (fun l=>some (HO.lst l)) (bC _ _),fun x hx=>?_,by rw[List.length_append];show _+1≤_;omega,fun _ _ _=>by simp,fun b hb=>by rw[ae hb];exact o6 b hb⟩)
           rcases List.mem_append.mp hx with h | h
           . exact mo x h
           . rw[List.mem_singleton.mp h];exact⟨c2,pm2⟩
       . rw[decide_eq_false c1];refine iteF (iteF ⟨_,rfl,_,rfl,Fo,_,rfl,.inl (SqL.of hF6),rfl,bD _,_,rfl,?_⟩);show(if inV (.int r.2.1) (zV S)=true then _ else _)
         rw[cm];by_cases c2:r.2.1∈S
         . rw[decide_eq_true c2];refine iteT ⟨_,rfl,_,rfl,Fo,_,rfl,.inl (SqL.of hF6),rfl,bD _,_,rfl,?_⟩;show(if (!inV (.int r.1) (zV S))=true then _ else _)
           rw[cm,decide_eq_false c1];refine iteT ⟨_,rfl,.inl ⟨rfl,_,SqL.of hM6⟩,_,rfl,Mo,_,_,rfl,rfl,hM6,by rw[ao];exact aR (by omega),?_⟩
           refine⟨ms++[r.1],_,_,_,rfl,by rw[a9];exact congrArg (fun l=>some (HO.lst l)) (bC _ _),fun x hx=>?_,by rw[List.length_append];show _+1≤_;omega,fun _ _ _=>by simp,fun b hb=>by rw[ae hb];exact o6 b hb⟩
           rcases List.mem_append.mp hx with h | h
           . exact mo x h
           . rw[List.mem_singleton.mp h];exact⟨c1,pm1⟩
         . rw[decide_eq_false c2];exact iteF (iteF ⟨ms,_,_,_,rfl,hM6,mo,Nat.le_succ_of_le ml,tk mne (fun h=>absurd h (by
            rintro(⟨h,_⟩ | ⟨h,_⟩)
            . exact c1 h
            . exact c2 h)),o6⟩)
     . rintro σ H6 ⟨ms,v6,v7,v8,rfl,hM6,mo,ml,mne,o6⟩;rw[List.length_map,al]at ml;rw[List.length_map,al,List.take_length]at mne;obtain⟨r,hr',hlead⟩:=leads_out t m srg sne (by omega)
       have mne':=mne r hr' hlead;have mlen:0 < ms.length:=List.length_pos_iff.mpr mne';have hF6:H6 Fo=some (.lst (zV S)):=(o6 Fo nFM).trans hF5;have lf6:LeftAt H6 p md (lim+2+2*(i:Int)):=lf5.mono (o6 p nMp.symm) (Int.le_refl _);have w6:SameP p H H6:=fun b o nb e=>(o6 b (mo0 b o nb e)).trans (w5 b o nb e);refine⟨_,rfl,.inl ⟨rfl,_,SqL.of hF6⟩,_,rfl,_,rfl,Fo,_,rfl,.inl (SqL.of hF6),_,_,rfl,rfl,p,(((zV S).length:Nat):Int)+1,md,lim+2+2*(i:Int),rfl,lf6,by omega,by omega,by rw[ao];omega,fun e1 H7 e10 e11 lf7 o7=>?_⟩
       have hM7:H7 Mo=some (.lst (zV ms)):=(o7 Mo nMp).trans hM6;refine⟨_,rfl,_,rfl,_,rfl,Mo,_,rfl,.inl (SqL.of hM7),p,(((zV ms).length:Nat):Int),md,lim+2+2*(i:Int)+1,rfl,lf7,by omega,by rw[ao];omega,by rw[ao];omega,fun e2 H8 e20 e21 lf8 o8=>?_⟩
       rw[ao]at e11 e21;have hM8:H8 Mo=some (.lst (zV ms)):=(o8 Mo nMp).trans hM7;have hF8:H8 Fo=some (.lst (zV S)):=((o8 Fo nFp).trans (o7 Fo nFp)).trans hF6;obtain⟨x,hx⟩:∃x,ms[e2.toNat]? = some x:=⟨_,List.getElem?_eq_getElem (by omega)⟩
       obtain⟨xo,xp⟩:=mo x (List.mem_of_getElem? hx);refine⟨Mo,_,_,_,rfl,rfl,SqL.of hM8,bU e20 (di hx),?_⟩;obtain⟨jn,ejn⟩:∃jn:Nat,e1=(jn:Int):=⟨_,(Int.toNat_of_nonneg e10).symm⟩;subst ejn;refine⟨Fo,_,jn,_,rfl,rfl,hF8,by rw[ao];omega,by rw[ao,sln];exact aR (by omega),?_⟩
       refine⟨S.take jn++x::S.drop jn,_,_,_,_,_,rfl,?_,?_,fun y hy=>?_,?_,lf8.mono (ae nFp.symm) (by omega),fun b o nb e=>?_⟩
       . rw[a9,ik]
       . exact(bH S jn x).nodup_iff.mpr (List.nodup_cons.mpr ⟨xo,snd⟩)
       . rcases List.mem_cons.mp ((bH S jn x).mem_iff.mp hy)with h | h
         . rw[h];exact xp
         . exact srg y h
       . rw[(bH S jn x).length_eq,List.length_cons,sln]
       . rw[ae (af e fo0)];exact(o8 b nb).trans ((o7 b nb).trans (w6 b o nb e))
   . rintro σ H4 ⟨S,v4,v5,v6,v7,v8,rfl,hF4,snd,srg,sln,lf4,w4⟩;exact⟨_,rfl,k Fo S H4 w4 fo0 hF4 (fun e=>by rw[e]at sln;simp at sln) snd srg (lf4.mono rfl (by omega))⟩
end
end Tw
namespace Tw
open PySem L2
section
variable {K:PySem.W.Frag}
theorem i8 {a D:Addr}{as:List Addr}{zss:List (List Int)}{p:List Int->Bool}{tf:TT}{te:TE}{σ:St}{H1:Hp}{Qf:Hp->Prop}(hR:RowsAt H1 a as zss)(hl:zss.length≤100)(hD:H1 D=none)(hf:∀z q,z∈zss->∀(H4:Hp) (Qv:Bool->Hp->Prop),H4 q=some (.lst (zV z))->Same H1 H4->(∀H5,Same H4 H5->Qv (p z) H5)->tf (σ++[some (.ref q)]) H4 Qv)(hte:∀q (H4:Hp) (Qv:VK),Qv (.ref q) H4->te (σ++[some (.ref q)]) H4 Qv)(k:∀(bs:List Addr) (H2:Hp),RowsAt H2 D bs (zss.filter p)->Same H1 H2->(∀b∈bs,b∈as)->Qf H2):∃W:Nat->Nat->List V->Hp->Prop,(∃m,W 0 m [] (upd H1 D (.lst [])))/\∀i m ys H2,W i m ys H2->H2 D=some (.lst ys)/\(((Itl K a).stop i H2/\Qf H2)∨((Itl K a).go i H2/\∃N:List V->Hp->Prop,(∀ys' H',N ys' H'->∃m',m' < m/\W (i+1) m' ys' H')/\∀y H3,(Itl K a).yld i H2 y H3->tf (σ++[some y]) H3 fun c H4=>if c=true then te (σ++[some y]) H4 fun z H5=>H5 D=some (.lst ys)/\ys.length < sizeLine/\N (ys++[z]) (upd H5 D (.lst (ys++[z])))else N ys H4)):=by
 have al:=hR.len;refine cq (K:=K) (a:=a) (xs:=as.map V.ref) (fun i ys H2=>ys=((((as.zip zss).take i).filter fun u=>p u.2).map fun u=>V.ref u.1)/\H2 D=some (.lst ys)/\Same H1 H2)
  (fun i ys H2 ⟨_,h1,h2⟩=>⟨h1,SqL.of (h2 _ _ hR.top)⟩) ⟨rfl,a9,ac hD⟩ ?_ ?_
 . rintro i y ys H2 hi ⟨rfl,hD2,s2⟩;obtain⟨q,hq,rfl⟩:=dJ hi;have hil:i < zss.length:=by rw[←al];exact(List.getElem?_eq_some_iff.mp hq).1
   have er:zss[i]? = some zss[i]:=List.getElem?_eq_getElem hil;have ez:(as.zip zss)[i]? = some (q,zss[i]):=by rw[List.getElem?_zip_eq_some];exact⟨hq,er⟩
   have step:((as.zip zss).take (i+1)).filter (fun u=>p u.2)=((as.zip zss).take i).filter (fun u=>p u.2)++if p zss[i]=true then [(q,zss[i])]else []:=by
    rw[List.take_add_one,ez,List.filter_append];show _++[(q,zss[i])].filter _=_;rw[List.filter_cons];rfl
   refine hf zss[i] q (List.mem_of_getElem? er) H2 _ (s2 _ _ (hR.row i q _ hq er)) s2 fun H5 s5=>?_;have s15:=s2.trans s5;refine iteB (fun e=>hte q H5 _ ⟨s5 _ _ hD2,?_,?_,a9,fun b o e=>by rw[ae (af e hD)];exact s15 b o e⟩) (fun e=>⟨?_,s5 _ _ hD2,s15⟩)
   . rw[List.length_map];refine aR (Nat.le_trans (List.length_filter_le _ _) ?_);rw[List.length_take,List.length_zip];omega
   . rw[step,if_pos e,List.map_append];rfl
   . rw[step,if_neg (by rw[e];decide),List.append_nil]
 . rintro ys H2 ⟨rfl,hD2,s2⟩;rw[List.length_map,List.take_of_length_le (by rw[List.length_zip];omega)]at hD2
   have e2:((as.zip zss).filter fun u=>p u.2).map (·.2)=zss.filter p:=by
    have:zss.filter p=((as.zip zss).map (·.2)).filter p:=by rw[List.map_snd_zip (by omega)]
    rw[this,List.filter_map];rfl
   refine k (((as.zip zss).filter fun u=>p u.2).map (·.1)) H2 ⟨by rw[hD2,List.map_map];rfl,by rw[←e2,List.length_map,List.length_map],fun i q z h1 h2=>?_⟩ s2 fun b hb=>?_
   . rw[←e2]at h2;rw[List.getElem?_map]at h1 h2;cases e:((as.zip zss).filter fun u=>p u.2)[i]? with
     | none=>rw[e]at h1;cases h1
     | some u =>
      rw[e]at h1 h2;cases h1;cases h2;have um:=(List.mem_filter.mp (List.mem_of_getElem? e)).1;obtain⟨j,hj⟩:=List.mem_iff_getElem?.mp um;rw[List.getElem?_zip_eq_some]at hj;exact s2 _ _ (hR.row j _ _ hj.1 hj.2)
   . obtain⟨u,hu,rfl⟩:=List.mem_map.mp hb;have um:=(List.mem_filter.mp hu).1;exact(List.of_mem_zip um).1
end
open PyProof.Rows (firstMet firstMet_any firstMet_succ)
theorem map_getDy (ns:List Int):(List.range ns.length).map (fun i=>ns.getD i 0)=ns:=by
 refine List.ext_getElem? fun i=>?_;rw[List.getElem?_map];by_cases hi:i < ns.length
 . rw[List.getElem?_range hi,List.getElem?_eq_getElem hi];show some (ns.getD i 0)=_;rw[List.getD_eq_getElem?_getD,List.getElem?_eq_getElem hi];rfl
 . rw[List.getElem?_eq_none (by rw[List.length_range];omega),List.getElem?_eq_none (by omega)];rfl
theorem firstMet_memy {ns:List Int}{y:Int}:y∈firstMet (fun i=>ns.getD i 0) ns.length<->y∈ns:=by
 have h:=firstMet_any (fun i=>ns.getD i 0) ns.length y;rw[map_getDy]at h;rw[Bool.eq_iff_iff,List.any_eq_true,List.any_eq_true]at h;constructor
 . intro hy;obtain⟨x,hx,e⟩:=h.mp ⟨y,hy,by simp⟩
   have:x=y:=by simpa using e
   rw[←this];exact hx
 . intro hy;obtain⟨x,hx,e⟩:=h.mpr ⟨y,hy,by simp⟩
   have:x=y:=by simpa using e
   rw[←this];exact hx
theorem bT (val:Nat->Int):∀i,(firstMet val i).Nodup
 | 0=>by show([]:List Int).Nodup;exact List.nodup_nil
 | i+1=>by
  rw[firstMet_succ];unfold PyProof.Rows.step_dedup;have ih:=bT val i
  split
  . exact ih
  . rename_i h;refine List.nodup_append.mpr ⟨ih,by simp,fun a ha b hb e=>?_⟩
    have:b=val i:=by simpa using hb
    exact h (List.any_eq_true.mpr ⟨a,ha,by rw[e,this];simp⟩)
theorem unlike_memy {l ns:List Int}(nd:l.Nodup)(h:∀x,x∈ns<->x∈l):dU ns=l.length:=by
 unfold dU;have pm:(firstMet (fun i=>ns.getD i 0) ns.length).Perm l:=(List.perm_ext_iff_of_nodup (bT _ _) nd).mpr fun x=>firstMet_memy.trans (h x);exact pm.length_eq
theorem unlike_nodup {l:List Int}(nd:l.Nodup):dU l=l.length:=unlike_memy nd fun _=>Iff.rfl
def c3 (n:Nat)(rs:List Road)(z:List Int):Bool:=!z.isEmpty&&(plcs n z&&(decide (dU z=z.length)&&decide ((rs.filter (inB z)).length+1=z.length)))
section
variable {P:Program}{w:World}{K:PySem.W.Frag}{mg:Str->Option Value}{base:Heap}
def iA:Sp:=fun vs H Q _=>∃(a:Addr) (zs:List Int),vs=[.ref a]/\H a=some (.lst (zV zs))/\zs.length≤100/\∀b:Bool,(b=true<->dU zs=zs.length)->Q (.bl b) H
theorem scUnl:FnScope ["some"] ["some"] (aa bE):=⟨rfl,rfl,rfl,by decide +kernel,rfl,by decide +kernel,by decide +kernel⟩
theorem je {f:Addr}{fd:FuncData}(F:Def K mg "are_unlike" bE ["some"] f fd)(B:Bi K mg):FnOk P w K mg base CX0 1 f fd ["some"] iA:=by
 refine F.fn.ok scUnl (fun vs H Q E h=>?_) (fun cdv A outer s H vs Q E hr h=>?_)
 . obtain⟨a,zs,rfl,_⟩:=h;rfl
 . obtain⟨a,zs,rfl,ha,hl,k⟩:=h;refine⟨_,(ah (aB (aU aV (pe_lenset rfl rfl B.len rfl B.set (pv 0)) (ak (lenK K) (by rfl) B.len PySem.boot_len (a2 (pv 0) a4)) (av _)))),?_⟩
   refine⟨_,rfl,a,zs,rfl,SqL.of ha,hl,_,rfl,a,_,rfl,.inl (SqL.of ha),rfl,?_⟩;rw[ay];refine k _ ?_;rw[decide_eq_true_iff,ao];omega
def inZ (S:List Int)(z:List Int):Bool:=decide (z.getD 0 0∈S)&&decide (z.getD 1 0∈S)
theorem fg (S:List Int)(r:Road):inZ S (rowI r)=inB S r:=rfl
theorem i5 (rs:List Road)(S:List Int):(rs.map rowI).filter (inZ S)=(rs.filter (inB S)).map rowI:=by
 rw[List.filter_map];rfl
def gJ:Sp:=fun vs H Q _=>∃(n:Nat) (R A:Addr) (as:List Addr) (rs:List Road) (z:List Int),vs=[.int n,.ref R,.ref A]/\RowsAt H R as (rs.map rowI)/\Tree n rs/\H A=some (.lst (zV z))/\z.length≤100/\∀H':Hp,Same H H'->Q (.bl (c3 n rs z)) H'
theorem scLump:FnScope ["many", "roads", "some", "inner"] ["many", "roads", "some"] (aa eA):=⟨rfl,rfl,rfl,by decide +kernel,rfl,by decide +kernel,by decide +kernel⟩
theorem ok_lump {f fC fA fUN:Addr}{fd fdC fdA fdUN:FuncData}(F:Def K mg "is_lump" eA ["many", "roads", "some"] f fd)(FC:Def K mg "check_tree" e8 ["many", "roads"] fC fdC)(FA:Def K mg "are_places" bi ["many", "some"] fA fdA)(FUN:Def K mg "are_unlike" bE ["some"] fUN fdUN)(GC:FnOk P w K mg base CX0 5 fC fdC ["many", "roads"] gK)(GA:FnOk P w K mg base CX0 3 fA fdA ["many", "some"] dW)(GUN:FnOk P w K mg base CX0 1 fUN fdUN ["some"] iA)(B:Bi K mg):FnOk P w K mg base CX0 6 f fd ["many", "roads", "some"] gJ:=by
 refine F.fn.ok scLump (fun vs H Q E h=>?_) (fun cdv A outer s H vs Q E hr h=>?_)
 . obtain⟨n,R,A,as,rs,z,rfl,_⟩:=h;rfl
 . obtain⟨n,R,A,as,rs,z,rfl,hR,t,hA,zl,k⟩:=h;have nd:=scLump.nd;have n12:=t.hi;have tl:=t.length;refine⟨_,(ad (cu (aj GC (hr.mono (by decide)) rfl FC.mg FC.fn.kp FC.bn .nil aE (a2 (pv 0) (a2 (pv 1) a4))))
    (ad (b6 (PW.pt (bN (ax aV (ak (lenK K) (by rfl) B.len PySem.boot_len (a2 (pv 2) a4)) a3 (av _)) (bN (cG (cz (aj GA (hr.mono (by decide)) rfl FA.mg FA.fn.kp FA.bn .nil aE (a2 (pv 0) (a2 (pv 2) a4))))) (ci (cG (cz (aj GUN (hr.mono (by decide)) rfl FUN.mg FUN.fn.kp FUN.bn .nil aE (a2 (pv 2) a4)))))))) (ah (aB bO)) aG)
    (ad (cU (aa eA).names ["many", "roads", "some", "inner"] ["many", "roads", "some", "inner", "row"] 3 nd rfl (Or.inl rfl) (bd K (pv 1)) (fun _ _ _ _=>(gP (PW.pt (eO (ax (inK K) (aF (ixK K) (pv 4) a3 (fun _ _=>rfl)) (pv 2) rfl) (dF (ax (inK K) (aF (ixK K) (pv 4) a3 (fun _ _=>rfl)) (pv 2) rfl)))))) (fun _ _ _ _=>(pv 4)))
    (ah (aB (aU aV (ak (lenK K) (by rfl) B.len PySem.boot_len (a2 (pv 3) a4)) (ar bQ (ak (lenK K) (by rfl) B.len PySem.boot_len (a2 (pv 2) a4)) a3) (av _))))))),?_⟩
   refine⟨_,rfl,_,rfl,n,R,as,_,rfl,hR,by rw[List.length_map];omega,t.isTree,fun H1 s1=>?_⟩
   have hA1:=s1 _ _ hA;refine⟨_,rfl,A,_,rfl,.inl (SqL.of hA1),rfl,_,rfl,?_⟩;rw[ay];have e0:decide (((zV z).length:Int)=0)=z.isEmpty:=by
    rw[ao];cases z with
    | nil=>rfl
    | cons x t=>exact decide_eq_false (by simp only[List.length_cons];omega)
   rw[e0];refine iteB (fun e=>iteT (by have:=k H1 s1;unfold c3 at this;rw[e]at this;exact this)) (fun e=>?_)
   refine⟨_,rfl,_,rfl,n,A,z,rfl,hA1,zl,fun H2 s2=>⟨_,rfl,?_⟩⟩;have s12:=s1.trans s2;have hA2:=s12 _ _ hA;cases ep:plcs n z with
   | false=>exact iteT (iteT (by have:=k H2 s12;unfold c3 at this;rw[e,ep]at this;exact this))
   | true =>
    refine iteF ⟨_,rfl,A,z,rfl,hA2,zl,fun c hc=>⟨_,rfl,?_⟩⟩;cases c with
    | false=>exact iteT (by
     have:=k H2 s12;unfold c3 at this;rw[e,ep,decide_eq_false (fun h=>by have:=hc.mpr h;cases this)]at this;exact this)
    | true =>
     have eu:=decide_eq_true (hc.mp rfl);have hR2:=hR.mono s12;refine iteF ⟨_,rfl,R,rfl,⟨_,SqL.of hR2.top⟩,fun D hD=>?_⟩;refine i8 (K:=K) (p:=inZ z) hR2 (by rw[List.length_map];omega) hD (fun y q hy H4 Qv hq s4 kk=>?_) (fun q H4 Qv h=>⟨_,rfl,h⟩) fun bs H5 hD5 s5 sub=>?_
     . obtain⟨r,hr',rfl⟩:=List.mem_map.mp hy;have hA4:=s4 _ _ hA2;refine⟨_,rfl,q,_,_,_,rfl,rfl,SqL.of hq,rfl,_,rfl,A,_,rfl,.inl (SqL.of hA4),rfl,bD _,_,rfl,?_⟩;show(if inV (V.int r.1) (zV z)=true then _ else _)
       rw[cm];refine iteD (fun e1=>?_) (fun e1=>?_)
       . refine⟨_,rfl,q,_,_,_,rfl,rfl,SqL.of hq,rfl,_,rfl,A,_,rfl,.inl (SqL.of hA4),rfl,bD _,_,rfl,?_⟩;have:=kk H4 (Same.refl _);rw[fg,inB,decide_eq_true e1,Bool.true_and,←cm]at this;exact this
       . have:=kk H4 (Same.refl _);rw[fg,inB,decide_eq_false e1,Bool.false_and]at this;exact this
     . rw[i5]at hD5;have dl:=hD5.len;rw[List.length_map]at dl;have s15:=s12.trans s5;refine⟨_,rfl,D,_,rfl,.inl (SqL.of hD5.top),_,rfl,A,_,rfl,.inl (SqL.of (s5 _ _ hA2)),_,_,rfl,rfl,rfl,?_⟩;rw[ay,List.length_map,ao,dl];have:=k H5 s15;unfold c3 at this;rw[e,ep,eu]at this;have ee:decide (((rs.filter (inB z)).length:Int)=(z.length:Int) - 1)=decide ((rs.filter (inB z)).length+1=z.length):=by
        by_cases h:(rs.filter (inB z)).length+1=z.length
        . rw[decide_eq_true h,decide_eq_true (by omega)]
        . rw[decide_eq_false h,decide_eq_false (by omega)]
       rw[ee];exact this
end
end Tw
namespace Tw
open PySem L2
section
variable {P:Program}{w:World}{K:PySem.W.Frag}{mg:Str->Option Value}{base:Heap}
def ic (n:Int)(z:List Int):Prop:=(z.length:Int)=n/\∀x∈z,0≤x
def fu:Sp:=fun vs H Q _=>∃(n:Int) (a:Addr) (z:List Int),vs=[.int n,.ref a]/\H a=some (.lst (zV z))/\z.length≤100/\∀(b:Bool) (H':Hp),Same H H'->(b=true<->ic n z)->Q (.bl b) H'
theorem scWantsB:FnScope ["many", "wants"] ["many", "wants"] (aa bI):=⟨rfl,rfl,rfl,by decide +kernel,rfl,by decide +kernel,by decide +kernel⟩
theorem ok_wantsB {f fW:Addr}{fd fdW:FuncData}(F:Def K mg "are_wants" bI ["many", "wants"] f fd)(FW:Def K mg "is_whole" bP ["value"] fW fdW)(B:Bi K mg):FnOk P w K mg base CX0 2 f fd ["many", "wants"] fu:=by
 have GW:FnOk P w K mg base CX0 1 fW fdW ["value"] cr:=cy FW B;refine F.fn.ok scWantsB (fun vs H Q E h=>?_) (fun cdv A outer s H vs Q E hr h=>?_)
 . obtain⟨n,a,z,rfl,_⟩:=h;rfl
 . obtain⟨n,a,z,rfl,ha,hl,k⟩:=h;have nd:=scWantsB.nd;refine⟨_,(ah (aB (bc (aU aV (ak (lenK K) (by rfl) B.len PySem.boot_len (a2 (pv 1) a4)) (pv 0) (av _)) (bA (ak (cO rfl) (by rfl) B.all PyProof.Rows.boot_all (a2 (bL (aa bI).names ["many", "wants"] ["many", "wants", "want"] (bd K (pv 1)) (fun _ _ _ _=>bF) (fun _ _ _ _=>(bc (aj GW (hr.mono (by decide)) rfl FW.mg FW.fn.kp FW.bn .nil aE (a2 (pv 2) a4)) (bA (aU gr (pv 2) a3 (av _)))))) a4)))))),?_⟩
   refine⟨_,rfl,a,_,rfl,.inl (SqL.of ha),_,rfl,rfl,_,rfl,?_⟩;rw[ay,ao];refine iteD (fun e=>?_) (fun e=>?_)
   . refine⟨_,rfl,a,rfl,⟨_,SqL.of ha⟩,fun D hD=>?_⟩;refine eI (K:=K) (a:=a) (xs:=z) (el:=V.int) (fv:=fun x=>V.bl (decide (0≤x))) ha hD (by omega) (fun i x ex H4 Qv s4 kk=>?_) fun H2 hD2 s2=>?_
     . exact⟨_,rfl,x,rfl,_,rfl,iteT ⟨_,rfl,_,_,rfl,rfl,kk H4 (Same.refl _)⟩⟩
     . refine⟨D,z.map fun x=>decide (0≤x),rfl,SqL.of (by rw[List.map_map];exact hD2),k _ H2 s2 ?_⟩
       rw[List.all_map,List.all_eq_true];exact⟨fun q=>⟨e,fun x hx=>of_decide_eq_true (q x hx)⟩,fun q x hx=>decide_eq_true (q.2 x hx)⟩
   . exact k false H (Same.refl _) ⟨(fun q=>nomatch q),fun q=>absurd q.1 e⟩
def ig (n:Int)(z:List Int):Prop:=(z.length:Int)=n/\z.sum=0
def fE:Sp:=fun vs H Q _=>∃(n:Int) (a:Addr) (z:List Int),vs=[.int n,.ref a]/\H a=some (.lst (zV z))/\z.length≤100/\∀(b:Bool) (H':Hp),Same H H'->(b=true<->ig n z)->Q (.bl b) H'
theorem scGivesB:FnScope ["many", "gives"] ["many", "gives"] (aa bK):=⟨rfl,rfl,rfl,by decide +kernel,rfl,by decide +kernel,by decide +kernel⟩
theorem ok_givesB {f fW:Addr}{fd fdW:FuncData}(F:Def K mg "are_gives" bK ["many", "gives"] f fd)(FW:Def K mg "is_whole" bP ["value"] fW fdW)(B:Bi K mg):FnOk P w K mg base CX0 2 f fd ["many", "gives"] fE:=by
 have GW:FnOk P w K mg base CX0 1 fW fdW ["value"] cr:=cy FW B;refine F.fn.ok scGivesB (fun vs H Q E h=>?_) (fun cdv A outer s H vs Q E hr h=>?_)
 . obtain⟨n,a,z,rfl,_⟩:=h;rfl
 . obtain⟨n,a,z,rfl,ha,hl,k⟩:=h;have nd:=scGivesB.nd;refine⟨_,(ah (aB (bc (aU aV (ak (lenK K) (by rfl) B.len PySem.boot_len (a2 (pv 1) a4)) (pv 0) (av _)) (bc (ak (cO rfl) (by rfl) B.all PyProof.Rows.boot_all (a2 (bL (aa bK).names ["many", "gives"] ["many", "gives", "gift"] (bd K (pv 1)) (fun _ _ _ _=>bF) (fun _ _ _ _=>(aj GW (hr.mono (by decide)) rfl FW.mg FW.fn.kp FW.bn .nil aE (a2 (pv 2) a4)))) a4)) (bA (aU aV (ak (sumK K rfl) (by rfl) B.sum PyProof.Rows.boot_sum (a2 (pv 1) a4)) a3 (av _))))))),?_⟩
   refine⟨_,rfl,a,_,rfl,.inl (SqL.of ha),_,rfl,rfl,_,rfl,?_⟩;rw[ay,ao];refine iteD (fun e=>?_) (fun e=>?_)
   . refine⟨_,rfl,a,rfl,⟨_,SqL.of ha⟩,fun D hD=>?_⟩;refine eI (K:=K) (a:=a) (xs:=z) (el:=V.int) (fv:=fun _=>V.bl true) ha hD (by omega) (fun i x ex H4 Qv s4 kk=>⟨_,rfl,x,rfl,kk H4 (Same.refl _)⟩) fun H2 hD2 s2=>?_
     refine⟨D,z.map fun _=>true,rfl,SqL.of (by rw[List.map_map];exact hD2),?_⟩
     rw[show(z.map fun _=>true).all id=true from List.all_eq_true.mpr fun b hb=>by obtain⟨_,_,rfl⟩:=List.mem_map.mp hb;rfl]
     refine⟨_,rfl,iteT ?_⟩;refine⟨_,rfl,a,z,rfl,SqL.of (s2 _ _ ha),rfl,?_⟩;refine k _ H2 s2 ?_;rw[ay,decide_eq_true_iff];exact⟨fun q=>⟨e,q⟩,fun q=>q.2⟩
   . exact k false H (Same.refl _) ⟨(fun q=>nomatch q),fun q=>absurd q.1 e⟩
def dE (m:Nat)(z:List Int):Prop:=z.length=m/\∀x∈z,0≤x
def eK:Sp:=fun vs H Q _=>∃(y a:Addr) (ys:List V) (z:List Int),vs=[.ref y,.ref a]/\H y=some (.lst ys)/\H a=some (.lst (zV z))/\z.length≤100/\∀(b:Bool) (H':Hp),Same H H'->(b=true<->dE ys.length z)->Q (.bl b) H'
theorem scWorthsB:FnScope ["yards", "worths"] ["yards", "worths"] (aa bz):=⟨rfl,rfl,rfl,by decide +kernel,rfl,by decide +kernel,by decide +kernel⟩
theorem ok_worthsB {f fW:Addr}{fd fdW:FuncData}(F:Def K mg "are_worths" bz ["yards", "worths"] f fd)(FW:Def K mg "is_whole" bP ["value"] fW fdW)(B:Bi K mg):FnOk P w K mg base CX0 2 f fd ["yards", "worths"] eK:=by
 have GW:FnOk P w K mg base CX0 1 fW fdW ["value"] cr:=cy FW B;refine F.fn.ok scWorthsB (fun vs H Q E h=>?_) (fun cdv A outer s H vs Q E hr h=>?_)
 . obtain⟨y,a,ys,z,rfl,_⟩:=h;rfl
 . obtain⟨y,a,ys,z,rfl,hy,ha,hl,k⟩:=h;have nd:=scWorthsB.nd;refine⟨_,(ah (aB (bc (aU aV (ak (lenK K) (by rfl) B.len PySem.boot_len (a2 (pv 1) a4)) (ak (lenK K) (by rfl) B.len PySem.boot_len (a2 (pv 0) a4)) (av _)) (bA (ak (cO rfl) (by rfl) B.all PyProof.Rows.boot_all (a2 (bL (aa bz).names ["yards", "worths"] ["yards", "worths", "worth"] (bd K (pv 1)) (fun _ _ _ _=>bF) (fun _ _ _ _=>(bc (aj GW (hr.mono (by decide)) rfl FW.mg FW.fn.kp FW.bn .nil aE (a2 (pv 2) a4)) (bA (aU gr (pv 2) a3 (av _)))))) a4)))))),?_⟩
   refine⟨_,rfl,a,_,rfl,.inl (SqL.of ha),_,rfl,y,_,rfl,.inl (SqL.of hy),rfl,_,rfl,?_⟩;rw[ay,ao];refine iteD (fun e=>?_) (fun e=>?_)
   . refine⟨_,rfl,a,rfl,⟨_,SqL.of ha⟩,fun D hD=>?_⟩;refine eI (K:=K) (a:=a) (xs:=z) (el:=V.int) (fv:=fun x=>V.bl (decide (0≤x))) ha hD (by omega) (fun i x ex H4 Qv s4 kk=>?_) fun H2 hD2 s2=>?_
     . exact⟨_,rfl,x,rfl,_,rfl,iteT ⟨_,rfl,_,_,rfl,rfl,kk H4 (Same.refl _)⟩⟩
     . refine⟨D,z.map fun x=>decide (0≤x),rfl,SqL.of (by rw[List.map_map];exact hD2),k _ H2 s2 ?_⟩
       rw[List.all_map,List.all_eq_true];exact⟨fun q=>⟨by omega,fun x hx=>of_decide_eq_true (q x hx)⟩,fun q x hx=>decide_eq_true (q.2 x hx)⟩
   . exact k false H (Same.refl _) ⟨(fun q=>nomatch q),fun q=>absurd q.1 (by omega)⟩
def dR (n:Int)(z:List Int):Prop:=∃p r,z=[p,r]/\0≤p/\p < n/\0≤r
def fB:Sp:=fun vs H Q _=>∃(n:Int) (a:Addr) (z:List Int),vs=[.int n,.ref a]/\H a=some (.lst (zV z))/\∀b:Bool,(b=true<->dR n z)->Q (.bl b) H
theorem scHouseB:FnScope ["many", "row"] ["many", "row"] (aa cx):=⟨rfl,rfl,rfl,by decide +kernel,rfl,by decide +kernel,by decide +kernel⟩
theorem ok_houseB {f fW fP:Addr}{fd fdW fdP:FuncData}(F:Def K mg "is_house" cx ["many", "row"] f fd)(FW:Def K mg "is_whole" bP ["value"] fW fdW)(FP:Def K mg "is_place" d3 ["many", "value"] fP fdP)(B:Bi K mg):FnOk P w K mg base CX0 3 f fd ["many", "row"] fB:=by
 have GW:FnOk P w K mg base CX0 1 fW fdW ["value"] cr:=cy FW B;have GP:FnOk P w K mg base CX0 2 fP fdP ["many", "value"] fc:=g5 FP FW B;refine F.fn.ok scHouseB (fun vs H Q E h=>?_) (fun cdv A outer s H vs Q E hr h=>?_)
 . obtain⟨n,a,z,rfl,_⟩:=h;rfl
 . obtain⟨n,a,z,rfl,ha,k⟩:=h;have nd:=scHouseB.nd;refine⟨_,(ah (aB (bc (aU aV (ak (lenK K) (by rfl) B.len PySem.boot_len (a2 (pv 1) a4)) a3 (av _)) (bc (aj GP (hr.mono (by decide)) rfl FP.mg FP.fn.kp FP.bn .nil aE (a2 (pv 0) (aJ (aF (ixK K) (pv 1) a3 (fun _ _=>rfl)) a4))) (bc (aj GW (hr.mono (by decide)) rfl FW.mg FW.fn.kp FW.bn .nil aE (aJ (aF (ixK K) (pv 1) a3 (fun _ _=>rfl)) a4)) (bA (aU gr (aF (ixK K) (pv 1) a3 (fun _ _=>rfl)) a3 (av _)))))))),?_⟩
   refine⟨_,rfl,a,_,rfl,.inl (SqL.of ha),rfl,_,rfl,?_⟩;rw[ay,ao];refine iteD (fun e=>?_) (fun e=>?_)
   . obtain⟨p,r,rfl⟩:∃p r,z=[p,r]:=by
      match z,(show z.length=2 by omega)with
      | [p,r],_=>exact⟨p,r,rfl⟩
     refine⟨_,rfl,_,rfl,a,_,_,_,rfl,rfl,SqL.of ha,rfl,n,p,rfl,_,rfl,?_⟩;refine iteD (fun e1=>?_) (fun e1=>?_)
     . refine⟨_,rfl,a,_,_,_,rfl,rfl,SqL.of ha,rfl,r,rfl,_,rfl,iteT ?_⟩;refine⟨_,rfl,a,_,_,_,rfl,rfl,SqL.of ha,rfl,_,_,rfl,rfl,k _ ?_⟩;exact⟨fun q=>⟨p,r,rfl,e1.1,e1.2,of_decide_eq_true q⟩,fun⟨p',r',q,_,_,q3⟩=>by
        injection q with _ q4
        injection q4 with q5 _
        subst q5;exact decide_eq_true q3⟩
     . exact k _ ⟨(fun q=>nomatch q),fun⟨p',r',q,q1,q2,_⟩=>by
        injection q with q3 q4
        subst q3;exact absurd ⟨q1,q2⟩ e1⟩
   . exact k _ ⟨(fun q=>nomatch q),fun⟨p,r,q,_⟩=>by rw[q]at e;exact absurd rfl e⟩
theorem fq {z:List Int}:dU z=z.length<->z.Nodup:=by
 constructor
 . intro h;have e:z.Perm (PyProof.Rows.firstMet (fun i=>z.getD i 0) z.length):=gX (bT _ _) (fun x hx=>firstMet_memy.mp hx) h.symm;exact e.nodup_iff.mpr (bT _ _)
 . exact unlike_nodup
def ce (n:Int)(z:List Int):Prop:=(∀x∈z,0≤x/\x < n)/\z.Nodup
def eo:Sp:=fun vs H Q _=>∃(n:Int) (a:Addr) (z:List Int),vs=[.int n,.ref a]/\H a=some (.lst (zV z))/\z.length≤100/\∀(b:Bool) (H':Hp),Same H H'->(b=true<->ce n z)->Q (.bl b) H'
theorem scSitesB:FnScope ["many", "some"] ["many", "some"] (aa bJ):=⟨rfl,rfl,rfl,by decide +kernel,rfl,by decide +kernel,by decide +kernel⟩
theorem ok_sitesB {f fA fUN:Addr}{fd fdA fdUN:FuncData}(F:Def K mg "are_sites" bJ ["many", "some"] f fd)(FA:Def K mg "are_places" bi ["many", "some"] fA fdA)(FUN:Def K mg "are_unlike" bE ["some"] fUN fdUN)(GA:FnOk P w K mg base CX0 3 fA fdA ["many", "some"] dW)(B:Bi K mg):FnOk P w K mg base CX0 4 f fd ["many", "some"] eo:=by
 have GUN:FnOk P w K mg base CX0 1 fUN fdUN ["some"] iA:=je FUN B;refine F.fn.ok scSitesB (fun vs H Q E h=>?_) (fun cdv A outer s H vs Q E hr h=>?_)
 . obtain⟨n,a,z,rfl,_⟩:=h;rfl
 . obtain⟨n,a,z,rfl,ha,hl,k⟩:=h;have nd:=scSitesB.nd;refine⟨_,(ah (aB (bc (aj GA (hr.mono (by decide)) rfl FA.mg FA.fn.kp FA.bn .nil aE (a2 (pv 0) (a2 (pv 1) a4))) (bA (aj GUN (hr.mono (by decide)) rfl FUN.mg FUN.fn.kp FUN.bn .nil aE (a2 (pv 1) a4)))))),?_⟩
   refine⟨_,rfl,_,rfl,n,a,z,rfl,ha,hl,fun H1 s1=>⟨_,rfl,?_⟩⟩;refine iteB (fun e=>?_) (fun e=>?_)
   . refine⟨_,rfl,a,z,rfl,s1 _ _ ha,hl,fun b hb=>k b H1 s1 ?_⟩;rw[hb,fq];exact⟨fun q=>⟨plcs_iff.mp e,q⟩,fun q=>q.2⟩
   . exact k _ H1 s1 ⟨(fun q=>nomatch q),fun q=>by rw[plcs_iff.mpr q.1]at e;cases e⟩
end
end Tw
namespace Tw
open PySem L2
def mJ (s:Stmt)(j:Nat):Stmt:=match s with
 | .ClassDef _ _ _ x _ _ _ _ _ _ _=>x.getD j (.Pass ⟨0,0,0,0⟩)
 | _=>.Pass ⟨0,0,0,0⟩
abbrev hE:Stmt:=mJ (top 57) 1
abbrev gl:Stmt:=mJ (top 58) 1
abbrev gL:Stmt:=mJ (top 62) 1
abbrev iI:Stmt:=mJ (top 63) 1
abbrev iJ:Stmt:=mJ (top 64) 1
abbrev bf:Stmt:=mJ (top 86) 0
abbrev iG:Stmt:=mJ (top 87) 1
abbrev gk:Stmt:=mJ (top 89) 1
abbrev h7:Stmt:=mJ (top 90) 1
abbrev iF:Stmt:=mJ (top 92) 1
abbrev h9:Stmt:=mJ (top 93) 1
abbrev iH:Stmt:=mJ (top 94) 1
section
variable {P:Program}{w:World}{K:PySem.W.Frag}{mg:Str->Option Value}{base:Heap}
def FitQ (i n:Nat)(rs:List Road)(zss:List (List Int)):Prop:=
 if i=0∨i=8∨i=9 then zss=[]else
 if i=1 then ∃z,zss=[z]/\ic n z else
 if i=2 then ∃z zs,zss=z::zs/\ce n z/\∀y∈zs,dR n y else
 if i=3 then ∃k z y,zss=[[k],z,y]/\1≤k/\z≠[]/\ce n z/\∀x∈y,0≤x/\x < (n:Int)else
 if i=4∨i=5 then ∀y∈zss,c3 n rs y=true else
 if i=6 then ∃z zs,zss=z::zs/\dE zs.length z/\∀y∈zs,c3 n rs y=true else
 if i=7 then ∃z,zss=[z]/\ig n z else
 ∃z,zss=[z]/\∀x∈z,0≤x/\x < (n:Int)
def dN (i:Nat):Sp:=fun vs H Q _=>∃(v:V) (n:Nat) (R A:Addr) (as bs:List Addr) (rs:List Road) (zss:List (List Int)),vs=[v,.int n,.ref R,.ref A]/\RowsAt H R as (rs.map rowI)/\Tree n rs/\RowsAt H A bs zss/\zss.length≤100/\(∀z∈zss,z.length≤100) ∧
 ∀(b:Bool) (H':Hp),Same H H'->(b=true<->FitQ i n rs zss)->Q (.bl b) H'
abbrev dS (st:Stmt):Prop:=FnScope ["self", "many", "roads", "asked"] ["self", "many", "roads", "asked"] (aa st)
theorem scFM:dS hE:=⟨rfl,rfl,rfl,by decide +kernel,rfl,by decide +kernel,by decide +kernel⟩
theorem fit0 {f:Addr}{fd:FuncData}(F:Fun K "fits" "Middle.fits" hE f fd)(B:Bi K mg):FnOk P w K mg base CX0 5 f fd ["self", "many", "roads", "asked"] (dN 0):=by
 refine F.ok scFM (fun vs H Q E h=>?_) (fun cdv A outer s H vs Q E hr h=>?_)
 . obtain⟨v,n,R,A,as,bs,rs,zss,rfl,_⟩:=h;rfl
 . obtain⟨v,n,R,A,as,bs,rs,zss,rfl,hR,t,hA,hl,hz,k⟩:=h;have nd:=scFM.nd;refine⟨_,(ah (aB (aU aV (ak (lenK K) (by rfl) B.len PySem.boot_len (a2 (pv 3) a4)) a3 (av _)))),?_⟩
   refine⟨_,rfl,A,_,rfl,.inl (SqL.of hA.top),rfl,k _ H (Same.refl _) ?_⟩;rw[ay,List.length_map,hA.len,decide_eq_true_iff];show _<->zss=[];exact⟨fun e=>List.eq_nil_of_length_eq_zero (by omega),fun e=>by rw[e];rfl⟩
theorem scFWk:dS iF:=⟨rfl,rfl,rfl,by decide +kernel,rfl,by decide +kernel,by decide +kernel⟩
theorem fit8 {f:Addr}{fd:FuncData}(F:Fun K "fits" "Walks.fits" iF f fd)(B:Bi K mg):FnOk P w K mg base CX0 5 f fd ["self", "many", "roads", "asked"] (dN 8):=by
 refine F.ok scFWk (fun vs H Q E h=>?_) (fun cdv A outer s H vs Q E hr h=>?_)
 . obtain⟨v,n,R,A,as,bs,rs,zss,rfl,_⟩:=h;rfl
 . obtain⟨v,n,R,A,as,bs,rs,zss,rfl,hR,t,hA,hl,hz,k⟩:=h;have nd:=scFWk.nd;refine⟨_,(ah (aB (aU aV (ak (lenK K) (by rfl) B.len PySem.boot_len (a2 (pv 3) a4)) a3 (av _)))),?_⟩
   refine⟨_,rfl,A,_,rfl,.inl (SqL.of hA.top),rfl,k _ H (Same.refl _) ?_⟩;rw[ay,List.length_map,hA.len,decide_eq_true_iff];show _<->zss=[];exact⟨fun e=>List.eq_nil_of_length_eq_zero (by omega),fun e=>by rw[e];rfl⟩
theorem scFSw:dS h9:=⟨rfl,rfl,rfl,by decide +kernel,rfl,by decide +kernel,by decide +kernel⟩
theorem fit9 {f:Addr}{fd:FuncData}(F:Fun K "fits" "Sweeps.fits" h9 f fd)(B:Bi K mg):FnOk P w K mg base CX0 5 f fd ["self", "many", "roads", "asked"] (dN 9):=by
 refine F.ok scFSw (fun vs H Q E h=>?_) (fun cdv A outer s H vs Q E hr h=>?_)
 . obtain⟨v,n,R,A,as,bs,rs,zss,rfl,_⟩:=h;rfl
 . obtain⟨v,n,R,A,as,bs,rs,zss,rfl,hR,t,hA,hl,hz,k⟩:=h;have nd:=scFSw.nd;refine⟨_,(ah (aB (aU aV (ak (lenK K) (by rfl) B.len PySem.boot_len (a2 (pv 3) a4)) a3 (av _)))),?_⟩
   refine⟨_,rfl,A,_,rfl,.inl (SqL.of hA.top),rfl,k _ H (Same.refl _) ?_⟩;rw[ay,List.length_map,hA.len,decide_eq_true_iff];show _<->zss=[];exact⟨fun e=>List.eq_nil_of_length_eq_zero (by omega),fun e=>by rw[e];rfl⟩
theorem scFBalance:dS gl:=⟨rfl,rfl,rfl,by decide +kernel,rfl,by decide +kernel,by decide +kernel⟩
theorem fit1 {f fAW:Addr}{fd fdAW:FuncData}(F:Fun K "fits" "Balance.fits" gl f fd)(FAW:Def K mg "are_wants" bI ["many", "wants"] fAW fdAW)(GAW:FnOk P w K mg base CX0 2 fAW fdAW ["many", "wants"] fu)(B:Bi K mg):FnOk P w K mg base CX0 8 f fd ["self", "many", "roads", "asked"] (dN 1):=by
 refine F.ok scFBalance (fun vs H Q E h=>?_) (fun cdv A outer s H vs Q E hr h=>?_)
 . obtain⟨v,n,R,A,as,bs,rs,zss,rfl,_⟩:=h;rfl
 . obtain⟨v,n,R,A,as,bs,rs,zss,rfl,hR,t,hA,hl,hz,k⟩:=h;have nd:=scFBalance.nd;have bl:=hA.len;refine⟨_,(ah (aB (bc (aU aV (ak (lenK K) (by rfl) B.len PySem.boot_len (a2 (pv 3) a4)) a3 (av _)) (bA (aj GAW (hr.mono (by decide)) rfl FAW.mg FAW.fn.kp FAW.bn .nil aE (a2 (pv 1) (aJ (aF (ixK K) (pv 3) a3 (fun _ _=>rfl)) a4))))))),?_⟩
   refine⟨_,rfl,A,_,rfl,.inl (SqL.of hA.top),rfl,_,rfl,?_⟩;rw[ay,List.length_map,bl];refine iteD (fun e=>?_) (fun e=>?_)
   . obtain⟨z,rfl⟩:∃z,zss=[z]:=by
      match zss,(show zss.length=1 by omega)with
      | [z],_=>exact⟨z,rfl⟩
     obtain⟨p,rfl⟩:∃p,bs=[p]:=by
      match bs,(show bs.length=1 from bl)with
      | [p],_=>exact⟨p,rfl⟩
     have hp:H p=some (.lst (zV z)):=hA.row 0 p z rfl rfl;refine⟨_,rfl,_,rfl,A,_,_,_,rfl,rfl,SqL.of hA.top,rfl,(n:Int),p,z,rfl,hp,hz z (by simp),fun b H' s hb=>k b H' s ?_⟩
     rw[hb];show _<->∃y,[z]=[y]/\ic n y;exact⟨fun q=>⟨z,rfl,q⟩,fun⟨y,q,q2⟩=>by injection q with q;subst q;exact q2⟩
   . refine k false H (Same.refl _) ⟨(fun q=>nomatch q),fun q=>?_⟩;obtain⟨z,q,_⟩:∃y,zss=[y]/\ic n y:=q;rw[q]at e;exact absurd rfl e
theorem scFGoods:dS iJ:=⟨rfl,rfl,rfl,by decide +kernel,rfl,by decide +kernel,by decide +kernel⟩
theorem fit7 {f fAG:Addr}{fd fdAG:FuncData}(F:Fun K "fits" "Goods.fits" iJ f fd)(FAG:Def K mg "are_gives" bK ["many", "gives"] fAG fdAG)(GAG:FnOk P w K mg base CX0 2 fAG fdAG ["many", "gives"] fE)(B:Bi K mg):FnOk P w K mg base CX0 8 f fd ["self", "many", "roads", "asked"] (dN 7):=by
 refine F.ok scFGoods (fun vs H Q E h=>?_) (fun cdv A outer s H vs Q E hr h=>?_)
 . obtain⟨v,n,R,A,as,bs,rs,zss,rfl,_⟩:=h;rfl
 . obtain⟨v,n,R,A,as,bs,rs,zss,rfl,hR,t,hA,hl,hz,k⟩:=h;have nd:=scFGoods.nd;have bl:=hA.len;refine⟨_,(ah (aB (bc (aU aV (ak (lenK K) (by rfl) B.len PySem.boot_len (a2 (pv 3) a4)) a3 (av _)) (bA (aj GAG (hr.mono (by decide)) rfl FAG.mg FAG.fn.kp FAG.bn .nil aE (a2 (pv 1) (aJ (aF (ixK K) (pv 3) a3 (fun _ _=>rfl)) a4))))))),?_⟩
   refine⟨_,rfl,A,_,rfl,.inl (SqL.of hA.top),rfl,_,rfl,?_⟩;rw[ay,List.length_map,bl];refine iteD (fun e=>?_) (fun e=>?_)
   . obtain⟨z,rfl⟩:∃z,zss=[z]:=by
      match zss,(show zss.length=1 by omega)with
      | [z],_=>exact⟨z,rfl⟩
     obtain⟨p,rfl⟩:∃p,bs=[p]:=by
      match bs,(show bs.length=1 from bl)with
      | [p],_=>exact⟨p,rfl⟩
     have hp:H p=some (.lst (zV z)):=hA.row 0 p z rfl rfl;refine⟨_,rfl,_,rfl,A,_,_,_,rfl,rfl,SqL.of hA.top,rfl,(n:Int),p,z,rfl,hp,hz z (by simp),fun b H' s hb=>k b H' s ?_⟩
     rw[hb];show _<->∃y,[z]=[y]/\ig n y;exact⟨fun q=>⟨z,rfl,q⟩,fun⟨y,q,q2⟩=>by injection q with q;subst q;exact q2⟩
   . refine k false H (Same.refl _) ⟨(fun q=>nomatch q),fun q=>?_⟩;obtain⟨z,q,_⟩:∃y,zss=[y]/\ig n y:=q;rw[q]at e;exact absurd rfl e
theorem scFRound:dS iH:=⟨rfl,rfl,rfl,by decide +kernel,rfl,by decide +kernel,by decide +kernel⟩
theorem fit10 {f fAP:Addr}{fd fdAP:FuncData}(F:Fun K "fits" "Round.fits" iH f fd)(FAP:Def K mg "are_places" bi ["many", "some"] fAP fdAP)(GAP:FnOk P w K mg base CX0 3 fAP fdAP ["many", "some"] dW)(B:Bi K mg):FnOk P w K mg base CX0 8 f fd ["self", "many", "roads", "asked"] (dN 10):=by
 refine F.ok scFRound (fun vs H Q E h=>?_) (fun cdv A outer s H vs Q E hr h=>?_)
 . obtain⟨v,n,R,A,as,bs,rs,zss,rfl,_⟩:=h;rfl
 . obtain⟨v,n,R,A,as,bs,rs,zss,rfl,hR,t,hA,hl,hz,k⟩:=h;have nd:=scFRound.nd;have bl:=hA.len;refine⟨_,(ah (aB (bc (aU aV (ak (lenK K) (by rfl) B.len PySem.boot_len (a2 (pv 3) a4)) a3 (av _)) (bA (aj GAP (hr.mono (by decide)) rfl FAP.mg FAP.fn.kp FAP.bn .nil aE (a2 (pv 1) (aJ (aF (ixK K) (pv 3) a3 (fun _ _=>rfl)) a4))))))),?_⟩
   refine⟨_,rfl,A,_,rfl,.inl (SqL.of hA.top),rfl,_,rfl,?_⟩;rw[ay,List.length_map,bl];refine iteD (fun e=>?_) (fun e=>?_)
   . obtain⟨z,rfl⟩:∃z,zss=[z]:=by
      match zss,(show zss.length=1 by omega)with
      | [z],_=>exact⟨z,rfl⟩
     obtain⟨p,rfl⟩:∃p,bs=[p]:=by
      match bs,(show bs.length=1 from bl)with
      | [p],_=>exact⟨p,rfl⟩
     have hp:H p=some (.lst (zV z)):=hA.row 0 p z rfl rfl;refine⟨_,rfl,_,rfl,A,_,_,_,rfl,rfl,SqL.of hA.top,rfl,(n:Int),p,z,rfl,hp,hz z (by simp),fun H' s=>k _ H' s ?_⟩
     rw[plcs_iff];show _<->∃y,[z]=[y]/\∀x∈y,0≤x/\x < (n:Int);exact⟨fun q=>⟨z,rfl,q⟩,fun⟨y,q,q2⟩=>by injection q with q;subst q;exact q2⟩
   . refine k false H (Same.refl _) ⟨(fun q=>nomatch q),fun q=>?_⟩;obtain⟨z,q,_⟩:∃y,zss=[y]/\∀x∈y,0≤x/\x < (n:Int):=q;rw[q]at e;exact absurd rfl e
end
end Tw
namespace Tw
open PySem L2
section
variable {P:Program}{w:World}{K:PySem.W.Frag}{mg:Str->Option Value}{base:Heap}
theorem gf {a D:Addr}{as:List Addr}{zss:List (List Int)}{fv:List Int->V}{te:TE}{σ:St}{H:Hp}{Q:Hp->Prop}(hR:RowsAt H a as zss)(hD:H D=none)(hl:zss.length≤1000)(hs:∀z p,z∈zss->∀(H4:Hp) (Qv:VK),H4 p=some (.lst (zV z))->Same H H4->(∀H5,Same H4 H5->Qv (fv z) H5)->te (σ++[some (.ref p)]) H4 Qv)(hq:∀H2,H2 D=some (.lst (zss.map fv))->Same H H2->Q H2):∃W:Nat->Nat->List V->Hp->Prop,(∃m,W 0 m [] (upd H D (.lst [])))/\∀i m ys H2,W i m ys H2->H2 D=some (.lst ys)/\(((Itl K a).stop i H2/\Q H2)∨((Itl K a).go i H2/\∃N:List V->Hp->Prop,(∀ys' H',N ys' H'->∃m',m' < m/\W (i+1) m' ys' H')/\∀y H3,(Itl K a).yld i H2 y H3->tYes (σ++[some y]) H3 fun c H4=>if c=true then te (σ++[some y]) H4 fun z H5=>H5 D=some (.lst ys)/\ys.length < sizeLine/\N (ys++[z]) (upd H5 D (.lst (ys++[z])))else N ys H4)):=by
 have al:=hR.len;refine eI (K:=K) (xs:=as.zip zss) (el:=fun u=>V.ref u.1) (fv:=fun u=>fv u.2) ?_ hD (by rw[List.length_zip];omega) (fun i x hx H4 Qv s4 kk=>?_) fun H2 hD2 s2=>hq H2 ?_ s2
 . rw[hR.top]
   congr 2
   have e:((as.zip zss).map (·.1)).map V.ref=as.map V.ref:=by rw[List.map_fst_zip (by omega)]
   rw[←e,List.map_map];rfl
 . rw[List.getElem?_zip_eq_some]at hx;exact hs x.2 x.1 (List.mem_of_getElem? hx.2) H4 Qv (s4 _ _ (hR.row i x.1 x.2 hx.1 hx.2)) s4 kk
 . rw[hD2]
   congr 2
   have e:((as.zip zss).map (·.2)).map fv=zss.map fv:=by rw[List.map_snd_zip (by omega)]
   rw[←e,List.map_map];rfl
theorem df {H:Hp}{a p:Addr}{as:List Addr}{zss:List (List Int)}(hR:RowsAt H a as zss)(hp:H p=none):RowsAt (upd H p (.lst (cutV (as.map V.ref) (some 1) none))) p (as.drop 1) (zss.drop 1):=by
 have s:=ac (o:=.lst (cutV (as.map V.ref) (some 1) none)) hp;have e:cutV (as.map V.ref) (some 1) none=(as.drop 1).map V.ref:=by
  unfold cutV;cases as with
  | nil=>rfl
  | cons x xs =>
   have e1:HT.sIx ((x::xs).map V.ref).length 0 (some 1)=1:=by
    rw[List.length_map,List.length_cons];unfold HT.sIx;simp
   have e2:HT.sIx ((x::xs).map V.ref).length ((x::xs).map V.ref).length none=xs.length+1:=by
    rw[List.length_map,List.length_cons];rfl
   rw[e1,e2];show List.take (xs.length+1 - 1) (xs.map V.ref)=xs.map V.ref;exact List.take_of_length_le (by rw[List.length_map];omega)
 refine⟨?_,?_,?_⟩
 . rw[a9,e]
 . rw[List.length_drop,List.length_drop,hR.len]
 . intro i q z hq hz;rw[List.getElem?_drop]at hq hz;exact s _ _ (hR.row _ q z hq hz)
theorem fb {zss:List (List Int)}{g:List Int->Bool}{S:List Int->Prop}(h:∀z,g z=true<->S z):(zss.map g).all id=true<->∀z∈zss,S z:=by
 rw[List.all_map];rw[List.all_eq_true];exact⟨fun q z hz=>(h z).mp (q z hz),fun q z hz=>(h z).mpr (q z hz)⟩
noncomputable def houseB (n:Int) (z:List Int):Bool:=@decide (dR n z) (Classical.propDecidable _)
theorem houseB_iff {n:Int}{z:List Int}:houseB n z=true<->dR n z:=by unfold houseB;exact @decide_eq_true_iff _ (Classical.propDecidable _)
theorem scFWells:FnScope ["self", "many", "roads", "asked"] ["self", "many", "roads", "asked"] (aa gL):=⟨rfl,rfl,rfl,by decide +kernel,rfl,by decide +kernel,by decide +kernel⟩
theorem fit2 {f fAS fIH:Addr}{fd fdAS fdIH:FuncData}(F:Fun K "fits" "Wells.fits" gL f fd)(FAS:Def K mg "are_sites" bJ ["many", "some"] fAS fdAS)(GAS:FnOk P w K mg base CX0 4 fAS fdAS ["many", "some"] eo)(FIH:Def K mg "is_house" cx ["many", "row"] fIH fdIH)(GIH:FnOk P w K mg base CX0 3 fIH fdIH ["many", "row"] fB)(B:Bi K mg):FnOk P w K mg base CX0 8 f fd ["self", "many", "roads", "asked"] (dN 2):=by
 refine F.ok scFWells (fun vs H Q E h=>?_) (fun cdv A outer s H vs Q E hr h=>?_)
 . obtain⟨v,n,R,A,as,bs,rs,zss,rfl,_⟩:=h;rfl
 . obtain⟨v,n,R,A,as,bs,rs,zss,rfl,hR,t,hA,hl,hz,k⟩:=h;have nd:=scFWells.nd;have bl:=hA.len;refine⟨_,(ad (b6 (PW.pt (bN (ax aV (ak (lenK K) (by rfl) B.len PySem.boot_len (a2 (pv 3) a4)) a3 (av _)) (ci (cG (cz (aj GAS (hr.mono (by decide)) rfl FAS.mg FAS.fn.kp FAS.bn .nil aE (a2 (pv 1) (aJ (aF (ixK K) (pv 3) a3 (fun _ _=>rfl)) a4)))))))) (ah (aB bO)) aG)
    (ah (aB (ak (cO rfl) (by rfl) B.all PyProof.Rows.boot_all (a2 (bL (aa gL).names ["self", "many", "roads", "asked"] ["self", "many", "roads", "asked", "row"] (bd K (be (slK K) (pv 3) (bu a3) bv)) (fun _ _ _ _=>bF) (fun _ _ _ _=>(aj GIH (hr.mono (by decide)) rfl FIH.mg FIH.fn.kp FIH.bn .nil aE (a2 (pv 1) (a2 (pv 4) a4))))) a4))))),?_⟩
   refine⟨_,rfl,A,_,rfl,.inl (SqL.of hA.top),rfl,_,rfl,?_⟩;rw[ay,List.length_map,bl];refine iteD (fun e=>?_) (fun e=>?_)
   . refine iteT (k false H (Same.refl _) ⟨(fun q=>nomatch q),fun q=>?_⟩);obtain⟨z,zs,q,_⟩:∃z zs,zss=z::zs/\ce n z/\∀y∈zs,dR n y:=q;rw[q]at e;exact absurd e (by simp;omega)
   . obtain⟨z,zs,rfl⟩:∃z zs,zss=z::zs:=by
      cases zss with
      | nil=>exact absurd rfl e
      | cons z zs=>exact⟨z,zs,rfl⟩
     obtain⟨p,ps,rfl⟩:∃p ps,bs=p::ps:=by
      cases bs with
      | nil=>simp at bl
      | cons p ps=>exact⟨p,ps,rfl⟩
     have hp:H p=some (.lst (zV z)):=hA.row 0 p z rfl rfl;have fi:FitQ 2 n rs (z::zs)<->ce n z/\∀y∈zs,dR n y:=by
      show(∃z' zs',z::zs=z'::zs'/\ce n z'/\∀y∈zs',dR n y)<->_;exact⟨fun⟨z',zs',q,h⟩=>by injection q with q1 q2;subst q1;subst q2;exact h,fun h=>⟨z,zs,rfl,h⟩⟩
     rw[fi]at k;refine⟨_,rfl,_,rfl,A,_,_,_,rfl,rfl,SqL.of hA.top,cw (j:=0) rfl,(n:Int),p,z,rfl,hp,hz z (by simp),fun b H1 s1 hb=>⟨b,rfl,?_⟩⟩
     cases b with
     | false=>exact iteT (k false H1 s1 ⟨(fun q=>nomatch q),fun q=>absurd (hb.mpr q.1) (by decide)⟩)
     | true =>
      have hA1:=hA.mono s1;refine iteF ⟨_,rfl,_,rfl,A,_,rfl,SqL.of hA1.top,fun T hT=>⟨T,rfl,⟨_,SqL.of a9⟩,fun D hD=>?_⟩⟩;have hT2:=df hA1 hT;have s2:=ac (o:=.lst (cutV ((p::ps).map V.ref) (some 1) none)) hT;refine gf (K:=K) (fv:=fun z=>V.bl (houseB n z)) hT2 hD (by simp at hl⊢;omega) (fun y q hy H4 Qv hq s4 kk=>⟨_,rfl,_,rfl,n,q,y,rfl,hq,fun b hb2=>?_⟩) fun HC hDC sC=>?_
      . have e2:b=houseB n y:=Bool.eq_iff_iff.mpr (hb2.trans houseB_iff.symm);rw[e2];exact kk H4 (Same.refl _)
      . refine⟨D,zs.map (houseB n),rfl,SqL.of (by rw[hDC,List.map_map];rfl),k _ HC (s1.trans (s2.trans sC)) ?_⟩
        rw[fb (fun _=>houseB_iff)];exact⟨fun q=>⟨hb.mp rfl,q⟩,fun q=>q.2⟩
theorem scFReach:dS iI:=⟨rfl,rfl,rfl,by decide +kernel,rfl,by decide +kernel,by decide +kernel⟩
theorem fit3 {f fAS fAP fW:Addr}{fd fdAS fdAP fdW:FuncData}(F:Fun K "fits" "Reach.fits" iI f fd)(FAS:Def K mg "are_sites" bJ ["many", "some"] fAS fdAS)(GAS:FnOk P w K mg base CX0 4 fAS fdAS ["many", "some"] eo)(FAP:Def K mg "are_places" bi ["many", "some"] fAP fdAP)(GAP:FnOk P w K mg base CX0 3 fAP fdAP ["many", "some"] dW)(FW:Def K mg "is_whole" bP ["value"] fW fdW)(GW:FnOk P w K mg base CX0 1 fW fdW ["value"] cr)(B:Bi K mg):FnOk P w K mg base CX0 8 f fd ["self", "many", "roads", "asked"] (dN 3):=by
 refine F.ok scFReach (fun vs H Q E h=>?_) (fun cdv A outer s H vs Q E hr h=>?_)
 . obtain⟨v,n,R,A,as,bs,rs,zss,rfl,_⟩:=h;rfl
 . obtain⟨v,n,R,A,as,bs,rs,zss,rfl,hR,t,hA,hl,hz,k⟩:=h;have nd:=scFReach.nd;have bl:=hA.len;refine⟨_,(ad (b6 (PW.pt (bN (ax dy (ak (lenK K) (by rfl) B.len PySem.boot_len (a2 (pv 3) a4)) a3 (av _)) (bN (ax dy (ak (lenK K) (by rfl) B.len PySem.boot_len (aJ (aF (ixK K) (pv 3) a3 (fun _ _=>rfl)) a4)) a3 (av _)) (bN (cG (cz (aj GW (hr.mono (by decide)) rfl FW.mg FW.fn.kp FW.bn .nil aE (aJ (aF (ixK K) (aF (ixK K) (pv 3) a3 (fun _ _=>rfl)) a3 (fun _ _=>rfl)) a4)))) (ci (ax dP (aF (ixK K) (aF (ixK K) (pv 3) a3 (fun _ _=>rfl)) a3 (fun _ _=>rfl)) a3 (av _))))))) (ah (aB bO)) aG)
    (ah (aB (bc (aU gp (ak (lenK K) (by rfl) B.len PySem.boot_len (aJ (aF (ixK K) (pv 3) a3 (fun _ _=>rfl)) a4)) a3 (av _)) (bc (aj GAS (hr.mono (by decide)) rfl FAS.mg FAS.fn.kp FAS.bn .nil aE (a2 (pv 1) (aJ (aF (ixK K) (pv 3) a3 (fun _ _=>rfl)) a4))) (bA (aj GAP (hr.mono (by decide)) rfl FAP.mg FAP.fn.kp FAP.bn .nil aE (a2 (pv 1) (aJ (aF (ixK K) (pv 3) a3 (fun _ _=>rfl)) a4))))))))),?_⟩
   refine⟨_,rfl,A,_,rfl,.inl (SqL.of hA.top),rfl,_,rfl,?_⟩;rw[ay,List.length_map,bl];have f3:FitQ 3 n rs zss<->∃x z y,zss=[[x],z,y]/\1≤x/\z≠[]/\ce n z/\∀x∈y,0≤x/\x < (n:Int):=Iff.rfl;rw[f3]at k;refine iteB (fun e=>?_) (fun e=>?_)
   . refine iteT (k false H (Same.refl _) ⟨(fun q=>nomatch q),fun⟨x,z,y,q,_⟩=>?_⟩);rw[q]at e;exact nomatch (show false=true from e)
   . obtain⟨u,z,y,rfl⟩:∃u z y,zss=[u,z,y]:=by
      have e1:zss.length=3:=by
       have:(zss.length:Int)=3:=by simpa using e
       omega
      match zss,e1 with
      | [u,z,y],_=>exact⟨u,z,y,rfl⟩
     obtain⟨p,q,r,rfl⟩:∃p q r,bs=[p,q,r]:=by
      match bs,(show bs.length=3 from bl)with
      | [p,q,r],_=>exact⟨p,q,r,rfl⟩
     have hp:H p=some (.lst (zV u)):=hA.row 0 p u rfl rfl;have hq:H q=some (.lst (zV z)):=hA.row 1 q z rfl rfl;have hr':H r=some (.lst (zV y)):=hA.row 2 r y rfl rfl;refine⟨_,rfl,A,_,_,_,rfl,rfl,SqL.of hA.top,rfl,p,_,rfl,.inl (SqL.of hp),rfl,_,rfl,?_⟩;rw[ay,ao];refine iteB (fun e1=>?_) (fun e1=>?_)
     . refine iteT (k false H (Same.refl _) ⟨(fun q=>nomatch q),fun⟨x,z',y',q,_⟩=>?_⟩);injection q with q _
       rw[q]at e1;exact nomatch (show false=true from e1)
     . obtain⟨x,rfl⟩:∃x,u=[x]:=by
        have e2:u.length=1:=by
         have:(u.length:Int)=1:=by simpa using e1
         omega
        match u,e2 with
        | [x],_=>exact⟨x,rfl⟩
       have fi:(∃x' z' y',[[x],z,y]=[[x'],z',y']/\1≤x'/\z'≠[]/\ce n z'/\∀x∈y',0≤x/\x < (n:Int))<->1≤x/\z≠[]/\ce n z/\∀x∈y,0≤x/\x < (n:Int):=by
        refine⟨fun⟨x',z',y',q,h⟩=>?_,fun h=>⟨x,z,y,rfl,h⟩⟩;injection q with q1 q
        injection q with q2 q
        injection q with q3 _
        injection q1 with q1 _
        subst q1;subst q2;subst q3;exact h
       clear f3;rw[fi]at k;refine⟨_,rfl,A,_,_,_,rfl,rfl,SqL.of hA.top,rfl,p,_,_,_,rfl,rfl,SqL.of hp,rfl,x,rfl,true,rfl,iteF ?_⟩;refine⟨_,rfl,A,_,_,_,rfl,rfl,SqL.of hA.top,rfl,p,_,_,_,rfl,rfl,SqL.of hp,rfl,_,_,rfl,rfl,_,rfl,?_⟩;refine iteD (fun e2=>?_) (fun e2=>?_)
       . exact k false H (Same.refl _) ⟨(fun q=>nomatch q),fun q=>absurd q.1 (by omega)⟩
       . refine⟨_,rfl,A,_,_,_,rfl,rfl,SqL.of hA.top,rfl,q,_,rfl,.inl (SqL.of hq),_,_,rfl,rfl,_,rfl,?_⟩;rw[ao];refine iteD (fun e3=>?_) (fun e3=>?_)
         . refine⟨_,rfl,_,rfl,A,_,_,_,rfl,rfl,SqL.of hA.top,rfl,n,q,z,rfl,hq,hz z (by simp),fun b H1 s1 hb=>⟨b,rfl,?_⟩⟩
           have hA1:=hA.mono s1;refine iteB (fun e4=>?_) (fun e4=>?_)
           . refine⟨_,rfl,_,rfl,A,_,_,_,rfl,rfl,SqL.of hA1.top,rfl,n,r,y,rfl,s1 _ _ hr',hz y (by simp),fun H2 s2=>k _ H2 (s1.trans s2) ?_⟩
             rw[plcs_iff];exact⟨fun w=>⟨by omega,(fun w=>by rw[w]at e3;exact absurd e3 (by decide)),hb.mp e4,w⟩,fun w=>w.2.2.2⟩
           . exact k false H1 s1 ⟨(fun q=>nomatch q),fun w=>by rw[hb.mpr w.2.2.1]at e4;cases e4⟩
         . exact k false H (Same.refl _) ⟨(fun q=>nomatch q),fun w=>absurd (show(0:Int) < z.length by
            have:0 < z.length:=List.length_pos_iff.mpr w.2.1;omega) e3⟩
end
end Tw
namespace L2
open PySem PySem.Spec PyProof.Rows
section
variable {X:Cx}
def tMethA (n:Nat)(C:Nat->Addr)(m:Str)(sp:Nat->Sp)(E:XK)(ta:TE)(t:TA):TE:=fun σ H Q=>ta σ H fun x H1=>∃i a dx fs,i < n/\x = .ref a/\H1 a=some (.ins (C i) dx fs)/\fs.lookup m=none/\t σ H1 fun vs H2=>sp i (x::vs) H2 Q E
theorem pe_methA {n k:Nat}{Cs:Nat->Addr}{m:Str}{f:Nat->Addr}{fd:Nat->FuncData}{ps:List Str}{sp:Nat->Sp}{E:XK}{o e:Expr}{es:List Expr}{ta:TE}{t:TA}{apos pos:Pos}{CX:CXT}{pl:Sem Bool}(he:PE X o ta)(hs:∀i,i < n->Cls X.K (Cs i)/\Meth X.K (Cs i) m (f i)/\FnOk X.prog X.w X.K X.mg X.base CX k (f i) (fd i) ps (sp i)/\Binds X.K (fd i) ps [])(hr:Room k X.A)(hx:eZ CX X E)(ha:PA X (e::es) t)(hst:starEach (e::es) X.env=(false,eval e X.env)::starEach es X.env:=by rfl)(hpl:(backTo pos (starEach es X.env)).any (·.1)=false:=by rfl)
 (ht:eval (.Call (.Attribute o m apos) (e::es) [] pos) X.env=(do
   let ov ←eval o X.env
   standAt apos.atName
   let (f,first) ←holding [ov] (getMethod ov m pl)
   callWith pos f first (backTo pos (starEach (e::es) X.env)) (backToKw pos (keywordEach [] X.env))):=by rfl) :
 PE X (.Call (.Attribute o m apos) (e::es) [] pos) (tMethA n Cs m sp E ta t):=by
 intro pins s σ H Q I h;refine PySem.W.methodCall_KW (pl:=pl) (thn (he pins s σ H _ I h) fun u s1 ⟨x,H1,I1,rx,i,a,dx,fs,hi,ex,ea,l,q⟩=>?_) ht;subst ex;obtain rfl:u=Value.ref a:=rx;obtain⟨c,hm,F,hb⟩:=hs i hi;refine g7 I1 ea c hm l ?_;refine PySem.W.callWith_K (first:=[.ref a]) (h₀:=X.base) I.ok.mod.kin hm.kp (thn (ha pos pins s1 σ H1 _ I1 q) fun us s2 ⟨vs,H2,I2,r,q2⟩=>⟨I2.kIn,?_⟩) hst hpl;exact gM (us:=.ref a::us) (vs:=.ref a::vs) F hr hb .nil hx I2 (.cons rfl r) (by rw[List.append_nil];exact q2)
end
end L2
namespace Tw
open PySem L2
section
variable {P:Program}{w:World}{K:PySem.W.Frag}{mg:Str->Option Value}{base:Heap}
def gY:Sp:=fun vs H Q _=>∃(v:V) (n:Nat) (R A:Addr) (as bs:List Addr) (rs:List Road) (zss:List (List Int)),vs=[v,.int n,.ref R,.ref A]/\RowsAt H R as (rs.map rowI)/\Tree n rs/\RowsAt H A bs zss/\zss.length≤100/\(∀z∈zss,z.length≤100) ∧
 ∀(b:Bool) (H':Hp),Same H H'->(b=true<->∀y∈zss,c3 n rs y=true)->Q (.bl b) H'
theorem scYds:FnScope ["self", "many", "roads", "rows"] ["self", "many", "roads", "rows"] (aa bf):=⟨rfl,rfl,rfl,by decide +kernel,rfl,by decide +kernel,by decide +kernel⟩
theorem ok_yds {f fLU:Addr}{fd fdLU:FuncData}(F:Fun K "are_yards" "Yards.are_yards" bf f fd)(FLU:Def K mg "is_lump" eA ["many", "roads", "some"] fLU fdLU)(GLU:FnOk P w K mg base CX0 6 fLU fdLU ["many", "roads", "some"] gJ)(B:Bi K mg):FnOk P w K mg base CX0 7 f fd ["self", "many", "roads", "rows"] gY:=by
 refine F.ok scYds (fun vs H Q E h=>?_) (fun cdv A outer s H vs Q E hr h=>?_)
 . obtain⟨v,n,R,A,as,bs,rs,zss,rfl,_⟩:=h;rfl
 . obtain⟨v,n,R,A,as,bs,rs,zss,rfl,hR,t,hA,hl,hz,k⟩:=h;have nd:=scYds.nd;refine⟨_,(ah (aB (ak (cO rfl) (by rfl) B.all PyProof.Rows.boot_all (a2 (bL (aa bf).names ["self", "many", "roads", "rows"] ["self", "many", "roads", "rows", "row"] (bd K (pv 3)) (fun _ _ _ _=>bF) (fun _ _ _ _=>(aj GLU (hr.mono (by decide)) rfl FLU.mg FLU.fn.kp FLU.bn .nil aE (a2 (pv 1) (a2 (pv 2) (a2 (pv 4) a4)))))) a4)))),?_⟩
   refine⟨_,rfl,A,rfl,⟨_,SqL.of hA.top⟩,fun D hD=>?_⟩;refine gf (K:=K) (fv:=fun z=>V.bl (c3 n rs z)) hA hD (by omega) (fun y q hy H4 Qv hq s4 kk=>⟨_,rfl,_,rfl,_,rfl,n,R,q,as,rs,y,rfl,hR.mono s4,t,hq,hz y hy,kk⟩) fun HC hDC sC=>?_
   refine⟨D,zss.map (c3 n rs),rfl,SqL.of (by rw[hDC,List.map_map];rfl),k _ HC sC ?_⟩
   exact fb (fun _=>Iff.rfl)
def eL (C:Addr)(i:Nat):Sp:=fun vs H Q E=>(∃a dx,vs.head? = some (.ref a)/\H a=some (.ins C dx []))/\dN i vs H Q E
theorem scFSpots:dS iG:=⟨rfl,rfl,rfl,by decide +kernel,rfl,by decide +kernel,by decide +kernel⟩
theorem fit4 {f fAY C:Addr}{fd fdAY:FuncData}(F:Fun K "fits" "Spots.fits" iG f fd)(CL:Cls K C)(ME:Meth K C "are_yards" fAY)(GAY:FnOk P w K mg base CX0 7 fAY fdAY ["self", "many", "roads", "rows"] gY)(BAY:Binds K fdAY ["self", "many", "roads", "rows"] [])(B:Bi K mg):FnOk P w K mg base CX0 8 f fd ["self", "many", "roads", "asked"] (eL C 4):=by
 refine F.ok scFSpots (fun vs H Q E h=>?_) (fun cdv A outer s H vs Q E hr h=>?_)
 . obtain⟨_,v,n,R,A,as,bs,rs,zss,rfl,_⟩:=h;rfl
 . obtain⟨⟨a,dx,ha,hi⟩,v,n,R,A,as,bs,rs,zss,rfl,hR,t,hA,hl,hz,k⟩:=h;have nd:=scFSpots.nd;injection ha with ha
   subst ha;refine⟨_,(ah (aB (gR (pv 0) CL ME GAY (hr.mono (by decide)) BAY .nil aE (a2 (pv 1) (a2 (pv 2) (a2 (pv 3) a4)))))),?_⟩
   exact⟨_,rfl,a,dx,[],rfl,hi,rfl,_,rfl,_,rfl,_,rfl,.ref a,n,R,A,as,bs,rs,zss,rfl,hR,t,hA,hl,hz,k⟩
theorem scFColours:dS gk:=⟨rfl,rfl,rfl,by decide +kernel,rfl,by decide +kernel,by decide +kernel⟩
theorem fit5 {f fAY C:Addr}{fd fdAY:FuncData}(F:Fun K "fits" "Colours.fits" gk f fd)(CL:Cls K C)(ME:Meth K C "are_yards" fAY)(GAY:FnOk P w K mg base CX0 7 fAY fdAY ["self", "many", "roads", "rows"] gY)(BAY:Binds K fdAY ["self", "many", "roads", "rows"] [])(B:Bi K mg):FnOk P w K mg base CX0 8 f fd ["self", "many", "roads", "asked"] (eL C 5):=by
 refine F.ok scFColours (fun vs H Q E h=>?_) (fun cdv A outer s H vs Q E hr h=>?_)
 . obtain⟨_,v,n,R,A,as,bs,rs,zss,rfl,_⟩:=h;rfl
 . obtain⟨⟨a,dx,ha,hi⟩,v,n,R,A,as,bs,rs,zss,rfl,hR,t,hA,hl,hz,k⟩:=h;have nd:=scFColours.nd;injection ha with ha
   subst ha;refine⟨_,(ah (aB (gR (pv 0) CL ME GAY (hr.mono (by decide)) BAY .nil aE (a2 (pv 1) (a2 (pv 2) (a2 (pv 3) a4)))))),?_⟩
   exact⟨_,rfl,a,dx,[],rfl,hi,rfl,_,rfl,_,rfl,_,rfl,.ref a,n,R,A,as,bs,rs,zss,rfl,hR,t,hA,hl,hz,k⟩
theorem scFWorths:dS h7:=⟨rfl,rfl,rfl,by decide +kernel,rfl,by decide +kernel,by decide +kernel⟩
theorem fit6 {f fAY fWO C:Addr}{fd fdAY fdWO:FuncData}(F:Fun K "fits" "Worths.fits" h7 f fd)(CL:Cls K C)(ME:Meth K C "are_yards" fAY)(GAY:FnOk P w K mg base CX0 7 fAY fdAY ["self", "many", "roads", "rows"] gY)(BAY:Binds K fdAY ["self", "many", "roads", "rows"] [])(FWO:Def K mg "are_worths" bz ["yards", "worths"] fWO fdWO)(GWO:FnOk P w K mg base CX0 2 fWO fdWO ["yards", "worths"] eK)(B:Bi K mg):FnOk P w K mg base CX0 8 f fd ["self", "many", "roads", "asked"] (eL C 6):=by
 refine F.ok scFWorths (fun vs H Q E h=>?_) (fun cdv A outer s H vs Q E hr h=>?_)
 . obtain⟨_,v,n,R,A,as,bs,rs,zss,rfl,_⟩:=h;rfl
 . obtain⟨⟨a,dx,ha,hi⟩,v,n,R,A,as,bs,rs,zss,rfl,hR,t,hA,hl,hz,k⟩:=h;have nd:=scFWorths.nd;injection ha with ha
   subst ha;have bl:=hA.len;refine⟨_,(ah (aB (bc (aU gp (ak (lenK K) (by rfl) B.len PySem.boot_len (a2 (pv 3) a4)) a3 (av _)) (bc (aj GWO (hr.mono (by decide)) rfl FWO.mg FWO.fn.kp FWO.bn .nil aE (aJ (be (slK K) (pv 3) (bu a3) bv) (aJ (aF (ixK K) (pv 3) a3 (fun _ _=>rfl)) a4))) (bA (gR (pv 0) CL ME GAY (hr.mono (by decide)) BAY .nil aE (a2 (pv 1) (a2 (pv 2) (aJ (be (slK K) (pv 3) (bu a3) bv) a4))))))))),?_⟩
   refine⟨_,rfl,A,_,rfl,.inl (SqL.of hA.top),_,_,rfl,rfl,_,rfl,?_⟩;rw[List.length_map,bl];refine iteD (fun e=>?_) (fun e=>?_)
   . obtain⟨z,zs,rfl⟩:∃z zs,zss=z::zs:=by
      cases zss with
      | nil=>exact absurd e (by decide)
      | cons z zs=>exact⟨z,zs,rfl⟩
     obtain⟨p,ps,rfl⟩:∃p ps,bs=p::ps:=by
      cases bs with
      | nil=>simp at bl
      | cons p ps=>exact⟨p,ps,rfl⟩
     have hp:H p=some (.lst (zV z)):=hA.row 0 p z rfl rfl;have fi:FitQ 6 n rs (z::zs)<->dE zs.length z/\∀y∈zs,c3 n rs y=true:=by
      show(∃z' zs',z::zs=z'::zs'/\dE zs'.length z'/\∀y∈zs',c3 n rs y=true)<->_;exact⟨fun⟨z',zs',q,h⟩=>by injection q with q1 q2;subst q1;subst q2;exact h,fun h=>⟨z,zs,rfl,h⟩⟩
     rw[fi]at k;refine⟨_,rfl,_,rfl,A,_,rfl,SqL.of hA.top,fun T hT=>?_⟩;have s1:=ac (o:=.lst (cutV ((p::ps).map V.ref) (some 1) none)) hT;have hT1:=df hA hT;have hA1:=hA.mono s1;have tl:((ps.map V.ref).length:Nat)=zs.length:=by simpa using bl
     refine⟨_,rfl,A,_,_,_,rfl,rfl,SqL.of hA1.top,cw (j:=0) rfl,T,p,_,z,rfl,hT1.top,s1 _ _ hp,hz z (by simp),fun b H2 s2 hb=>⟨b,rfl,?_⟩⟩
     have s12:=s1.trans s2;refine iteB (fun e4=>?_) (fun e4=>?_)
     . refine⟨_,rfl,a,dx,[],rfl,s12 _ _ hi,rfl,_,rfl,_,rfl,_,rfl,_,rfl,A,_,rfl,SqL.of (hA.mono s12).top,fun T2 hT2=>?_⟩;have s3:=ac (o:=.lst (cutV ((p::ps).map V.ref) (some 1) none)) hT2;refine⟨.ref a,n,R,T2,as,ps,rs,zs,rfl,(hR.mono s12).mono s3,t,df (hA.mono s12) hT2,by simp at hl;omega,fun y hy=>hz y (by simp[hy]),fun b2 H4 s4 hb2=>k b2 H4 (s12.trans (s3.trans s4)) ?_⟩
       rw[hb2];have hb:b=true<->dE zs.length z:=by rw[←tl];exact hb
       exact⟨fun q=>⟨hb.mp e4,q⟩,fun q=>q.2⟩
     . have hb:b=true<->dE zs.length z:=by rw[←tl];exact hb
       exact k false H2 s12 ⟨(fun q=>nomatch q),fun w=>by rw[hb.mpr w.1]at e4;cases e4⟩
   . refine k false H (Same.refl _) ⟨(fun q=>nomatch q),fun q=>?_⟩;obtain⟨z,zs,q,_⟩:∃z zs,zss=z::zs/\dE zs.length z/\∀y∈zs,c3 n rs y=true:=q;rw[q]at e;exact absurd (by simp) e
end
end Tw
namespace Tw
open PySem L2
def cnameF (i:Nat):Str:=[("Middle" : Str),"Balance", "Wells", "Reach", "Spots", "Colours", "Worths", "Goods", "Walks", "Sweeps", "Round"].getD i ""
def qualF (i:Nat):Str:=[("Middle.fits" : Str),"Balance.fits", "Wells.fits", "Reach.fits", "Spots.fits", "Colours.fits", "Worths.fits", "Goods.fits", "Walks.fits", "Sweeps.fits", "Round.fits"].getD i ""
def fSt (i:Nat):Stmt:=mJ (top ([57,58,62,63,87,89,90,64,92,93,94].getD i 0)) 1
abbrev pFit:List Str:=["self", "many", "roads", "asked"]
abbrev pYds:List Str:=["self", "many", "roads", "rows"]
structure Kdf (K:PySem.W.Frag) (mg:Str->Option Value) (c f:Nat->Addr) (fd:Nat->FuncData) (fAY:Addr) (fdAY:FuncData):Prop where
 nam:∀i,i < 11->mg (cnameF i)=some (.ref (c i))
 cls:∀i,i < 11->Cls K (c i)
 mkk:∀i,i < 11->Mk0 K (c i)
 meth:∀i,i < 11->Meth K (c i) "fits" (f i)
 fn:∀i,i < 11->Fun K "fits" (qualF i) (fSt i) (f i) (fd i)
 bn:∀i,i < 11->Binds K (fd i) pFit []
 my:∀i,4≤i->i≤6->Meth K (c i) "are_yards" fAY
 fy:Fun K "are_yards" "Yards.are_yards" bf fAY fdAY
 byy:Binds K fdAY pYds []
section
variable {P:Program}{w:World}{K:PySem.W.Frag}{mg:Str->Option Value}{base:Heap}{c f:Nat->Addr}{fd:Nat->FuncData}{fAY:Addr}{fdAY:FuncData}
structure FitC (P:Program) (w:World) (K:PySem.W.Frag) (mg:Str->Option Value) (base:Heap):Prop where
 aw:∃f fd,Def K mg "are_wants" bI ["many", "wants"] f fd/\FnOk P w K mg base CX0 2 f fd ["many", "wants"] fu
 ag:∃f fd,Def K mg "are_gives" bK ["many", "gives"] f fd/\FnOk P w K mg base CX0 2 f fd ["many", "gives"] fE
 wo:∃f fd,Def K mg "are_worths" bz ["yards", "worths"] f fd/\FnOk P w K mg base CX0 2 f fd ["yards", "worths"] eK
 as:∃f fd,Def K mg "are_sites" bJ ["many", "some"] f fd/\FnOk P w K mg base CX0 4 f fd ["many", "some"] eo
 ih:∃f fd,Def K mg "is_house" cx ["many", "row"] f fd/\FnOk P w K mg base CX0 3 f fd ["many", "row"] fB
 ap:∃f fd,Def K mg "are_places" bi ["many", "some"] f fd/\FnOk P w K mg base CX0 3 f fd ["many", "some"] dW
 iw:∃f fd,Def K mg "is_whole" bP ["value"] f fd/\FnOk P w K mg base CX0 1 f fd ["value"] cr
 lu:∃f fd,Def K mg "is_lump" eA ["many", "roads", "some"] f fd/\FnOk P w K mg base CX0 6 f fd ["many", "roads", "some"] gJ
theorem FnOk.fitO {i k:Nat}{g C:Addr}{gd:FuncData}(G:FnOk P w K mg base CX0 k g gd pFit (dN i))(hk:k≤8):FnOk P w K mg base CX0 8 g gd pFit (eL C i):=(G.mono hk).imp fun _ _ _ _ h=>h.2
theorem ok_fits (TK:Kdf K mg c f fd fAY fdAY)(Z:FitC P w K mg base)(B:Bi K mg):∀i,i < 11->FnOk P w K mg base CX0 8 (f i) (fd i) pFit (eL (c i) i):=by
 obtain⟨⟨_,_,F1,G1⟩,⟨_,_,F2,G2⟩,⟨_,_,F3,G3⟩,⟨_,_,F4,G4⟩,⟨_,_,F5,G5⟩,⟨_,_,F6,G6⟩,⟨_,_,F7,G7⟩,⟨_,_,F8,G8⟩⟩:=Z;have GY:FnOk P w K mg base CX0 7 fAY fdAY pYds gY:=ok_yds TK.fy F8 G8 B;intro i h
 match i,h with
 | 0,h=>exact FnOk.fitO (fit0 (TK.fn 0 h) B) (by decide)
 | 1,h=>exact FnOk.fitO (fit1 (TK.fn 1 h) F1 G1 B) (by decide)
 | 2,h=>exact FnOk.fitO (fit2 (TK.fn 2 h) F4 G4 F5 G5 B) (by decide)
 | 3,h=>exact FnOk.fitO (fit3 (TK.fn 3 h) F4 G4 F6 G6 F7 G7 B) (by decide)
 | 4,h=>exact fit4 (TK.fn 4 h) (TK.cls 4 h) (TK.my 4 (by decide) (by decide)) GY TK.byy B
 | 5,h=>exact fit5 (TK.fn 5 h) (TK.cls 5 h) (TK.my 5 (by decide) (by decide)) GY TK.byy B
 | 6,h=>exact fit6 (TK.fn 6 h) (TK.cls 6 h) (TK.my 6 (by decide) (by decide)) GY TK.byy F3 G3 B
 | 7,h=>exact FnOk.fitO (fit7 (TK.fn 7 h) F2 G2 B) (by decide)
 | 8,h=>exact FnOk.fitO (fit8 (TK.fn 8 h) B) (by decide)
 | 9,h=>exact FnOk.fitO (fit9 (TK.fn 9 h) B) (by decide)
 | 10,h=>exact FnOk.fitO (fit10 (TK.fn 10 h) F6 G6 B) (by decide)
 | n+11,h=>exact absurd h (by omega)
theorem fit_tab (TK:Kdf K mg c f fd fAY fdAY)(Z:FitC P w K mg base)(B:Bi K mg):∀i,i < 11->Cls K (c i)/\Meth K (c i) "fits" (f i)/\FnOk P w K mg base CX0 8 (f i) (fd i) pFit (eL (c i) i)/\Binds K (fd i) pFit []:=fun i h=>⟨TK.cls i h,TK.meth i h,ok_fits TK Z B i h,TK.bn i h⟩
def tMks (c:Nat->Addr):Nat->Nat->TA
 | _,0=>tNil
 | i,n+1=>bZ (j5 (c i)) (tMks c (i+1) n)
structure KindsAt (c:Nat->Addr) (H:Hp) (i:Nat) (xs:List Addr):Prop where
 at_:∀(j:Nat) (x:Addr),xs[j]? = some x->∃dx,H x=some (.ins (c (i+j)) dx [])
theorem KindsAt.mono {H H':Hp}{i:Nat}{xs:List Addr}(h:KindsAt c H i xs)(s:Same H H'):KindsAt c H' i xs:=⟨fun j x e=>by obtain⟨dx,q⟩:=h.at_ j x e;exact⟨dx,s _ _ q⟩⟩
theorem i2:∀(n i:Nat) {σ:St} {H:Hp} {Q:List V->Hp->Prop},(∀(xs:List Addr) (H':Hp),xs.length=n->Same H H'->KindsAt c H' i xs->Q (xs.map V.ref) H')->tMks c i n σ H Q
 | 0,i,σ,H,Q,h=>h [] H rfl (Same.refl _) ⟨fun j x e=>by simp at e⟩
 | n+1,i,σ,H,Q,h=>fun x dx h1 h2 h3=>by
  have s1:Same H (upd (upd H dx (.own x)) x (.ins (c i) dx [])):=fun b o e=>by
   rw[ae (af e h1),ae (af e h2)];exact e
  have u1:(upd (upd H dx (.own x)) x (.ins (c i) dx [])) x=some (.ins (c i) dx []):=a9;refine i2 n (i+1) fun xs H' hl s2 hk=>?_;refine h (x::xs) H' (by rw[List.length_cons,hl]) (s1.trans s2) ⟨fun j y e=>?_⟩
  cases j with
  | zero =>
   have e:x=y:=by simpa using e
   subst e;exact⟨dx,s2 _ _ u1⟩
  | succ j =>
   obtain⟨d,q⟩:=hk.at_ j y (by simpa using e)
   exact⟨d,by rw[show i+(j+1)=i+1+j by omega];exact q⟩
def iD (c:Nat->Addr):Sp:=fun vs H Q _=>vs=[]/\∀(L:Addr) (xs:List Addr) (H':Hp),xs.length=11->Same H H'->H L=none->H' L=some (.lst (xs.map V.ref))->KindsAt c H' 0 xs->Q (.ref L) H'
theorem scKinds:FnScope [] [] (aa e5):=⟨rfl,rfl,rfl,by decide +kernel,rfl,by decide +kernel,by decide +kernel⟩
theorem ok_kinds {fk:Addr}{fdk:FuncData}(F:Def K mg "kinds" e5 [] fk fdk)(TK:Kdf K mg c f fd fAY fdAY):FnOk P w K mg base CX0 1 fk fdk [] (iD c):=by
 refine F.fn.ok scKinds (fun vs H Q E h=>?_) (fun cdv A outer s H vs Q E hr h=>?_)
 . rw[h.1];rfl
 . obtain⟨rfl,k⟩:=h;refine⟨_,(ah (aB (aK (a2 (bG (TK.mkk 0 (by decide)) rfl (TK.nam 0 (by decide))) (a2 (bG (TK.mkk 1 (by decide)) rfl (TK.nam 1 (by decide))) (a2 (bG (TK.mkk 2 (by decide)) rfl (TK.nam 2 (by decide))) (a2 (bG (TK.mkk 3 (by decide)) rfl (TK.nam 3 (by decide))) (a2 (bG (TK.mkk 4 (by decide)) rfl (TK.nam 4 (by decide))) (a2 (bG (TK.mkk 5 (by decide)) rfl (TK.nam 5 (by decide))) (a2 (bG (TK.mkk 6 (by decide)) rfl (TK.nam 6 (by decide))) (a2 (bG (TK.mkk 7 (by decide)) rfl (TK.nam 7 (by decide))) (a2 (bG (TK.mkk 8 (by decide)) rfl (TK.nam 8 (by decide))) (a2 (bG (TK.mkk 9 (by decide)) rfl (TK.nam 9 (by decide))) (a2 (bG (TK.mkk 10 (by decide)) rfl (TK.nam 10 (by decide))) a4)))))))))))))),?_⟩
   refine i2 11 0 fun xs H1 hl s1 hk=>?_;refine⟨by rw[List.length_map,hl];exact aO (by decide),fun L hL=>?_⟩
   have w1:=ac (o:=.lst (xs.map V.ref)) hL;exact k L xs _ hl (s1.trans w1) (s1.free hL) a9 (hk.mono w1)
end
end Tw
namespace Tw
open PySem L2
theorem eqV_int (a b:Int):eqV (.int a) (.int b)=decide (a=b):=by show(a == b)=_;rw[Bool.beq_eq_decide_eq]
section
variable {P:Program}{w:World}{K:PySem.W.Frag}{mg:Str->Option Value}{base:Heap}
def LPl (n:Int)(u:Bool)(z:List Int):Prop:=∀x∈z,0≤x/\x < n/\(u=true->z.count x≤1)
def jb:Sp:=fun vs H Q _=>∃(n:Int) (a:Addr) (z:List Int) (u:Bool),vs=[.int n,.ref a,.bl u]/\H a=some (.lst (zV z))/\∀b:Bool,(b=true<->LPl n u z)->Q (.bl b) H
theorem scLPl:FnScope ["_law_many", "_law_some", "_law_unlike", "_law_place"] ["_law_many", "_law_some", "_law_unlike"] (aa cQ):=⟨rfl,rfl,rfl,by decide +kernel,rfl,by decide +kernel,by decide +kernel⟩
theorem jf {f:Addr}{fd:FuncData}(F:Def K mg "_law_places" cQ ["_law_many", "_law_some", "_law_unlike"] f fd)(B:Bi K mg):FnOk P w K mg base CX0 1 f fd ["_law_many", "_law_some", "_law_unlike"] jb:=by
 refine F.fn.ok scLPl (fun vs H Q E h=>?_) (fun cdv A outer s H vs Q E hr h=>?_)
 . obtain⟨n,a,z,u,rfl,_⟩:=h;rfl
 . obtain⟨n,a,z,u,rfl,ha,k⟩:=h;have nd:=scLPl.nd;refine⟨_,(ad (bV PassesOwn.never rfl (bd K (pv 1)) (bj (i:=3) nd rfl (Or.inl rfl)) (ah (b6 (PW.pt (bN (ax dP (pv 3) a3 (av _)) (bN (ax gr (pv 3) (pv 0) (av _)) (ci (PW.pt (eO (cz (pv 2)) (dF (ax gp (eE PySem.F.plainAttrs_list PySem.F.slot_list_count PySem.F.type_list_count mt_count (pv 1) (a2 (pv 3) a4)) a3 (av _))))))))) (ah (aB bO)) aG)))
    (ah (aB bO))),?_⟩
   refine⟨_,rfl,a,rfl,⟨_,SqL.of ha⟩,?_⟩;refine cJ (K:=K) (xs:=zV z) (fun i σ H2=>∃v3:Option V,σ=[some (.int n),some (.ref a),some (.bl u),v3]/\H2=H/\∀x∈z.take i,0≤x/\x < n/\(u=true->z.count x≤1)) ⟨none,rfl,rfl,fun x hx=>by simp at hx⟩ (fun i σ H2 _ ⟨v3,_,e,_⟩=>by rw[e];exact SqL.of ha) ?_ ?_
   . rintro i y σ _ hi ⟨v3,rfl,rfl,hx⟩;obtain⟨x,hxi,rfl⟩:=zV_item hi;have xm:x∈z:=List.mem_of_getElem? hxi;refine⟨_,rfl,_,_,rfl,rfl,_,rfl,?_⟩;refine iteD (fun e=>k false ⟨(fun q=>nomatch q),fun q=>absurd (q x xm).1 (by omega)⟩) (fun e1=>?_)
     refine⟨_,rfl,_,rfl,_,_,rfl,rfl,_,rfl,?_⟩;refine iteD (fun e=>k false ⟨(fun q=>nomatch q),fun q=>absurd (q x xm).2.1 (by omega)⟩) (fun e2=>?_)
     refine⟨_,rfl,u,rfl,?_⟩;have nxt:(u=true->z.count x≤1)->∃v3,[some (V.int n),some (V.ref a),some (V.bl u),some (V.int x)]=[some (V.int n),some (V.ref a),some (V.bl u),v3]/\∀y∈z.take (i+1),0≤y/\y < n/\(u=true->z.count y≤1):=fun hc=>⟨_,rfl,fun y hy=>by
      rw[List.take_add_one,hxi]at hy;rcases List.mem_append.mp hy with h | h
      . exact hx y h
      . have:y=x:=by simpa using h
        rw[this];exact⟨by omega,by omega,hc⟩⟩
     refine iteB (fun eu=>?_) (fun eu=>?_)
     . refine⟨_,rfl,.inl ⟨rfl,_,SqL.of ha⟩,_,rfl,a,_,_,rfl,rfl,ha,rfl,bD z,_,_,rfl,rfl,_,rfl,?_⟩;have ec:(zV z).countP (fun z=>eqV z (V.int x))=z.count x:=by
        unfold zV;rw[List.countP_map];have:((fun z=>eqV z (V.int x))∘V.int)=fun z:Int=>decide (z=x):=by funext z;exact eqV_int z x
        rw[this,List.count]
        congr 1
       rw[ec];refine iteD (fun e=>k false ⟨(fun q=>nomatch q),fun q=>absurd ((q x xm).2.2 eu) (by omega)⟩) (fun e3=>?_)
       obtain⟨v3',q1,q2⟩:=nxt (fun _=>by omega)
       exact⟨v3',q1,rfl,q2⟩
     . obtain⟨v3',q1,q2⟩:=nxt (fun h=>by rw[h]at eu;cases eu)
       exact⟨v3',q1,rfl,q2⟩
   . rintro σ _ ⟨v3,rfl,rfl,hx⟩;rw[ao,List.take_length]at hx;exact k true ⟨fun _=>hx,fun _=>rfl⟩
theorem fh {n:Int}{z:List Int}:LPl n true z<->ce n z:=by
 unfold LPl ce;refine⟨fun h=>⟨fun x hx=>⟨(h x hx).1,(h x hx).2.1⟩,List.nodup_iff_count.mpr fun a=>?_⟩,fun h x hx=>⟨(h.1 x hx).1,(h.1 x hx).2,fun _=>List.nodup_iff_count.mp h.2 x⟩⟩;by_cases ha:a∈z
 . exact(h a ha).2.2 rfl
 . rw[List.count_eq_zero.mpr ha];exact Nat.zero_le _
theorem ie {n:Int}{z:List Int}:LPl n false z<->∀x∈z,0≤x/\x < n:=by
 unfold LPl;exact⟨fun h x hx=>⟨(h x hx).1,(h x hx).2.1⟩,fun h x hx=>⟨(h x hx).1,(h x hx).2,fun q=>nomatch q⟩⟩
theorem lumpB_iff {n:Nat}{rs:List Road}{z:List Int}:c3 n rs z=true<->z≠[]/\ce n z/\(rs.filter (inB z)).length+1=z.length:=by
 unfold c3 ce;rw[Bool.and_eq_true,Bool.and_eq_true,Bool.and_eq_true,decide_eq_true_iff,decide_eq_true_iff,plcs_iff,fq];cases z with
 | nil=>simp
 | cons x t=>simp[and_assoc]
def jw:Sp:=fun vs H Q _=>∃(n:Nat) (R Y:Addr) (as bs:List Addr) (rs:List Road) (zss:List (List Int)),vs=[.int n,.ref R,.ref Y]/\RowsAt H R as (rs.map rowI)/\Tree n rs/\RowsAt H Y bs zss ∧
 ∀(b:Bool) (H':Hp),Same H H'->(b=true<->∀y∈zss,c3 n rs y=true)->Q (.bl b) H'
theorem scLLs:FnScope ["_law_many", "_law_roads", "_law_yards", "_law_yard", "_law_inner"] ["_law_many", "_law_roads", "_law_yards"] (aa bX):=⟨rfl,rfl,rfl,by decide +kernel,rfl,by decide +kernel,by decide +kernel⟩
theorem ok_lls {f fPL:Addr}{fd fdPL:FuncData}(F:Def K mg "_law_are_lumps" bX ["_law_many", "_law_roads", "_law_yards"] f fd)(FPL:Def K mg "_law_places" cQ ["_law_many", "_law_some", "_law_unlike"] fPL fdPL)(B:Bi K mg):FnOk P w K mg base CX0 2 f fd ["_law_many", "_law_roads", "_law_yards"] jw:=by
 have GPL:FnOk P w K mg base CX0 1 fPL fdPL ["_law_many", "_law_some", "_law_unlike"] jb:=jf FPL B;refine F.fn.ok scLLs (fun vs H Q E h=>?_) (fun cdv A outer s H vs Q E hr h=>?_)
 . obtain⟨n,R,Y,as,bs,rs,zss,rfl,_⟩:=h;rfl
 . obtain⟨n,R,Y,as,bs,rs,zss,rfl,hR,t,hY,k⟩:=h;have nd:=scLLs.nd;have n12:=t.hi;have tl:=t.length;have yl:=hY.len;refine⟨_,(ad (bV PassesOwn.never rfl (bd K (pv 2)) (bj (i:=3) nd rfl (Or.inr rfl)) (ad (b6 (PW.pt (bN (ax aV (ak (lenK K) (by rfl) B.len PySem.boot_len (a2 (pv 3) a4)) a3 (av _)) (ci (cG (cz (aj GPL (hr.mono (by decide)) rfl FPL.mg FPL.fn.kp FPL.bn .nil aE (a2 (pv 0) (a2 (pv 3) (az bO a4))))))))) (ah (aB bO)) aG)
    (ad (cU (aa bX).names ["_law_many", "_law_roads", "_law_yards", "_law_yard", "_law_inner"] ["_law_many", "_law_roads", "_law_yards", "_law_yard", "_law_inner", "_law_road"] 4 nd rfl (Or.inl rfl) (bd K (pv 1)) (fun _ _ _ _=>(gP (PW.pt (eO (ax (inK K) (aF (ixK K) (pv 5) a3 (fun _ _=>rfl)) (pv 3) rfl) (dF (ax (inK K) (aF (ixK K) (pv 5) a3 (fun _ _=>rfl)) (pv 3) rfl)))))) (fun _ _ _ _=>(pv 5)))
    (ah (b6 (ax dy (ar aY (ak (lenK K) (by rfl) B.len PySem.boot_len (a2 (pv 4) a4)) a3) (ak (lenK K) (by rfl) B.len PySem.boot_len (a2 (pv 3) a4)) (av _)) (ah (aB bO)) aG)))))
    (ah (aB bO))),?_⟩
   refine⟨_,rfl,Y,rfl,⟨_,SqL.of hY.top⟩,?_⟩;refine cJ (K:=K) (xs:=bs.map V.ref) (fun i σ H2=>∃v3 v4:Option V,σ=[some (.int n),some (.ref R),some (.ref Y),v3,v4]/\Same H H2/\∀y∈zss.take i,c3 n rs y=true) ⟨none,none,rfl,Same.refl _,fun x hx=>by simp at hx⟩ (fun i σ H2 _ ⟨_,_,_,e,_⟩=>SqL.of (e _ _ hY.top)) ?_ ?_
   . rintro i y σ H2 hi ⟨v3,v4,rfl,s2,hx⟩;obtain⟨p,hp,rfl⟩:∃p,bs[i]? = some p/\y=V.ref p:=by
      rw[List.getElem?_map]at hi;cases e:bs[i]? with
      | none=>rw[e]at hi;cases hi
      | some p=>rw[e]at hi;cases hi;exact⟨p,rfl,rfl⟩
     obtain⟨z,hz⟩:∃z,zss[i]? = some z:=⟨_,List.getElem?_eq_getElem (by
      have:=(List.getElem?_eq_some_iff.mp hp).1;omega)⟩
     have zm:=List.mem_of_getElem? hz;have hA2:H2 p=some (.lst (zV z)):=s2 _ _ (hY.row i p z hp hz);refine⟨_,rfl,p,_,rfl,.inl (SqL.of hA2),rfl,_,rfl,?_⟩;rw[ay,ao];refine iteD (fun e=>k false H2 s2 ⟨(fun q=>nomatch q),fun q=>absurd (lumpB_iff.mp (q z zm)).1 (fun h=>h (List.eq_nil_of_length_eq_zero (by omega)))⟩) (fun e0=>?_)
     refine⟨_,rfl,_,rfl,_,p,z,true,rfl,hA2,fun b hb=>⟨b,rfl,?_⟩⟩;rw[fh]at hb;cases b with
     | false=>exact iteT (k false H2 s2 ⟨(fun q=>nomatch q),fun q=>absurd (hb.mpr (lumpB_iff.mp (q z zm)).2.1) (by decide)⟩)
     | true =>
      have hR2:=hR.mono s2;refine iteF ⟨_,rfl,R,rfl,⟨_,SqL.of hR2.top⟩,fun D hD=>?_⟩;refine i8 (K:=K) (p:=inZ z) hR2 (by rw[List.length_map];omega) hD (fun y q hy H4 Qv hq s4 kk=>?_) (fun q H4 Qv h=>⟨_,rfl,h⟩) fun bs5 H5 hD5 s5 sub=>?_
      . obtain⟨r,hr',rfl⟩:=List.mem_map.mp hy;have hA4:=s4 _ _ hA2;refine⟨_,rfl,q,_,_,_,rfl,rfl,SqL.of hq,rfl,_,rfl,p,_,rfl,.inl (SqL.of hA4),rfl,bD _,_,rfl,?_⟩;show(if inV (V.int r.1) (zV z)=true then _ else _)
        rw[cm];refine iteD (fun e1=>?_) (fun e1=>?_)
        . refine⟨_,rfl,q,_,_,_,rfl,rfl,SqL.of hq,rfl,_,rfl,p,_,rfl,.inl (SqL.of hA4),rfl,bD _,_,rfl,?_⟩;have:=kk H4 (Same.refl _);rw[fg,inB,decide_eq_true e1,Bool.true_and,←cm]at this;exact this
        . have:=kk H4 (Same.refl _);rw[fg,inB,decide_eq_false e1,Bool.false_and]at this;exact this
      . rw[i5]at hD5;have dl:=hD5.len;rw[List.length_map]at dl;have s15:=s2.trans s5;refine⟨_,rfl,D,_,rfl,.inl (SqL.of hD5.top),_,_,rfl,rfl,_,rfl,p,_,rfl,.inl (SqL.of (s5 _ _ hA2)),rfl,_,rfl,?_⟩;rw[ay,List.length_map,ao,dl];refine iteB (fun e=>k false H5 s15 ⟨(fun q=>nomatch q),fun q=>?_⟩) (fun e=>?_)
        . have:=(lumpB_iff.mp (q z zm)).2.2;rw[decide_eq_true (by omega)]at e
          cases e
        . have e1:((rs.filter (inB z)).length:Int)+1=z.length:=by simpa using e
          refine⟨_,_,rfl,s15,fun y hy=>?_⟩;rw[List.take_add_one,hz]at hy;rcases List.mem_append.mp hy with h | h
          . exact hx y h
          . have:y=z:=by simpa using h
            rw[this];exact lumpB_iff.mpr ⟨fun h=>e0 (by rw[h];rfl),hb.mp rfl,by omega⟩
   . rintro σ H2 ⟨v3,v4,rfl,s2,hx⟩;rw[List.length_map,yl,List.take_length]at hx;exact k true H2 s2 ⟨fun _=>hx,fun _=>rfl⟩
end
end Tw
namespace Tw
open PySem L2
section
variable {P:Program}{w:World}{K:PySem.W.Frag}{mg:Str->Option Value}{base:Heap}
def jx:Sp:=fun vs H Q _=>∃(i n:Nat) (R A:Addr) (as bs:List Addr) (rs:List Road) (zss:List (List Int)),vs=[.int i,.int n,.ref R,.ref A]/\i < 11/\RowsAt H R as (rs.map rowI)/\Tree n rs/\RowsAt H A bs zss/\zss.length≤100/\(∀z∈zss,z.length≤100) ∧
 ∀(b:Bool) (H':Hp),Same H H'->(b=true<->FitQ i n rs zss)->Q (.bl b) H'
theorem scDue:FnScope ["_law_at", "_law_many", "_law_roads", "_law_rows", "_law_row"] ["_law_at", "_law_many", "_law_roads", "_law_rows"] (aa sDue):=⟨rfl,rfl,rfl,by decide +kernel,rfl,by decide +kernel,by decide +kernel⟩
theorem ok_due {f fPL fLS:Addr}{fd fdPL fdLS:FuncData}(F:Def K mg "_law_due" sDue ["_law_at", "_law_many", "_law_roads", "_law_rows"] f fd)(FPL:Def K mg "_law_places" cQ ["_law_many", "_law_some", "_law_unlike"] fPL fdPL)(FLS:Def K mg "_law_are_lumps" bX ["_law_many", "_law_roads", "_law_yards"] fLS fdLS)(B:Bi K mg):FnOk P w K mg base CX0 3 f fd ["_law_at", "_law_many", "_law_roads", "_law_rows"] jx:=by
 have GPL:FnOk P w K mg base CX0 1 fPL fdPL ["_law_many", "_law_some", "_law_unlike"] jb:=jf FPL B;have GLS:FnOk P w K mg base CX0 2 fLS fdLS ["_law_many", "_law_roads", "_law_yards"] jw:=ok_lls FLS FPL B;refine F.fn.ok scDue (fun vs H Q E h=>?_) (fun cdv A outer s H vs Q E hr h=>?_)
 . obtain⟨i,n,R,A,as,bs,rs,zss,rfl,_⟩:=h;rfl
 . obtain⟨i,n,R,A,as,bs,rs,zss,rfl,hi,hR,t,hA,hl,hz,k⟩:=h;have nd:=scDue.nd;have hu:=iT hr;have bl:=hA.len;refine⟨_,(ad (b6 (ax (inK K) (pv 0) (g4 (az a3 (az a3 (az a3 a4)))) rfl) (ah (aB (aU (op_eqNilK K (Nat.lt_of_succ_lt hu)) (pv 3) (aK a4) (av _)))) aG)
    (ad (b6 (ax (inK K) (pv 0) (g4 (az a3 (az a3 a4))) rfl) (ah (aB (aj GLS (hr.mono (by decide)) rfl FLS.mg FLS.fn.kp FLS.bn .nil aE (a2 (pv 1) (a2 (pv 2) (a2 (pv 3) a4)))))) aG)
    (ad (b6 (ax aV (ak (lenK K) (by rfl) B.len PySem.boot_len (a2 (pv 3) a4)) a3 (av _)) (ah (aB bO)) aG)
    (ad (b6 (ax aV (pv 0) a3 (av _)) (ah (aB (bc (aU aV (ak (lenK K) (by rfl) B.len PySem.boot_len (a2 (pv 3) a4)) a3 (av _)) (bc (aU aV (ak (lenK K) (by rfl) B.len PySem.boot_len (aJ (aF (ixK K) (pv 3) a3 (fun _ _=>rfl)) a4)) (pv 1) (av _)) (bA (aU gr (ak (minL K rfl) (by rfl) B.min PyProof.Rows.boot_min (aJ (aF (ixK K) (pv 3) a3 (fun _ _=>rfl)) a4)) a3 (av _))))))) aG)
    (ad (b6 (ax aV (pv 0) a3 (av _)) (ad (bV PassesOwn.never rfl (bd K (be (slK K) (pv 3) (bu a3) bv)) (bj (i:=4) nd rfl (Or.inl rfl)) (ah (b6 (PW.pt (bN (ax dy (ak (lenK K) (by rfl) B.len PySem.boot_len (a2 (pv 4) a4)) a3 (av _)) (bN (cG (cz (aj GPL (hr.mono (by decide)) rfl FPL.mg FPL.fn.kp FPL.bn .nil aE (a2 (pv 1) (aJ (be (slK K) (pv 4) bv (bu a3)) (az bO a4)))))) (ci (ax dP (aF (ixK K) (pv 4) a3 (fun _ _=>rfl)) a3 (av _)))))) (ah (aB bO)) aG)))
    (ah (aB (aj GPL (hr.mono (by decide)) rfl FPL.mg FPL.fn.kp FPL.bn .nil aE (a2 (pv 1) (aJ (aF (ixK K) (pv 3) a3 (fun _ _=>rfl)) (az bO a4))))))) aG)
    (ad (b6 (ax aV (pv 0) a3 (av _)) (ad (b6 (PW.pt (bN (ax dy (ak (lenK K) (by rfl) B.len PySem.boot_len (a2 (pv 3) a4)) a3 (av _)) (bN (ax dy (ak (lenK K) (by rfl) B.len PySem.boot_len (aJ (aF (ixK K) (pv 3) a3 (fun _ _=>rfl)) a4)) a3 (av _)) (bN (ax dP (aF (ixK K) (aF (ixK K) (pv 3) a3 (fun _ _=>rfl)) a3 (fun _ _=>rfl)) a3 (av _)) (ci (ax aV (ak (lenK K) (by rfl) B.len PySem.boot_len (aJ (aF (ixK K) (pv 3) a3 (fun _ _=>rfl)) a4)) a3 (av _))))))) (ah (aB bO)) aG)
    (ah (aB (bc (aj GPL (hr.mono (by decide)) rfl FPL.mg FPL.fn.kp FPL.bn .nil aE (a2 (pv 1) (aJ (aF (ixK K) (pv 3) a3 (fun _ _=>rfl)) (az bO a4)))) (bA (aj GPL (hr.mono (by decide)) rfl FPL.mg FPL.fn.kp FPL.bn .nil aE (a2 (pv 1) (aJ (aF (ixK K) (pv 3) a3 (fun _ _=>rfl)) (az bO a4))))))))) aG)
    (ad (b6 (ax aV (pv 0) a3 (av _)) (ad (b6 (PW.pt (bN (ax dy (ak (lenK K) (by rfl) B.len PySem.boot_len (aJ (aF (ixK K) (pv 3) a3 (fun _ _=>rfl)) a4)) (ar bQ (ak (lenK K) (by rfl) B.len PySem.boot_len (a2 (pv 3) a4)) a3) (av _)) (ci (ax dP (ak (minL K rfl) (by rfl) B.min PyProof.Rows.boot_min (aL (ar d7 (aF (ixK K) (pv 3) a3 (fun _ _=>rfl)) (aK (az a3 a4))) a4)) a3 (av _))))) (ah (aB bO)) aG)
    (ah (aB (aj GLS (hr.mono (by decide)) rfl FLS.mg FLS.fn.kp FLS.bn .nil aE (a2 (pv 1) (a2 (pv 2) (aJ (be (slK K) (pv 3) (bu a3) bv) a4))))))) aG)
    (ad (b6 (ax aV (pv 0) a3 (av _)) (ah (aB (bc (aU aV (ak (lenK K) (by rfl) B.len PySem.boot_len (a2 (pv 3) a4)) a3 (av _)) (bc (aU aV (ak (lenK K) (by rfl) B.len PySem.boot_len (aJ (aF (ixK K) (pv 3) a3 (fun _ _=>rfl)) a4)) (pv 1) (av _)) (bA (aU aV (ak (sumK K rfl) (by rfl) B.sum PyProof.Rows.boot_sum (aJ (aF (ixK K) (pv 3) a3 (fun _ _=>rfl)) a4)) a3 (av _))))))) aG)
    (ah (aB (bc (aU aV (ak (lenK K) (by rfl) B.len PySem.boot_len (a2 (pv 3) a4)) a3 (av _)) (bA (aj GPL (hr.mono (by decide)) rfl FPL.mg FPL.fn.kp FPL.bn .nil aE (a2 (pv 1) (aJ (aF (ixK K) (pv 3) a3 (fun _ _=>rfl)) (az bO a4)))))))))))))))),?_⟩
   have n12:=t.hi;have n1:=t.lo;refine⟨_,rfl,(by show 3≤sizeLine;exact aO (by decide)),fun T1 hT1=>?_⟩
   have s1:=ac (o:=.tup [V.int 0,V.int 8,V.int 9]) hT1;refine⟨T1,_,rfl,.inr (SqT.of a9),rfl,rfl,_,rfl,?_⟩;generalize upd H T1 (.tup [V.int 0,V.int 8,V.int 9])=H1 at s1⊢;have ei:inV (V.int (i:Int)) (zV [0,8,9])=decide ((i:Int)∈[0,8,9]):=cm _ _;refine iteB (b:=inV (V.int (i:Int)) (zV [0,8,9])) (fun e=>?_) (fun e=>?_)<;>rw[ei]at e
   . have e':i=0∨i=8∨i=9:=by simp at e;omega
     have fi:FitQ i n rs zss<->zss=[]:=by unfold FitQ;rw[if_pos e']
     refine⟨_,rfl,(by show 0≤sizeLine;exact aO (by decide)),fun T2 hT2=>?_⟩
     have s2:=s1.trans (ac (o:=.lst []) hT2);refine⟨A,T2,_,rfl,rfl,SqL.of (s2 _ _ hA.top),SqL.of a9,k _ _ s2 ?_⟩;rw[fi,decide_eq_true_iff,List.map_eq_nil_iff];exact⟨fun q=>List.eq_nil_of_length_eq_zero (by rw[←bl,q];rfl),fun q=>List.eq_nil_of_length_eq_zero (by rw[bl,q];rfl)⟩
   have e0:¬(i=0∨i=8∨i=9):=by simp at e;omega
   clear e;refine⟨_,rfl,(by show 2≤sizeLine;exact aO (by decide)),fun T2 hT2=>?_⟩
   have s2:=s1.trans (ac (o:=.tup [V.int 4,V.int 5]) hT2);refine⟨T2,_,rfl,.inr (SqT.of a9),rfl,rfl,_,rfl,?_⟩;generalize upd H1 T2 (.tup [V.int 4,V.int 5])=H2 at s2⊢;have ei:inV (V.int (i:Int)) (zV [4,5])=decide ((i:Int)∈[4,5]):=cm _ _;clear s1 hT2;refine iteB (b:=inV (V.int (i:Int)) (zV [4,5])) (fun e=>?_) (fun e=>?_)<;>rw[ei]at e
   . have e':i=4∨i=5:=by simp at e;omega
     have fi:FitQ i n rs zss<->∀y∈zss,c3 n rs y=true:=by unfold FitQ;rw[if_neg e0,if_neg (by omega),if_neg (by omega),if_neg (by omega),if_pos e']
     exact⟨_,rfl,_,rfl,_,rfl,n,R,A,as,bs,rs,zss,rfl,hR.mono s2,t,hA.mono s2,fun b H3 s3 hb=>k b H3 (s2.trans s3) (hb.trans fi.symm)⟩
   have e45:¬(i=4∨i=5):=by simp at e;omega
   clear e;have hA2:=hA.mono s2;have hR2:=hR.mono s2;refine⟨_,rfl,A,_,rfl,.inl (SqL.of hA2.top),rfl,_,rfl,?_⟩;rw[ay,List.length_map,bl];refine iteD (fun e=>k false H2 s2 ⟨(fun q=>nomatch q),fun q=>?_⟩) (fun e=>?_)
   . have:zss=[]:=List.eq_nil_of_length_eq_zero (by omega)
     rw[this]at q;unfold FitQ at q;rw[if_neg e0]at q
     split at q
     . obtain⟨_,q,_⟩:=q;cases q
     split at q
     . obtain⟨_,_,q,_⟩:=q;cases q
     split at q
     . obtain⟨_,_,_,q,_⟩:=q;cases q
     split at q
     . obtain⟨_,_,q,_⟩:=q;cases q
     split at q
     . obtain⟨_,q,_⟩:=q;cases q
     . obtain⟨_,q,_⟩:=q;cases q
   obtain⟨z,zs,rfl⟩:∃z zs,zss=z::zs:=by
    cases zss with
    | nil=>exact absurd rfl e
    | cons z zs=>exact⟨z,zs,rfl⟩
   obtain⟨p,ps,rfl⟩:∃p ps,bs=p::ps:=by
    cases bs with
    | nil=>simp at bl
    | cons p ps=>exact⟨p,ps,rfl⟩
   clear e hT1;have hp:H2 p=some (.lst (zV z)):=hA2.row 0 p z rfl rfl;have zl:=hz z (by simp)
   have hz0:atI ((p::ps).map V.ref) 0=some (V.ref p):=cw (j:=0) rfl;refine⟨_,rfl,rfl,_,rfl,?_⟩;rw[ay];refine iteD (fun e=>?_) (fun e1=>?_)
   ·
    have fi:FitQ i n rs (z::zs)<->zs=[]/\ic n z:=by
     unfold FitQ;rw[if_neg e0,if_pos (by omega)]
     exact⟨fun⟨y,q,h⟩=>by injection q with q1 q2;subst q1;exact⟨q2,h⟩,fun⟨q,h⟩=>⟨z,by rw[q],h⟩⟩
    rw[fi]at k;refine⟨_,rfl,A,_,rfl,.inl (SqL.of hA2.top),rfl,_,rfl,?_⟩;rw[ay,List.length_map,bl];refine iteD (fun e2=>?_) (fun e2=>k false H2 s2 ⟨(fun q=>nomatch q),fun q=>absurd (by rw[q.1];rfl) e2⟩)
    have ez:zs=[]:=List.eq_nil_of_length_eq_zero (by simp at e2;omega)
    refine⟨_,rfl,A,_,_,_,rfl,rfl,SqL.of hA2.top,hz0,p,_,rfl,.inl (SqL.of hp),_,rfl,rfl,_,rfl,?_⟩;rw[ay,ao];refine iteD (fun e3=>?_) (fun e3=>k false H2 s2 ⟨(fun q=>nomatch q),fun q=>absurd q.2.1 e3⟩);refine⟨_,rfl,A,_,_,_,rfl,rfl,SqL.of hA2.top,hz0,p,z,rfl,SqL.of hp,by omega,fun M hM hl=>⟨_,_,rfl,rfl,k _ H2 s2 ?_⟩⟩
    rw[decide_eq_true_iff];exact⟨fun q=>⟨ez,e3,fun x hx=>Int.le_trans q (hl x hx)⟩,fun q=>q.2.2 M hM⟩
   refine⟨_,rfl,rfl,_,rfl,?_⟩;rw[ay];refine iteD (fun e=>?_) (fun e2=>?_)
   ·
    have fi:FitQ i n rs (z::zs)<->ce n z/\∀y∈zs,dR n y:=by
     unfold FitQ;rw[if_neg e0,if_neg (by omega),if_pos (by omega)]
     exact⟨fun⟨z',zs',q,h⟩=>by injection q with q1 q2;subst q1;subst q2;exact h,fun h=>⟨z,zs,rfl,h⟩⟩
    rw[fi]at k;refine⟨_,rfl,_,rfl,A,_,rfl,SqL.of hA2.top,fun T hT=>⟨T,rfl,⟨_,SqL.of a9⟩,?_⟩⟩;have hT3:=df hA2 hT;have s3:=s2.trans (ac (o:=.lst (cutV ((p::ps).map V.ref) (some 1) none)) hT);have hp3:=(ac (o:=.lst (cutV ((p::ps).map V.ref) (some 1) none)) hT) _ _ hp;generalize upd H2 T (.lst (cutV ((p::ps).map V.ref) (some 1) none))=H3 at hT3 s3 hp3⊢;change RowsAt H3 T ps zs at hT3;have hA3:=hA.mono s3;refine cJ (K:=K) (xs:=ps.map V.ref) (fun j σ H4=>∃v4:Option V,σ=[some (.int i),some (.int n),some (.ref R),some (.ref A),v4]/\Same H3 H4/\∀y∈zs.take j,dR n y) ⟨none,rfl,Same.refl _,fun x hx=>by simp at hx⟩ (fun j σ H4 _ ⟨_,_,e,_⟩=>SqL.of (e _ _ hT3.top)) ?_ ?_
    . rintro j y σ H4 hj ⟨v4,rfl,s4,hx⟩;obtain⟨q,hq,rfl⟩:∃q,ps[j]? = some q/\y=V.ref q:=by
       rw[List.getElem?_map]at hj;cases e:ps[j]? with
       | none=>rw[e]at hj;cases hj
       | some q=>rw[e]at hj;cases hj;exact⟨q,rfl,rfl⟩
      obtain⟨y,hy⟩:∃y,zs[j]? = some y:=⟨_,List.getElem?_eq_getElem (by
       have:=(List.getElem?_eq_some_iff.mp hq).1;have:=hT3.len;omega)⟩
      have ym:=List.mem_of_getElem? hy;have hq4:H4 q=some (.lst (zV y)):=s4 _ _ (hT3.row j q y hq hy);have s34:=s3.trans s4;have no:¬dR n y->∀{H5:Hp},Same H H5->Q (.bl false) H5:=fun h H5 s5=>k false H5 s5 ⟨(fun q=>nomatch q),fun q=>absurd (q.2 y ym) h⟩;refine⟨_,rfl,q,_,rfl,.inl (SqL.of hq4),rfl,_,rfl,?_⟩;rw[ay,ao];refine iteB (fun e=>no (fun⟨u,r,h,_⟩=>by rw[h]at e;cases e) s34) (fun e=>?_)
      obtain⟨u,r,rfl⟩:∃u r,y=[u,r]:=by
       have e2:(y.length:Int)=2:=by simpa using e
       match y,(show y.length=2 by omega)with
       | [u,r],_=>exact⟨u,r,rfl⟩
      refine⟨_,rfl,_,rfl,_,rfl,q,_,rfl,SqL.of hq4,fun T5 hT5=>?_⟩;have s5:=ac (o:=.lst (zV [u])) hT5;have t5:(upd H4 T5 (.lst (zV [u]))) T5=some (.lst (zV [u])):=a9;show bZ _ _ _ (upd H4 T5 (.lst (zV [u]))) _;generalize upd H4 T5 (.lst (zV [u]))=H5 at s5 t5⊢;refine⟨n,T5,[u],true,rfl,t5,fun b hb=>⟨b,rfl,?_⟩⟩;have su:ce n [u]<->0≤u/\u < (n:Int):=by unfold ce;simp
      rw[fh,su]at hb;cases b with
      | false=>exact iteT (no (fun⟨u',r',h,h1,h2,_⟩=>by
       injection h with h3 _
       subst h3;exact absurd (hb.mpr ⟨h1,h2⟩) (by decide)) (s34.trans s5))
      | true =>
       refine iteF ⟨_,rfl,q,_,_,_,rfl,rfl,SqL.of (s5 _ _ hq4),rfl,_,_,rfl,rfl,_,rfl,?_⟩;refine iteD (fun e=>no (fun⟨u',r',h,_,_,h3⟩=>by
        injection h with _ h4
        injection h4 with h5 _
        subst h5;omega) (s34.trans s5)) (fun er=>?_)
       refine⟨_,rfl,s4.trans s5,fun y' hy'=>?_⟩;rw[List.take_add_one,hy]at hy';rcases List.mem_append.mp hy' with h | h
       . exact hx y' h
       . have:y'=[u,r]:=by simpa using h
         rw[this];exact⟨u,r,rfl,(hb.mp rfl).1,(hb.mp rfl).2,by omega⟩
    . rintro σ H4 ⟨v4,rfl,s4,hx⟩;rw[List.length_map,hT3.len,List.take_length]at hx;refine⟨_,rfl,_,rfl,A,_,_,_,rfl,rfl,SqL.of (s4 _ _ hA3.top),hz0,(n:Int),p,z,true,rfl,s4 _ _ hp3,fun b hb=>k b H4 (s3.trans s4) ?_⟩;rw[hb,fh];exact⟨fun q=>⟨q,hx⟩,fun q=>q.1⟩
   refine⟨_,rfl,rfl,_,rfl,?_⟩;rw[ay];refine iteD (fun e=>?_) (fun e3=>?_)
   ·
    have fi:FitQ i n rs (z::zs)<->∃x y y',z::zs=[[x],y,y']/\1≤x/\y≠[]/\ce n y/\∀x∈y',0≤x/\x < (n:Int):=by
     unfold FitQ;rw[if_neg e0,if_neg (by omega),if_neg (by omega),if_pos (by omega)]
    rw[fi]at k;refine⟨_,rfl,A,_,rfl,.inl (SqL.of hA2.top),rfl,_,rfl,?_⟩;rw[ay,List.length_map,bl];refine iteB (fun e=>k false H2 s2 ⟨(fun q=>nomatch q),fun⟨x,y,y',q,_⟩=>by rw[q]at e;cases e⟩) (fun e=>?_)
    obtain⟨y,y',rfl⟩:∃y y',zs=[y,y']:=by
     have e2:(((z::zs).length:Nat):Int)=3:=by simpa using e
     match zs,(show zs.length=2 by simp at e2;omega)with
     | [y,y'],_=>exact⟨y,y',rfl⟩
    obtain⟨q,r,rfl⟩:∃q r,ps=[q,r]:=by
     match ps,(show ps.length=2 by simpa using bl)with
     | [q,r],_=>exact⟨q,r,rfl⟩
    have hq:H2 q=some (.lst (zV y)):=hA2.row 1 q y rfl rfl;have hr2:H2 r=some (.lst (zV y')):=hA2.row 2 r y' rfl rfl;refine⟨_,rfl,A,_,_,_,rfl,rfl,SqL.of hA2.top,hz0,p,_,rfl,.inl (SqL.of hp),rfl,_,rfl,?_⟩;rw[ay,ao];refine iteB (fun e=>k false H2 s2 ⟨(fun q=>nomatch q),fun⟨x,y,y',q,_⟩=>by injection q with q1 _;rw[q1]at e;cases e⟩) (fun e'=>?_)
    obtain⟨x,rfl⟩:∃x,z=[x]:=by
     have e2:(z.length:Int)=1:=by simpa using e'
     match z,(show z.length=1 by omega)with
     | [x],_=>exact⟨x,rfl⟩
    have f2:(∃x1 y1 y1',[x]::[y,y']=[[x1],y1,y1']/\1≤x1/\y1≠[]/\ce n y1/\∀x∈y1',0≤x/\x < (n:Int))<->1≤x/\y≠[]/\ce n y/\∀x∈y',0≤x/\x < (n:Int):=by
     refine⟨fun⟨x',z',y',q,h⟩=>?_,fun h=>⟨x,y,y',rfl,h⟩⟩;injection q with q1 q
     injection q with q2 q
     injection q with q3 _
     injection q1 with q1 _
     subst q1;subst q2;subst q3;exact h
    rw[f2]at k;refine⟨_,rfl,A,_,_,_,rfl,rfl,SqL.of hA2.top,hz0,p,_,_,_,rfl,rfl,SqL.of hp,rfl,_,_,rfl,rfl,_,rfl,?_⟩;refine iteD (fun e=>k false H2 s2 ⟨(fun q=>nomatch q),fun q=>absurd q.1 (by omega)⟩) (fun ex=>?_)
    refine⟨_,rfl,A,_,_,_,rfl,rfl,SqL.of hA2.top,rfl,q,_,rfl,.inl (SqL.of hq),rfl,_,rfl,?_⟩;rw[ay,ao];refine iteD (fun e=>k false H2 s2 ⟨(fun q=>nomatch q),fun w=>absurd (List.eq_nil_of_length_eq_zero (by omega)) w.2.1⟩) (fun ey=>?_)
    refine⟨_,rfl,_,rfl,A,_,_,_,rfl,rfl,SqL.of hA2.top,rfl,(n:Int),q,y,true,rfl,hq,fun b hb=>⟨b,rfl,?_⟩⟩;rw[fh]at hb;refine iteB (fun e4=>?_) (fun e4=>k false H2 s2 ⟨(fun q=>nomatch q),fun w=>by rw[hb.mpr w.2.2.1]at e4;cases e4⟩)
    refine⟨_,rfl,_,rfl,A,_,_,_,rfl,rfl,SqL.of hA2.top,rfl,(n:Int),r,y',false,rfl,hr2,fun b2 hb2=>k b2 H2 s2 ?_⟩;rw[hb2,ie];exact⟨fun w=>⟨by omega,(fun h=>ey (by rw[h];rfl)),hb.mp e4,w⟩,fun w=>w.2.2.2⟩
   refine⟨_,rfl,rfl,_,rfl,?_⟩;rw[ay];refine iteD (fun e=>?_) (fun e6=>?_)
   ·
    have fi:FitQ i n rs (z::zs)<->dE zs.length z/\∀y∈zs,c3 n rs y=true:=by
     unfold FitQ;rw[if_neg e0,if_neg (by omega),if_neg (by omega),if_neg (by omega),if_neg e45,if_pos (by omega)]
     exact⟨fun⟨z',zs',q,h⟩=>by injection q with q1 q2;subst q1;subst q2;exact h,fun h=>⟨z,zs,rfl,h⟩⟩
    rw[fi]at k;refine⟨_,rfl,A,_,_,_,rfl,rfl,SqL.of hA2.top,hz0,p,_,rfl,.inl (SqL.of hp),_,rfl,A,_,rfl,.inl (SqL.of hA2.top),_,_,rfl,rfl,rfl,_,rfl,?_⟩;rw[ay,ao,List.length_map,bl];refine iteB (fun e=>k false H2 s2 ⟨(fun q=>nomatch q),fun q=>?_⟩) (fun e=>?_)
    . have:=q.1.1;rw[decide_eq_true (by simp;omega)]at e
      cases e
    have el:z.length=zs.length:=by
     have e2:(z.length:Int)=((z::zs).length:Nat) - 1:=by simpa using e
     simp at e2;omega
    refine⟨_,rfl,A,_,_,_,rfl,rfl,SqL.of hA2.top,hz0,(by show 1≤sizeLine;exact aO (by decide)),fun T hT=>?_⟩
    have w1:=ac (o:=.lst [V.int 0]) hT;have t1:(upd H2 T (.lst [V.int 0])) T=some (.lst [V.int 0]):=a9;have hp1:=w1 _ _ hp;have hA4:=hA2.mono w1;generalize upd H2 T (.lst [V.int 0])=H3 at w1 t1 hp1 hA4⊢;refine⟨p,T,_,_,rfl,rfl,hp1,t1,(by rw[ao];show _+1≤_;exact Nat.le_trans (Nat.succ_le_succ zl) (by decide)),fun T2 hT2=>?_⟩
    have w2:=w1.trans (ac (o:=.lst (zV z++[V.int 0])) hT2);have t2:(upd H3 T2 (.lst (zV z++[V.int 0]))) T2=some (.lst (zV (z++[0]))):=by rw[a9];exact congrArg (fun l=>some (HO.lst l)) (bC _ _)
    have hA5:=hA2.mono w2;generalize upd H3 T2 (.lst (zV z++[V.int 0]))=H4 at w2 t2 hA5⊢;have s4:=s2.trans w2;refine⟨T2,z++[0],rfl,SqL.of t2,by simp,fun M hM hl=>⟨_,_,rfl,rfl,_,rfl,?_⟩⟩
    refine iteD (fun eM=>k false H4 s4 ⟨(fun q=>nomatch q),fun q=>?_⟩) (fun eM=>?_)
    . rcases List.mem_append.mp hM with h | h
      . exact absurd (q.1.2 M h) (by omega)
      . have:M=0:=by simpa using h
        omega
    refine⟨_,rfl,_,rfl,_,rfl,_,rfl,A,_,rfl,SqL.of hA5.top,fun T3 hT3=>?_⟩;have hT4:=df hA5 hT3;have s5:=ac (o:=.lst (cutV ((p::ps).map V.ref) (some 1) none)) hT3;refine⟨n,R,T3,as,ps,rs,zs,rfl,(hR.mono s4).mono s5,t,hT4,fun b H6 s6 hb=>k b H6 (s4.trans (s5.trans s6)) ?_⟩;rw[hb];exact⟨fun q=>⟨⟨el,fun x hx=>Int.le_trans (by omega) (hl x (List.mem_append_left _ hx))⟩,q⟩,fun q=>q.2⟩
   refine⟨_,rfl,rfl,_,rfl,?_⟩;rw[ay];refine iteD (fun e=>?_) (fun e7=>?_)
   ·
    have fi:FitQ i n rs (z::zs)<->zs=[]/\ig n z:=by
     unfold FitQ;rw[if_neg e0,if_neg (by omega),if_neg (by omega),if_neg (by omega),if_neg e45,if_neg (by omega),if_pos (by omega)]
     exact⟨fun⟨y,q,h⟩=>by injection q with q1 q2;subst q1;exact⟨q2,h⟩,fun⟨q,h⟩=>⟨z,by rw[q],h⟩⟩
    rw[fi]at k;refine⟨_,rfl,A,_,rfl,.inl (SqL.of hA2.top),rfl,_,rfl,?_⟩;rw[ay,List.length_map,bl];refine iteD (fun e2=>?_) (fun e2=>k false H2 s2 ⟨(fun q=>nomatch q),fun q=>absurd (by rw[q.1];rfl) e2⟩)
    have ez:zs=[]:=List.eq_nil_of_length_eq_zero (by simp at e2;omega)
    refine⟨_,rfl,A,_,_,_,rfl,rfl,SqL.of hA2.top,hz0,p,_,rfl,.inl (SqL.of hp),_,rfl,rfl,_,rfl,?_⟩;rw[ay,ao];refine iteD (fun e3=>?_) (fun e3=>k false H2 s2 ⟨(fun q=>nomatch q),fun q=>absurd q.2.1 e3⟩);refine⟨_,rfl,A,_,_,_,rfl,rfl,SqL.of hA2.top,hz0,p,z,rfl,SqL.of hp,rfl,k _ H2 s2 ?_⟩;rw[ay,decide_eq_true_iff];exact⟨fun q=>⟨ez,e3,q⟩,fun q=>q.2.2⟩
   ·
    have fi:FitQ i n rs (z::zs)<->zs=[]/\∀x∈z,0≤x/\x < (n:Int):=by
     unfold FitQ;rw[if_neg e0,if_neg (by omega),if_neg (by omega),if_neg (by omega),if_neg e45,if_neg (by omega),if_neg (by omega)]
     exact⟨fun⟨y,q,h⟩=>by injection q with q1 q2;subst q1;exact⟨q2,h⟩,fun⟨q,h⟩=>⟨z,by rw[q],h⟩⟩
    rw[fi]at k;refine⟨_,rfl,A,_,rfl,.inl (SqL.of hA2.top),rfl,_,rfl,?_⟩;rw[ay,List.length_map,bl];refine iteD (fun e2=>?_) (fun e2=>k false H2 s2 ⟨(fun q=>nomatch q),fun q=>absurd (by rw[q.1];rfl) e2⟩)
    have ez:zs=[]:=List.eq_nil_of_length_eq_zero (by simp at e2;omega)
    refine⟨_,rfl,_,rfl,A,_,_,_,rfl,rfl,SqL.of hA2.top,hz0,(n:Int),p,z,false,rfl,hp,fun b hb=>k b H2 s2 ?_⟩;rw[hb,ie];exact⟨fun q=>⟨ez,q⟩,fun q=>q.2⟩
end
end Tw
namespace Tw
open PySem L2
section
variable {P:Program}{w:World}{K:PySem.W.Frag}{mg:Str->Option Value}{base:Heap}
def jA:Sp:=fun vs H Q _=>∃(p:Addr) (b md lim:Int),vs=[.ref p,.int b]/\LeftAt H p md lim/\lim≤500/\1≤b/\b≤100/\∀(d:Int) (H':Hp),0≤d->d < 10 ^ 38->LeftAt H' p md (lim+1)->(∀q,q≠p->H' q=H q)->Q (.int d) H'
theorem scAmt:FnScope ["_law_left_here", "_law_few"] ["_law_left_here", "_law_few"] (aa dk):=⟨rfl,rfl,rfl,by decide +kernel,rfl,by decide +kernel,by decide +kernel⟩
theorem ok_amt {f fD:Addr}{fd fdD:FuncData}(F:Def K mg "_law_amount" dk ["_law_left_here", "_law_few"] f fd)(FD:Def K mg "_law_draw" dv ["_law_left_here", "_law_base"] fD fdD)(GD:FnOk P w K mg base CX0 2 fD fdD ["_law_left_here", "_law_base"] eN)(B:Bi K mg):FnOk P w K mg base CX0 3 f fd ["_law_left_here", "_law_few"] jA:=by
 refine F.fn.ok scAmt (fun vs H Q E h=>?_) (fun cdv A outer s H vs Q E hr h=>?_)
 . obtain⟨p,b,md,lim,rfl,_⟩:=h;rfl
 . obtain⟨p,b,md,lim,rfl,lf,hl,b0,b1,k⟩:=h;have nd:=scAmt.nd;refine⟨_,(ad (b6 (ax aV (aF (ixK K) (pv 0) a3 (fun _ _=>rfl)) a3 (av _)) (ah (aB (aj GD (hr.mono (by decide)) rfl FD.mg FD.fn.kp FD.bn .nil aE (a2 (pv 0) (aL (ar e9 a3 a3) a4))))) aG)
    (ah (aB (ak (gD rfl) (by rfl) B.max PyProof.Rows.boot_max (az a3 (aL (ar bQ (aj GD (hr.mono (by decide)) rfl FD.mg FD.fn.kp FD.bn .nil aE (a2 (pv 0) (a2 (pv 1) a4))) a3) a4)))))),?_⟩
   obtain⟨x,c,e⟩:=lf.ty;refine⟨_,rfl,p,_,_,_,rfl,rfl,SqL.of e,rfl,rfl,_,rfl,?_⟩;rw[ay];refine iteD (fun _=>?_) (fun _=>?_)
   . refine⟨_,rfl,_,_,rfl,rfl,⟨by decide,by decide,by decide⟩,p,_,md,lim,rfl,lf,hl,by decide,by decide,fun d H1 d0 d1 lf1 o1=>k d H1 d0 d1 lf1 o1⟩
   . refine⟨_,rfl,_,rfl,p,b,md,lim,rfl,lf,hl,b0,by omega,fun d H1 d0 d1 lf1 o1=>⟨_,_,rfl,rfl,?_⟩⟩
     refine⟨_,_,rfl,k _ H1 ?_ ?_ lf1 o1⟩
     . split<;>omega
     . have:(100:Int) < 10 ^ 38:=by decide
       split<;>omega
def jv:Sp:=fun vs H Q _=>∃(n:Nat) (p:Addr) (b md lim:Int),vs=[.int n,.ref p,.int b]/\n≤12/\LeftAt H p md lim/\0≤lim/\lim≤100/\1≤b/\b≤100 ∧
 ∀(L:Addr) (S:List Int) (H':Hp),SameP p H H'->H L=none->L≠p->H' L=some (.lst (zV S))->S.length≤n->LeftAt H' p md (lim+24)->Q (.ref L) H'
theorem scSts:FnScope ["_law_many", "_law_left_here", "_law_share", "_law_some", "_law_k"] ["_law_many", "_law_left_here", "_law_share"] (aa dY):=⟨rfl,rfl,rfl,by decide +kernel,rfl,by decide +kernel,by decide +kernel⟩
theorem ok_sts {f fD:Addr}{fd fdD:FuncData}(F:Def K mg "_law_sites" dY ["_law_many", "_law_left_here", "_law_share"] f fd)(FD:Def K mg "_law_draw" dv ["_law_left_here", "_law_base"] fD fdD)(GD:FnOk P w K mg base CX0 2 fD fdD ["_law_left_here", "_law_base"] eN)(B:Bi K mg):FnOk P w K mg base CX0 3 f fd ["_law_many", "_law_left_here", "_law_share"] jv:=by
 refine F.fn.ok scSts (fun vs H Q E h=>?_) (fun cdv A outer s H vs Q E hr h=>?_)
 . obtain⟨n,p,b,md,lim,rfl,_⟩:=h;rfl
 . obtain⟨n,p,b,md,lim,rfl,n12,lf,l0,l1,b0,b1,k⟩:=h;have nd:=scSts.nd;refine⟨_,(ad (aQ (i:=3) nd rfl (Or.inl rfl) (aK a4))
    (ad (bV PassesOwn.never rfl (bg rfl B.range (a2 (pv 0) a4)) (bj (i:=4) nd rfl (Or.inl rfl)) (ah (b6 (ax aV (aj GD (hr.mono (by decide)) rfl FD.mg FD.fn.kp FD.bn .nil aE (a2 (pv 1) (a2 (pv 2) a4))) a3 (av _)) (ah (cu (eE PySem.F.plainAttrs_list PySem.F.slot_list_insert PySem.F.type_list_insert dH (pv 3) (a2 (aj GD (hr.mono (by decide)) rfl FD.mg FD.fn.kp FD.bn .nil aE (a2 (pv 1) (aL (ar aY (ak (lenK K) (by rfl) B.len PySem.boot_len (a2 (pv 3) a4)) a3) a4))) (a2 (pv 4) a4))))) aG)))
    (ah (aB (pv 3))))),?_⟩
   obtain⟨x,c,e⟩:=lf.ty;refine⟨by show 0≤sizeLine;exact aO (by decide),fun L hL=>?_⟩
   have nLp:L≠p:=fun h=>by rw[h,e]at hL;cases hL
   have w1:SameP p H (upd H L (.lst [])):=fun b o _ e=>ac (o:=.lst []) hL b o e;have t1:(upd H L (.lst [])) L=some (.lst (zV [])):=a9;have lf1:LeftAt (upd H L (.lst [])) p md lim:=lf.mono (ae nLp.symm) (Int.le_refl _);generalize upd H L (.lst [])=H1 at w1 t1 lf1⊢;refine⟨_,rfl,(n:Int),rfl,by omega,by omega,?_⟩
   rw[Int.toNat_natCast];refine cp (fun i σ H2=>∃(S:List Int) (v4:Option V),σ=[some (.int n),some (.ref p),some (.int b),some (.ref L),v4]/\H2 L=some (.lst (zV S))/\S.length≤i/\LeftAt H2 p md (lim+2*(i:Int))/\SameP p H H2) ⟨[],none,rfl,t1,Nat.le_refl _,lf1.mono rfl (by omega),w1⟩ ?_ ?_
   . rintro i σ H2 hi ⟨S,v4,rfl,hS,sl,lf2,w2⟩;refine⟨_,rfl,_,rfl,p,b,md,_,rfl,lf2,by omega,b0,by omega,fun d H3 d0 d1 lf3 o3=>⟨rfl,_,rfl,?_⟩⟩
     rw[ay];have hS3:H3 L=some (.lst (zV S)):=(o3 L nLp).trans hS;have w3:=w2.trans (SameP.of_eq o3);refine iteD (fun _=>?_) (fun _=>⟨S,_,rfl,hS3,by omega,lf3.mono rfl (by omega),w3⟩)
     refine⟨_,rfl,.inl ⟨rfl,_,SqL.of hS3⟩,_,rfl,_,rfl,L,_,rfl,.inl (SqL.of hS3),_,_,rfl,rfl,p,_,md,_,rfl,lf3,by omega,by rw[ao];omega,by rw[ao];omega,fun e1 H4 e10 e11 lf4 o4=>?_⟩
     rw[ao]at e11;have hS4:H4 L=some (.lst (zV S)):=(o4 L nLp).trans hS3;obtain⟨j,rfl⟩:∃j:Nat,e1=j:=⟨e1.toNat,(Int.toNat_of_nonneg e10).symm⟩;refine⟨_,rfl,L,_,j,_,rfl,rfl,hS4,by rw[ao];omega,by rw[ao];exact aR (by omega),?_⟩
     refine⟨S.take j++((0:Int)+i)::S.drop j,_,rfl,?_,?_,lf4.mono (ae nLp.symm) (by omega),fun b o nb e=>?_⟩
     . rw[a9,ik]
     . rw[(bH S j _).length_eq,List.length_cons];omega
     . have e4:=(o4 b nb).trans (w3 b o nb e);rw[ae (af e hL)];exact e4
   . rintro σ H2 ⟨S,v4,rfl,hS,sl,lf2,w2⟩;exact⟨_,rfl,k L S H2 w2 hL nLp hS sl (lf2.mono rfl (by omega))⟩
end
end Tw
namespace Tw
open PySem L2
section
variable {P:Program}{w:World}{K:PySem.W.Frag}{mg:Str->Option Value}{base:Heap}
theorem LeftAt.upd {H:Hp}{p D:Addr}{md lim:Int}{o:HO}(h:LeftAt H p md lim)(n:D≠p):LeftAt (L2.upd H D o) p md lim:=h.mono (ae n.symm) (Int.le_refl _)
theorem dB {n:Nat}{lo:Int}{te:TE}{σ:St}{H:Hp}{D p:Addr}{md lim:Int}{c:Nat}{Q:Hp->Prop}(hD:H D=none)(lf:LeftAt H p md lim)(hn:n≤100)(hs:∀(v:V) (H4:Hp) (lm:Int) (Qv:VK),LeftAt H4 p md lm->lm+c≤lim+c*n->(∀(x:Int) (H5:Hp),LeftAt H5 p md (lm+c)->(∀q,q≠p->H5 q=H4 q)->Qv (.int x) H5)->te (σ++[some v]) H4 Qv)(hq:∀(z:List Int) (H2:Hp),z.length=n->H2 D=some (.lst (zV z))->LeftAt H2 p md (lim+c*n)->SameP p H H2->Q H2):∃W:Nat->Nat->List V->Hp->Prop,(∃m,W 0 m [] (upd H D (.lst [])))/\∀i m ys H2,W i m ys H2->H2 D=some (.lst ys)/\(((Itr lo n).stop i H2/\Q H2)∨((Itr lo n).go i H2/\∃N:List V->Hp->Prop,(∀ys' H',N ys' H'->∃m',m' < m/\W (i+1) m' ys' H')/\∀y H3,(Itr lo n).yld i H2 y H3->tYes (σ++[some y]) H3 fun c H4=>if c=true then te (σ++[some y]) H4 fun z H5=>H5 D=some (.lst ys)/\ys.length < sizeLine/\N (ys++[z]) (upd H5 D (.lst (ys++[z])))else N ys H4)):=by
 obtain⟨x0,c0,e0⟩:=lf.ty;have nDp:D≠p:=fun h=>by rw[h,e0]at hD;cases hD
 refine cK (fun i ys H2=>∃z:List Int,ys=zV z/\z.length=i/\H2 D=some (.lst ys)/\LeftAt H2 p md (lim+c*i)/\SameP p H H2) (fun i ys H2 ⟨_,_,_,h,_⟩=>h) ⟨[],rfl,rfl,a9,(lf.upd nDp).mono rfl (by simp),fun b o _ e=>ac hD b o e⟩ ?_ ?_
 . rintro i ys H2 hi ⟨z,rfl,zl,h2,lf2,s2⟩;unfold tYes;dsimp only;rw[if_pos rfl];refine hs _ H2 _ _ lf2 ?_ fun x H5 lf5 o5=>?_
   . have:(c:Int)*(i+1:Nat)≤c*n:=by
      exact_mod_cast Nat.mul_le_mul_left c (show i+1≤n by omega)
     rw[Int.natCast_add,Int.mul_add]at this;simp at this⊢;omega
   . have h5:=(o5 D nDp).trans h2;refine⟨h5,by rw[ao];exact aR (by omega),z++[x],bC _ _,by rw[List.length_append,zl];rfl,a9,(lf5.upd nDp).mono rfl ?_,fun b o nb e=>?_⟩
     . rw[Int.natCast_add,Int.mul_add];simp;omega
     . rw[ae (af e hD)];exact(o5 b nb).trans (s2 b o nb e)
 . rintro ys H2 ⟨z,rfl,zl,h2,lf2,s2⟩;exact hq z H2 zl h2 lf2 s2
end
end Tw
namespace Tw
open PySem L2
open PySem.Builtin.Int (intBits)
theorem eC {H:Hp}{L r:Addr}{z:List Int}(h1:H L=some (.lst [.ref r]))(h2:H r=some (.lst (zV z))):RowsAt H L [r] [z]:=
 ⟨h1,rfl,fun i q y e1 e2=>by
  match i,e1,e2 with
  | 0,e1,e2=>simp at e1 e2;rw[←e1,←e2];exact h2
  | i+1,e1,e2=>simp at e1⟩
theorem fO {H:Hp}{L a b c:Addr}{x y z:List Int}(h1:H L=some (.lst [.ref a,.ref b,.ref c]))(ha:H a=some (.lst (zV x)))(hb:H b=some (.lst (zV y)))(hc:H c=some (.lst (zV z))):RowsAt H L [a,b,c] [x,y,z]:=
 ⟨h1,rfl,fun i q u e1 e2=>by
  match i,e1,e2 with
  | 0,e1,e2=>simp at e1 e2;rw[←e1,←e2];exact ha
  | 1,e1,e2=>simp at e1 e2;rw[←e1,←e2];exact hb
  | 2,e1,e2=>simp at e1 e2;rw[←e1,←e2];exact hc
  | i+3,e1,e2=>simp at e1⟩
theorem RowsAt.no {H:Hp}{R p:Addr}{as:List Addr}{zss:List (List Int)}(h:RowsAt H R as zss)(hp:H p=none):R≠p/\p∉as:=by
 refine⟨fun e=>?_,fun hm=>?_⟩
 . have:=h.top;rw[e,hp]at this;cases this
 obtain⟨i,hi⟩:=List.mem_iff_getElem?.mp hm;obtain⟨z,hz⟩:∃z,zss[i]? = some z:=⟨_,List.getElem?_eq_getElem (by
  have:=(List.getElem?_eq_some_iff.mp hi).1;have:=h.len;omega)⟩
 have:=h.row i p z hi hz;rw[hp]at this;cases this
theorem RowsAt.self {H:Hp}{L:Addr}{bs:List Addr}{zss:List (List Int)}(h:RowsAt H L bs zss):L∉bs:=fun hm=>by
 obtain⟨i,hi⟩:=List.mem_iff_getElem?.mp hm;obtain⟨z,hz⟩:∃z,zss[i]? = some z:=⟨_,List.getElem?_eq_getElem (by
  have:=(List.getElem?_eq_some_iff.mp hi).1;have:=h.len;omega)⟩
 have e:=h.row i L z hi hz;rw[h.top]at e;injection e with e
 injection e with e
 cases bs with
 | nil=>simp at hi
 | cons b t =>
  cases z with
  | nil=>simp[zV]at e
  | cons x y=>simp[zV]at e
theorem RowsAt.snoc {H:Hp}{L r:Addr}{bs:List Addr}{zss:List (List Int)}{z:List Int}(h:RowsAt H L bs zss)(hr:H r=some (.lst (zV z)))(n:r≠L):RowsAt (upd H L (.lst (bs.map V.ref++[V.ref r]))) L (bs++[r]) (zss++[z]):=by
 have hl:=h.len;refine⟨by rw[a9,List.map_append];rfl,by rw[List.length_append,List.length_append,hl];rfl,fun i q y e1 e2=>?_⟩
 by_cases c:i < bs.length
 . rw[List.getElem?_append_left c]at e1;rw[List.getElem?_append_left (by omega)]at e2
   have nq:q≠L:=fun e=>h.self (e▸List.mem_of_getElem? e1);rw[ae nq];exact h.row i q y e1 e2
 . rw[List.getElem?_append_right (by omega)]at e1
   rw[List.getElem?_append_right (by omega),←hl]at e2
   have z0:i - bs.length=0:=by
    have:=(List.getElem?_eq_some_iff.mp e1).1;simp at this;omega
   rw[z0]at e1 e2;simp at e1 e2;rw[←e1,←e2,ae n];exact hr
section
variable {P:Program}{w:World}{K:PySem.W.Frag}{mg:Str->Option Value}{base:Heap}
theorem comp_rowD {n:Nat}{lo:Int}{te:TE}{σ:St}{H:Hp}{D p:Addr}{md lim:Int}{c:Nat}{Q:Hp->Prop}(hD:H D=none)(lf:LeftAt H p md lim)(hn:n≤100)(hs:∀(v:V) (H4:Hp) (lm:Int) (Qv:VK),SameP p H H4->LeftAt H4 p md lm->lm+c≤lim+c*n->(∀(L:Addr) (z:List Int) (H5:Hp),SameP p H4 H5->H4 L=none->H5 L=some (.lst (zV z))->z.length≤20->LeftAt H5 p md (lm+c)->Qv (.ref L) H5)->te (σ++[some v]) H4 Qv)(hq:∀(bs:List Addr) (zss:List (List Int)) (H2:Hp),RowsAt H2 D bs zss->p∉bs->zss.length=n->(∀z∈zss,z.length≤20)->LeftAt H2 p md (lim+c*n)->SameP p H H2->Q H2):∃W:Nat->Nat->List V->Hp->Prop,(∃m,W 0 m [] (upd H D (.lst [])))/\∀i m ys H2,W i m ys H2->H2 D=some (.lst ys)/\(((Itr lo n).stop i H2/\Q H2)∨((Itr lo n).go i H2/\∃N:List V->Hp->Prop,(∀ys' H',N ys' H'->∃m',m' < m/\W (i+1) m' ys' H')/\∀y H3,(Itr lo n).yld i H2 y H3->tYes (σ++[some y]) H3 fun c H4=>if c=true then te (σ++[some y]) H4 fun z H5=>H5 D=some (.lst ys)/\ys.length < sizeLine/\N (ys++[z]) (upd H5 D (.lst (ys++[z])))else N ys H4)):=by
 obtain⟨x0,c0,e0⟩:=lf.ty;have nDp:D≠p:=fun h=>by rw[h,e0]at hD;cases hD
 refine cK (fun i ys H2=>∃(bs:List Addr) (zss:List (List Int)),ys=bs.map V.ref/\RowsAt H2 D bs zss/\p∉bs/\zss.length=i/\(∀z∈zss,z.length≤20)/\LeftAt H2 p md (lim+c*i)/\SameP p H H2) (fun i ys H2 ⟨_,_,e,h,_⟩=>by rw[e];exact h.top) ⟨[],[],rfl,⟨a9,rfl,fun i q y e=>by simp at e⟩,by simp,rfl,by simp,(lf.upd nDp).mono rfl (by simp),fun b o _ e=>ac hD b o e⟩ ?_ ?_
 . rintro i ys H2 hi ⟨bs,zss,rfl,h2,npb,zl,zz,lf2,s2⟩;unfold tYes;dsimp only;rw[if_pos rfl];refine hs _ H2 _ _ s2 lf2 ?_ fun L z H5 s5 hL hL5 zl5 lf5=>?_
   . have:(c:Int)*(i+1:Nat)≤c*n:=by
      exact_mod_cast Nat.mul_le_mul_left c (show i+1≤n by omega)
     rw[Int.natCast_add,Int.mul_add]at this;simp at this⊢;omega
   . have h5:=h2.monoP s5 nDp npb;have nLD:L≠D:=fun e=>by rw[e,h2.top]at hL;cases hL
     obtain⟨x2,c2,e2⟩:=lf2.ty;have nLp:L≠p:=fun e=>by rw[e,e2]at hL;cases hL
     refine⟨h5.top,by rw[List.length_map,h5.len];exact aR (by omega),bs++[L],zss++[z],by rw[List.map_append];rfl,h5.snoc hL5 nLD,?_,by rw[List.length_append,zl];rfl,fun y hy=>?_,(lf5.upd nDp).mono rfl ?_,fun b o nb e=>?_⟩
     . simp only[List.mem_append,List.mem_singleton,not_or];exact⟨npb,nLp.symm⟩
     . rcases List.mem_append.mp hy with h | h
       . exact zz y h
       . rw[List.mem_singleton.mp h];exact zl5
     . rw[Int.natCast_add,Int.mul_add];simp;omega
     . rw[ae (af e hD)];exact s5 b o nb (s2 b o nb e)
 . rintro ys H2 ⟨bs,zss,rfl,h2,npb,zl,zz,lf2,s2⟩;exact hq bs zss H2 h2 npb zl zz lf2 s2
theorem comp_drwL {K:PySem.W.Frag}{Y:Addr}{xs:List V}{te:TE}{σ:St}{H:Hp}{D p:Addr}{md lim:Int}{Q:Hp->Prop}(hY:H Y=some (.lst xs))(nYp:Y≠p)(hD:H D=none)(lf:LeftAt H p md lim)(hn:xs.length≤100)(hs:∀(v:V) (H4:Hp) (lm:Int) (Qv:VK),LeftAt H4 p md lm->lm+1≤lim+xs.length->(∀(x:Int) (H5:Hp),LeftAt H5 p md (lm+1)->(∀q,q≠p->H5 q=H4 q)->Qv (.int x) H5)->te (σ++[some v]) H4 Qv)(hq:∀(z:List Int) (H2:Hp),z.length=xs.length->H2 D=some (.lst (zV z))->SameP p H H2->Q H2):∃W:Nat->Nat->List V->Hp->Prop,(∃m,W 0 m [] (upd H D (.lst [])))/\∀i m ys H2,W i m ys H2->H2 D=some (.lst ys)/\(((Itl K Y).stop i H2/\Q H2)∨((Itl K Y).go i H2/\∃N:List V->Hp->Prop,(∀ys' H',N ys' H'->∃m',m' < m/\W (i+1) m' ys' H')/\∀y H3,(Itl K Y).yld i H2 y H3->tYes (σ++[some y]) H3 fun c H4=>if c=true then te (σ++[some y]) H4 fun z H5=>H5 D=some (.lst ys)/\ys.length < sizeLine/\N (ys++[z]) (upd H5 D (.lst (ys++[z])))else N ys H4)):=by
 obtain⟨x0,c0,e0⟩:=lf.ty;have nDp:D≠p:=fun h=>by rw[h,e0]at hD;cases hD
 refine cq (K:=K) (a:=Y) (xs:=xs) (fun i ys H2=>∃z:List Int,ys=zV z/\z.length=i/\H2 D=some (.lst ys)/\LeftAt H2 p md (lim+i)/\SameP p H H2) (fun i ys H2 ⟨_,_,_,h,_,s⟩=>⟨h,SqL.of (s _ _ nYp hY)⟩) ⟨[],rfl,rfl,a9,(lf.upd nDp).mono rfl (by simp),fun b o _ e=>ac hD b o e⟩ ?_ ?_
 . rintro i y ys H2 hi ⟨z,rfl,zl,h2,lf2,s2⟩;have il:=(List.getElem?_eq_some_iff.mp hi).1;unfold tYes;dsimp only;rw[if_pos rfl];refine hs _ H2 _ _ lf2 (by omega) fun x H5 lf5 o5=>?_
   have h5:=(o5 D nDp).trans h2;refine⟨h5,by rw[ao];exact aR (by omega),z++[x],bC _ _,by rw[List.length_append,zl];rfl,a9,(lf5.upd nDp).mono rfl (by omega),fun b o nb e=>?_⟩
   rw[ae (af e hD)];exact(o5 b nb).trans (s2 b o nb e)
 . rintro ys H2 ⟨z,rfl,zl,h2,lf2,s2⟩;exact hq z H2 zl h2 s2
theorem rows_cons {H:Hp}{L r:Addr}{bs:List Addr}{zss:List (List Int)}{z:List Int}(h1:H L=some (.lst ((r::bs).map V.ref)))(h2:H r=some (.lst (zV z)))(h:bs.length=zss.length)(hr:∀(i:Nat) (q:Addr) (y:List Int),bs[i]? = some q->zss[i]? = some y->H q=some (.lst (zV y))):RowsAt H L (r::bs) (z::zss):=
 ⟨h1,by simp[h],fun i q y e1 e2=>by
  cases i with
  | zero=>simp at e1 e2;rw[←e1,←e2];exact h2
  | succ i=>exact hr i q y (by simpa using e1) (by simpa using e2)⟩
theorem LeftAt.nn {H:Hp}{p:Addr}{md lim:Int}(h:LeftAt H p md lim):0≤lim:=by
 obtain⟨_,_,_,_,h1,h2⟩:=h;omega
def jz (K:PySem.W.Frag):Sp:=fun vs H Q _=>∃(i n:Nat) (R a:Addr) (as:List Addr) (rs:List Road) (ns:List Int),vs=[.int i,.int n,.ref R,.ref a]/\i < 11/\RowsAt H R as (rs.map rowI)/\Tree n rs/\SqL K H a (zV ns)/\(∀n∈ns,Bits n) ∧
 ∀(L:Addr) (bs:List Addr) (zss:List (List Int)) (H':Hp),Same H H'->RowsAt H' L bs zss->zss.length≤20->(∀z∈zss,z.length≤20)->Q (.ref L) H'
theorem scAsk:FnScope ["_law_at", "_law_many", "_law_roads", "_law_script", "_law_left_here", "_law_count", "_law_rows", "_law_k", "_law_place", "_law_sites_here", "_law_yards", "_law_gives"] ["_law_at", "_law_many", "_law_roads", "_law_script"] (aa cg):=⟨rfl,rfl,rfl,by decide +kernel,rfl,by decide +kernel,by decide +kernel⟩
theorem ok_ask {f fLE fD fAM fST fCA fLU:Addr}{fd fdLE fdD fdAM fdST fdCA fdLU:FuncData}(F:Def K mg "_law_asked" cg ["_law_at", "_law_many", "_law_roads", "_law_script"] f fd)(FLE:Def K mg "_law_left" f8 ["_law_script", "_law_k"] fLE fdLE)(FD:Def K mg "_law_draw" dv ["_law_left_here", "_law_base"] fD fdD)(FAM:Def K mg "_law_amount" dk ["_law_left_here", "_law_few"] fAM fdAM)(FST:Def K mg "_law_sites" dY ["_law_many", "_law_left_here", "_law_share"] fST fdST)(FCA:Def K mg "_law_cell_at" dO ["_law_script", "_law_k"] fCA fdCA)(FLU:Def K mg "_law_lump" dZ ["_law_many", "_law_roads", "_law_left_here"] fLU fdLU)(FM:∃fM fdM,Def K mg "_law_mix" sMix ["_law_number", "_law_k"] fM fdM)(B:Bi K mg):FnOk P w K mg base CX0 4 f fd ["_law_at", "_law_many", "_law_roads", "_law_script"] (jz K):=by
 obtain⟨fM,fdM,FM⟩:=FM;have GD:FnOk P w K mg base CX0 2 fD fdD ["_law_left_here", "_law_base"] eN:=iQ FD FM B;have GLE:FnOk P w K mg base CX0 2 fLE fdLE ["_law_script", "_law_k"] (ip K):=iP FLE FCA B;have GCA:FnOk P w K mg base CX0 1 fCA fdCA ["_law_script", "_law_k"] (fF K):=fe FCA B;have GAM:FnOk P w K mg base CX0 3 fAM fdAM ["_law_left_here", "_law_few"] jA:=ok_amt FAM FD GD B;have GST:FnOk P w K mg base CX0 3 fST fdST ["_law_many", "_law_left_here", "_law_share"] jv:=ok_sts FST FD GD B;have GLU:FnOk P w K mg base CX0 3 fLU fdLU ["_law_many", "_law_roads", "_law_left_here"] iC:=ok_llump FLU FD GD B;refine F.fn.ok scAsk (fun vs H Q E h=>?_) (fun cdv A outer s H vs Q E hr h=>?_)
 . obtain⟨i,n,R,a,as,rs,ns,rfl,_⟩:=h;rfl
 . obtain⟨i,n,R,a,as,rs,ns,rfl,hi,hR,t,hS,hb,k⟩:=h;have nd:=scAsk.nd;have n12:=t.hi;have n1:=t.lo;refine⟨_,(ad (aQ (i:=4) nd rfl (Or.inr rfl) (aj GLE (hr.mono (by decide)) rfl FLE.mg FLE.fn.kp FLE.bn .nil aE (a2 (pv 3) (aL (ar aY a3 (pv 0)) a4))))
    (ad (aQ (i:=5) nd rfl (Or.inl rfl) (aj GD (hr.mono (by decide)) rfl FD.mg FD.fn.kp FD.bn .nil aE (a2 (pv 4) (az a3 a4))))
    (ad (b6 (ax (inK K) (pv 0) (g4 (az a3 (az a3 (az a3 a4)))) rfl) (ah (aB (aK a4))) aG)
    (ad (b6 (ax aV (pv 0) a3 (av _)) (ah (aB (aK (a2 (bL (aa cg).names ["_law_at", "_law_many", "_law_roads", "_law_script", "_law_left_here", "_law_count", "_law_rows", "_law_k", "_law_place", "_law_sites_here", "_law_yards", "_law_gives"] ["_law_at", "_law_many", "_law_roads", "_law_script", "_law_left_here", "_law_count", "_law_rows", "x7", "_law_place", "_law_sites_here", "_law_yards", "_law_gives", "_law_k"] (bg rfl B.range (a2 (pv 1) a4)) (fun _ _ _ _=>bF) (fun _ _ _ _=>(aj GAM (hr.mono (by decide)) rfl FAM.mg FAM.fn.kp FAM.bn .nil aE (a2 (pv 4) (az a3 a4))))) a4)))) aG)
    (ad (b6 (ax aV (pv 0) a3 (av _)) (ad (aQ (i:=6) nd rfl (Or.inl rfl) (aK (a2 (aj GST (hr.mono (by decide)) rfl FST.mg FST.fn.kp FST.bn .nil aE (a2 (pv 1) (a2 (pv 4) (az a3 a4)))) a4)))
    (ad (bV PassesOwn.never rfl (bg rfl B.range (aL (ar aY (pv 5) (ar dG a3 (cF dM (by rfl) B.int PyProof.Rows.boot_int (a2 (aU aV (aF (ixK K) (pv 4) a3 (fun _ _=>rfl)) a3 (av _)) a4)))) a4)) (bj (i:=7) nd rfl (Or.inl rfl)) (ad (aQ (i:=8) nd rfl (Or.inl rfl) (aj GD (hr.mono (by decide)) rfl FD.mg FD.fn.kp FD.bn .nil aE (a2 (pv 4) (a2 (pv 1) a4))))
    (ah (cu (eE PySem.F.plainAttrs_list PySem.F.slot_list_append PySem.F.type_list_append dg (pv 6) (ba (aK (a2 (pv 8) (aL (ar dG (aj GAM (hr.mono (by decide)) rfl FAM.mg FAM.fn.kp FAM.bn .nil aE (a2 (pv 4) (az a3 a4))) (aF (ixK K) (aK (az a3 (aL (ar e9 a3 a3) a4))) (ar dG (ar b5 (aj GCA (hr.mono (by decide)) rfl FCA.mg FCA.fn.kp FCA.bn .nil aE (a2 (pv 3) (az a3 a4))) a3) (cF dM (by rfl) B.int PyProof.Rows.boot_int (a2 (aU aV (aF (ixK K) (pv 4) a3 (fun _ _=>rfl)) a3 (av _)) a4))) (fun _ _=>rfl))) a4))) a4))))))
    (ah (aB (pv 6))))) aG)
    (ad (b6 (ax aV (pv 0) a3 (av _)) (ad (aQ (i:=9) nd rfl (Or.inl rfl) (aj GST (hr.mono (by decide)) rfl FST.mg FST.fn.kp FST.bn .nil aE (a2 (pv 1) (a2 (pv 4) (az a3 a4)))))
    (ad (b6 (ax aV (ak (lenK K) (by rfl) B.len PySem.boot_len (a2 (pv 9) a4)) a3 (av _)) (ah (aQ (i:=9) nd rfl (Or.inl rfl) (aK (a2 (aj GD (hr.mono (by decide)) rfl FD.mg FD.fn.kp FD.bn .nil aE (a2 (pv 4) (a2 (pv 1) a4))) a4)))) aG)
    (ah (aB (aK (ba (aK (aL (ar aY a3 (aj GD (hr.mono (by decide)) rfl FD.mg FD.fn.kp FD.bn .nil aE (a2 (pv 4) (az a3 a4)))) a4)) (a2 (pv 9) (a2 (bL (aa cg).names ["_law_at", "_law_many", "_law_roads", "_law_script", "_law_left_here", "_law_count", "_law_rows", "_law_k", "_law_place", "_law_sites_here", "_law_yards", "_law_gives"] ["_law_at", "_law_many", "_law_roads", "_law_script", "_law_left_here", "_law_count", "_law_rows", "x7", "_law_place", "_law_sites_here", "_law_yards", "_law_gives", "_law_k"] (bg rfl B.range (aL (ar aY (pv 5) (ar dG a3 (cF dM (by rfl) B.int PyProof.Rows.boot_int (a2 (aU aV (aF (ixK K) (pv 4) a3 (fun _ _=>rfl)) a3 (av _)) a4)))) a4)) (fun _ _ _ _=>bF) (fun _ _ _ _=>(aj GD (hr.mono (by decide)) rfl FD.mg FD.fn.kp FD.bn .nil aE (a2 (pv 4) (a2 (pv 1) a4))))) a4)))))))) aG)
    (ad (cU (aa cg).names ["_law_at", "_law_many", "_law_roads", "_law_script", "_law_left_here", "_law_count", "_law_rows", "_law_k", "_law_place", "_law_sites_here", "_law_yards", "_law_gives"] ["_law_at", "_law_many", "_law_roads", "_law_script", "_law_left_here", "_law_count", "_law_rows", "x7", "_law_place", "_law_sites_here", "_law_yards", "_law_gives", "_law_k"] 10 nd rfl (Or.inl rfl) (bg rfl B.range (a2 (pv 5) a4)) (fun _ _ _ _=>bF) (fun _ _ _ _=>(aj GLU (hr.mono (by decide)) rfl FLU.mg FLU.fn.kp FLU.bn .nil aE (a2 (pv 1) (a2 (pv 2) (a2 (pv 4) a4))))))
    (ad (b6 (ax (inK K) (pv 0) (g4 (az a3 (az a3 a4))) rfl) (ah (aB (pv 10))) aG)
    (ad (b6 (ax aV (pv 0) a3 (av _)) (ah (aB (ar d7 (aK (a2 (bL (aa cg).names ["_law_at", "_law_many", "_law_roads", "_law_script", "_law_left_here", "_law_count", "_law_rows", "_law_k", "_law_place", "_law_sites_here", "_law_yards", "_law_gives"] ["_law_at", "_law_many", "_law_roads", "_law_script", "_law_left_here", "_law_count", "_law_rows", "_law_k", "_law_place", "_law_sites_here", "_law_yards", "_law_gives", "_law_yard"] (bd K (pv 10)) (fun _ _ _ _=>bF) (fun _ _ _ _=>(aj GAM (hr.mono (by decide)) rfl FAM.mg FAM.fn.kp FAM.bn .nil aE (a2 (pv 4) (az a3 a4))))) a4)) (pv 10)))) aG)
    (ad (b6 (ax aV (pv 0) a3 (av _)) (ad (cU (aa cg).names ["_law_at", "_law_many", "_law_roads", "_law_script", "_law_left_here", "_law_count", "_law_rows", "_law_k", "_law_place", "_law_sites_here", "_law_yards", "_law_gives"] ["_law_at", "_law_many", "_law_roads", "_law_script", "_law_left_here", "_law_count", "_law_rows", "x7", "_law_place", "_law_sites_here", "_law_yards", "_law_gives", "_law_k"] 11 nd rfl (Or.inl rfl) (bg rfl B.range (a2 (pv 1) a4)) (fun _ _ _ _=>bF) (fun _ _ _ _=>(ar bQ (aj GAM (hr.mono (by decide)) rfl FAM.mg FAM.fn.kp FAM.bn .nil aE (a2 (pv 4) (az a3 a4))) (aj GAM (hr.mono (by decide)) rfl FAM.mg FAM.fn.kp FAM.bn .nil aE (a2 (pv 4) (az a3 a4))))))
    (ad (eQ (ar bQ (aF (ixK K) (pv 11) (ar bQ (pv 1) a3) (fun _ _=>rfl)) (ak (sumK K rfl) (by rfl) B.sum PyProof.Rows.boot_sum (a2 (pv 11) a4))) (fY (pv 11) (ar bQ (pv 1) a3) du))
    (ah (aB (aK (a2 (pv 11) a4)))))) aG)
    (ah (aB (aK (a2 (bL (aa cg).names ["_law_at", "_law_many", "_law_roads", "_law_script", "_law_left_here", "_law_count", "_law_rows", "_law_k", "_law_place", "_law_sites_here", "_law_yards", "_law_gives"] ["_law_at", "_law_many", "_law_roads", "_law_script", "_law_left_here", "_law_count", "_law_rows", "x7", "_law_place", "_law_sites_here", "_law_yards", "_law_gives", "_law_k"] (bg rfl B.range (aL (ar aY (pv 5) (ar dG a3 (cF dM (by rfl) B.int PyProof.Rows.boot_int (a2 (aU aV (aF (ixK K) (pv 4) a3 (fun _ _=>rfl)) a3 (av _)) a4)))) a4)) (fun _ _ _ _=>bF) (fun _ _ _ _=>(aj GD (hr.mono (by decide)) rfl FD.mg FD.fn.kp FD.bn .nil aE (a2 (pv 4) (a2 (pv 1) a4))))) a4)))))))))))))),?_⟩
   refine⟨_,rfl,_,rfl,_,_,rfl,rfl,a,ns,14+i,(by rw[Int.natCast_add];rfl),hS,hb,fun p md H1 hp lf1 s1=>?_⟩
   obtain⟨nRp,npa⟩:=hR.no hp;refine⟨_,rfl,p,5,md,0,rfl,lf1,by decide,by decide,by decide,fun cnt H2 c0 c1 lf2 o2=>?_⟩
   have s2:SameP p H H2:=fun b o nb e=>(o2 b nb).trans (s1 b o e);have toS:∀{H':Hp},SameP p H H'->Same H H':=fun s b o e=>s b o (af e hp) e;obtain⟨cn,rfl⟩:∃cn:Nat,cnt=cn:=⟨cnt.toNat,(Int.toNat_of_nonneg c0).symm⟩;have cn4:cn≤4:=by omega
   clear c0 c1 o2 s1 lf1;refine⟨_,rfl,(by show 3≤sizeLine;exact aO (by decide)),fun T1 hT1=>?_⟩
   have nT1:T1≠p:=fun e=>by obtain⟨x,c,q⟩:=lf2.ty;rw[e,q]at hT1;cases hT1
   have s3:SameP p H (upd H2 T1 (.tup [V.int 0,V.int 8,V.int 9])):=s2.trans fun b o _ e=>ac hT1 b o e;have lf3:LeftAt (upd H2 T1 (.tup [V.int 0,V.int 8,V.int 9])) p md (0+1):=lf2.upd nT1;refine⟨T1,_,rfl,.inr (SqT.of a9),rfl,rfl,_,rfl,?_⟩;generalize upd H2 T1 (.tup [V.int 0,V.int 8,V.int 9])=H3 at s3 lf3⊢;clear hT1 s2 lf2;refine iteB (b:=inV (V.int (i:Int)) (zV [0,8,9])) (fun e=>?_) (fun e=>?_)
   . refine⟨by show 0≤sizeLine;exact aO (by decide),fun L hL=>k L [] [] _ (toS (s3.trans fun b o _ e=>ac hL b o e)) ⟨a9,rfl,fun i q y e=>by simp at e⟩ (by simp) (by simp)⟩
   refine⟨_,rfl,rfl,_,rfl,?_⟩;rw[ay];refine iteD (fun e=>?_) (fun e1=>?_)
   ·
    refine⟨_,rfl,(n:Int),rfl,by omega,by omega,fun D hD=>?_⟩
    rw[Int.toNat_natCast];refine dB (c:=1) hD lf3 (by omega) (fun v H4 lm Qv lf4 hlm kk=>?_) fun z H4 zl hz lf4 s4=>?_
    . refine⟨_,rfl,p,9,md,lm,rfl,lf4,by omega,by decide,by decide,fun d H5 _ _ lf5 o5=>kk d H5 lf5 o5⟩
    . refine⟨by show 1≤sizeLine;exact aO (by decide),fun L hL=>k L [D] [z] _ (toS (s3.trans (s4.trans fun b o _ e=>ac hL b o e))) (eC a9 (ac hL _ _ hz)) (by simp) (by simp;omega)⟩
   refine⟨_,rfl,rfl,_,rfl,?_⟩;rw[ay];refine iteD (fun e=>?_) (fun e2=>?_)
   ·
    refine⟨_,rfl,_,rfl,n,p,2,md,0+1,rfl,n12,lf3,by decide,by decide,by decide,by decide,fun S0 S H4 s4 hS0 nS0 hS4 sl lf4=>?_⟩
    refine⟨by show 1≤sizeLine;exact aO (by decide),fun L hL=>?_⟩
    obtain⟨x,c,eP⟩:=lf4.ty;have nLp:L≠p:=fun e=>by rw[e,eP]at hL;cases hL
    have t5:(upd H4 L (.lst [V.ref S0])) L=some (.lst ([S0].map V.ref)):=a9;have s5:SameP p H (upd H4 L (.lst [V.ref S0])):=s3.trans (s4.trans fun b o _ e=>ac hL b o e);have lf5:LeftAt (upd H4 L (.lst [V.ref S0])) p md (0+1+24):=lf4.upd nLp;have r5:(upd H4 L (.lst [V.ref S0])) S0=some (.lst (zV S)):=ac hL _ _ hS4;have l0:H L=none:=by
     cases e:H L with
     | none=>rfl
     | some o=>have:=s4 L o nLp (s3 L o nLp e);rw[hL]at this;cases this
    generalize upd H4 L (.lst [V.ref S0])=H5 at t5 s5 lf5 r5⊢;obtain⟨x,c,eP⟩:=lf5.ty;refine⟨_,rfl,_,rfl,p,_,_,_,rfl,rfl,SqL.of eP,rfl,rfl,.inr ⟨_,rfl,_,_,rfl,rfl,CMul.ok (.inl ⟨by decide,by decide⟩),_,_,rfl,rfl,_,rfl,?_,?_,?_⟩⟩
    . split<;>omega
    . split<;>omega
    obtain⟨m,em⟩:∃m:Nat,((cn:Int)+2*(if decide (V.int md=V.int 0)=true then 1 else 0)).toNat=m:=⟨_,rfl⟩
    have m6:m≤6:=by
     rw[←em];split<;>omega
    rw[em];clear em;refine cp (fun j σ H6=>∃(bs:List Addr) (zss:List (List Int)) (v7 v8:Option V),σ=[some (.int i),some (.int n),some (.ref R),some (.ref a),some (.ref p),some (.int cn),some (.ref L),v7,v8,none,none,none]/\RowsAt H6 L bs zss/\p∉bs/\zss.length=j+1/\(∀z∈zss,z.length≤20)/\LeftAt H6 p md (25+2*(j:Int))/\SameP p H H6) ⟨[S0],[S],none,none,rfl,eC t5 r5,by simp;exact nS0.symm,rfl,by simp;omega,lf5.mono rfl (by omega),s5⟩ ?_ ?_
    . rintro j σ H6 hj ⟨bs,zss,v7,v8,rfl,hL6,npb,zl,zz,lf6,s6⟩;refine⟨_,rfl,_,rfl,p,n,md,_,rfl,lf6,by omega,by omega,by omega,fun d H7 d0 d1 lf7 o7=>?_⟩
      have hL7:=hL6.monoP (SameP.of_eq o7) nLp npb;have s7:=s6.trans (SameP.of_eq o7);refine⟨_,rfl,.inl ⟨rfl,_,SqL.of hL7.top⟩,_,rfl,_,rfl,p,24,md,_,rfl,lf7,by omega,by decide,by decide,fun am H8 am0 am1 lf8 o8=>?_⟩
      have hL8:=hL7.monoP (SameP.of_eq o8) nLp npb;have s8:=s7.trans (SameP.of_eq o8);refine⟨_,_,rfl,rfl,⟨by decide,by decide,by decide⟩,by show 2≤sizeLine;exact aO (by decide),fun T hT=>?_⟩
      obtain⟨x8,c8,eP8⟩:=lf8.ty;have nTp:T≠p:=fun e=>by rw[e,eP8]at hT;cases hT
      have sT:=ac (o:=.lst [V.int 1,V.int (10 ^ (30:Int).toNat)]) hT;have tT:(upd H8 T (.lst [V.int 1,V.int (10 ^ (30:Int).toNat)])) T=some (.lst [V.int 1,V.int (10 ^ (30:Int).toNat)]):=a9;have lf9:LeftAt (upd H8 T (.lst [V.int 1,V.int (10 ^ (30:Int).toNat)])) p md _:=lf8.upd nTp;have hL9:=hL8.mono sT;have s9:SameP p H (upd H8 T (.lst [V.int 1,V.int (10 ^ (30:Int).toNat)])):=s8.trans fun b o _ e=>sT b o e;generalize upd H8 T (.lst [V.int 1,V.int (10 ^ (30:Int).toNat)])=H9 at tT lf9 hL9 s9 sT⊢;obtain⟨x9,c9,eP9⟩:=lf9.ty;have ce0:=Int.emod_nonneg (ns.getD 2 0) (show(2:Int)≠0 by decide)
      have ce1:=Int.emod_lt_of_pos (ns.getD 2 0) (show(0:Int) < 2 by decide)
      refine⟨_,rfl,a,ns,2,rfl,(toS s9).seq hS,_,_,rfl,rfl,(by show(0:Int) < 2;decide),_,rfl,p,_,_,_,rfl,rfl,SqL.of eP9,rfl,rfl,.inr ⟨_,rfl,_,_,rfl,rfl,CMul.ok (.inl ⟨by omega,by omega⟩),?_⟩⟩
      obtain⟨ix,eix⟩:∃ix:Int,ns.getD 2 0 % 2*(if decide (V.int md=V.int 0)=true then 1 else 0)=ix:=⟨_,rfl⟩
      have ix01:0≤ix/\ix < 2:=by
       rw[←eix];split<;>omega
      obtain⟨v,hv,hs,hat,_⟩:=cj (K:=K) tT (i:=ix) ix01.1 (by show ix < 2;exact ix01.2)
      refine⟨T,_,ix,v,rfl,congrArg V.int eix,hs,hat,?_⟩;obtain⟨y,rfl,hy⟩:∃y:Int,v=V.int y/\intBits y≤200:=by
       simp only[List.mem_cons,List.not_mem_nil,or_false]at hv;rcases hv with rfl | rfl
       . exact⟨1,rfl,by decide⟩
       . exact⟨_,rfl,by decide⟩
      have hab:intBits am≤200:=PyProof.Rows.bits_of_natAbs_le (b:=10 ^ 38) (by omega) (by decide)
      refine⟨_,_,rfl,rfl,hX hab hy (by decide),by show 2≤sizeLine;exact aO (by decide),fun r hr2=>?_⟩
      have nrp:r≠p:=fun e=>by rw[e,eP9]at hr2;cases hr2
      have nrL:r≠L:=fun e=>by rw[e,hL9.top]at hr2;cases hr2
      have sr:=ac (o:=.lst [V.int d,V.int (am*y)]) hr2;have tr:(upd H9 r (.lst [V.int d,V.int (am*y)])) r=some (.lst (zV [d,am*y])):=a9;have lfr:LeftAt (upd H9 r (.lst [V.int d,V.int (am*y)])) p md _:=lf9.upd nrp;have hLr:=hL9.mono sr;have s10:SameP p H (upd H9 r (.lst [V.int d,V.int (am*y)])):=s9.trans fun b o _ e=>sr b o e;refine⟨L,_,_,rfl,rfl,hLr.top,by rw[List.length_map,hLr.len,zl];exact aR (by omega),?_⟩
      refine⟨bs++[r],zss++[[d,am*y]],_,_,rfl,hLr.snoc tr nrL,?_,by rw[List.length_append,zl];rfl,fun z hz=>?_,(lfr.upd nLp).mono rfl (by omega),fun b o nb e=>?_⟩
      . simp only[List.mem_append,List.mem_singleton,not_or];exact⟨npb,nrp.symm⟩
      . rcases List.mem_append.mp hz with h | h
        . exact zz z h
        . rw[List.mem_singleton.mp h];show 2≤20;decide
      . rw[ae (af e l0)];exact s10 b o nb e
    . rintro σ H6 ⟨bs,zss,v7,v8,rfl,hL6,npb,zl,zz,lf6,s6⟩;exact⟨_,rfl,k L bs zss H6 (toS s6) hL6 (by omega) zz⟩
   refine⟨_,rfl,rfl,_,rfl,?_⟩;rw[ay];refine iteD (fun e=>?_) (fun e3=>?_)
   ·
    refine⟨_,rfl,_,rfl,n,p,2,md,0+1,rfl,n12,lf3,by decide,by decide,by decide,by decide,fun S0 S H4 s4 hS0 nS0 hS4 sl lf4=>?_⟩
    have s4':=s3.trans s4;refine⟨_,rfl,S0,_,rfl,.inl (SqL.of hS4),rfl,_,rfl,?_⟩;rw[ay,ao];have sl12:S.length≤12:=by omega
    clear sl hS0;refine iteD (fun e=>?_) (fun e=>?_)
    . refine⟨_,rfl,_,rfl,p,n,md,_,rfl,lf4,by omega,by omega,by omega,fun d5 H5 _ _ lf5 o5=>⟨by show 1≤sizeLine;exact aO (by decide),fun S1 hS1=>?_⟩⟩
      obtain⟨x5,c5,eP5⟩:=lf5.ty;have nS1:S1≠p:=fun e=>by rw[e,eP5]at hS1;cases hS1
      have q4:SameP p H (upd H5 S1 (.lst [V.int d5])):=s4'.trans ((SameP.of_eq o5).trans fun b o _ e=>ac hS1 b o e);have q5:(upd H5 S1 (.lst [V.int d5])) S1=some (.lst (zV [d5])):=a9;have q6:LeftAt (upd H5 S1 (.lst [V.int d5])) p md (0+1+25):=(lf5.upd nS1).mono rfl (by omega)
      have q7:[d5].length≤12:=by show 1≤12;decide
      generalize upd H5 S1 (.lst [V.int d5])=H4' at q4 q5 q6⊢;refine⟨_,rfl,p,4,md,_,rfl,q6,by omega,by decide,by decide,fun d6 H6 _ _ lf6 o6=>⟨_,_,rfl,rfl,by show 1≤sizeLine;exact aO (by decide),fun T6 hT6=>?_⟩⟩
      obtain⟨x6,c6,eP6⟩:=lf6.ty;have nT6:T6≠p:=fun e=>by rw[e,eP6]at hT6;cases hT6
      have s7:SameP p H4' (upd H6 T6 (.lst [V.int (1+d6)])):=(SameP.of_eq o6).trans fun b o _ e=>ac hT6 b o e;have t7:(upd H6 T6 (.lst [V.int (1+d6)])) T6=some (.lst (zV [1+d6])):=a9;have lf7:LeftAt (upd H6 T6 (.lst [V.int (1+d6)])) p md _:=lf6.upd nT6;generalize upd H6 T6 (.lst [V.int (1+d6)])=H7 at s7 t7 lf7⊢;obtain⟨x7,c7,eP7⟩:=lf7.ty;refine⟨_,rfl,_,rfl,_,rfl,p,_,_,_,rfl,rfl,SqL.of eP7,rfl,rfl,.inr ⟨_,rfl,_,_,rfl,rfl,CMul.ok (.inl ⟨by decide,by decide⟩),_,_,rfl,rfl,_,rfl,?_,?_,fun D hD=>?_⟩⟩
      . split<;>omega
      . split<;>omega
      obtain⟨m,em⟩:∃m:Nat,((cn:Int)+2*(if decide (V.int md=V.int 0)=true then 1 else 0)).toNat=m:=⟨_,rfl⟩
      have m6:m≤6:=by
       rw[←em];split<;>omega
      rw[em];refine dB (c:=1) hD lf7 (by omega) (fun v H8 lm Qv lf8 hlm kk=>?_) fun z H8 zl8 hz8 lf8 s8=>?_
      . exact⟨_,rfl,_,rfl,p,n,md,lm,rfl,lf8,by omega,by omega,by omega,fun d H9 _ _ lf9 o9=>kk d H9 lf9 o9⟩
      . refine⟨by show 3≤sizeLine;exact aO (by decide),fun L hL=>?_⟩
        have sL:=ac (o:=.lst [V.ref T6,V.ref S1,V.ref D]) hL;refine k L [T6,S1,D] [[1+d6],[d5],z] _ (toS (q4.trans (s7.trans (s8.trans fun b o _ e=>sL b o e)))) (fO a9 (sL _ _ (s8 _ _ nT6 t7)) (sL _ _ (s8 _ _ nS1 (s7 _ _ nS1 q5))) (sL _ _ hz8)) (by show 3≤20;decide) (fun u hu=>?_)
        simp only[List.mem_cons,List.not_mem_nil,or_false]at hu;rcases hu with rfl | rfl | rfl
        . show 1≤20;decide
        . omega
        . omega
    ·
     refine⟨_,rfl,p,4,md,_,rfl,lf4,by omega,by decide,by decide,fun d6 H6 _ _ lf6 o6=>⟨_,_,rfl,rfl,by show 1≤sizeLine;exact aO (by decide),fun T6 hT6=>?_⟩⟩
     obtain⟨x6,c6,eP6⟩:=lf6.ty;have nT6:T6≠p:=fun e=>by rw[e,eP6]at hT6;cases hT6
     have s7:SameP p H4 (upd H6 T6 (.lst [V.int (1+d6)])):=(SameP.of_eq o6).trans fun b o _ e=>ac hT6 b o e;have t7:(upd H6 T6 (.lst [V.int (1+d6)])) T6=some (.lst (zV [1+d6])):=a9;have lf7:LeftAt (upd H6 T6 (.lst [V.int (1+d6)])) p md _:=lf6.upd nT6;generalize upd H6 T6 (.lst [V.int (1+d6)])=H7 at s7 t7 lf7⊢;obtain⟨x7,c7,eP7⟩:=lf7.ty;refine⟨_,rfl,_,rfl,_,rfl,p,_,_,_,rfl,rfl,SqL.of eP7,rfl,rfl,.inr ⟨_,rfl,_,_,rfl,rfl,CMul.ok (.inl ⟨by decide,by decide⟩),_,_,rfl,rfl,_,rfl,?_,?_,fun D hD=>?_⟩⟩
     . split<;>omega
     . split<;>omega
     obtain⟨m,em⟩:∃m:Nat,((cn:Int)+2*(if decide (V.int md=V.int 0)=true then 1 else 0)).toNat=m:=⟨_,rfl⟩
     have m6:m≤6:=by
      rw[←em];split<;>omega
     rw[em];refine dB (c:=1) hD lf7 (by omega) (fun v H8 lm Qv lf8 hlm kk=>?_) fun z H8 zl8 hz8 lf8 s8=>?_
     . exact⟨_,rfl,_,rfl,p,n,md,lm,rfl,lf8,by omega,by omega,by omega,fun d H9 _ _ lf9 o9=>kk d H9 lf9 o9⟩
     . refine⟨by show 3≤sizeLine;exact aO (by decide),fun L hL=>?_⟩
       have sL:=ac (o:=.lst [V.ref T6,V.ref S0,V.ref D]) hL;refine k L [T6,S0,D] [[1+d6],S,z] _ (toS (s4'.trans (s7.trans (s8.trans fun b o _ e=>sL b o e)))) (fO a9 (sL _ _ (s8 _ _ nT6 t7)) (sL _ _ (s8 _ _ nS0 (s7 _ _ nS0 hS4))) (sL _ _ hz8)) (by show 3≤20;decide) (fun u hu=>?_)
       simp only[List.mem_cons,List.not_mem_nil,or_false]at hu;rcases hu with rfl | rfl | rfl
       . show 1≤20;decide
       . omega
       . omega
   refine⟨_,rfl,(cn:Int),rfl,by omega,by omega,fun D hD=>?_⟩
   rw[Int.toNat_natCast];obtain⟨f',m⟩:=t.met;refine comp_rowD (c:=14) hD lf3 (by omega) (fun v H4 lm Qv s4 lf4 hlm kk=>?_) fun bs zss H4 hR4 npb zl zz lf4 s4=>?_
   . refine⟨_,rfl,_,rfl,_,rfl,n,R,p,as,rs,f',md,lm,rfl,hR.monoP (s3.trans s4) nRp npa,t,m,lf4,lf4.nn,by omega,nRp,npa,fun L S H5 s5 hL hL5 _ snd srg lf5=>kk L S H5 s5 hL hL5 ?_ lf5⟩
     have:=snd.length_le_of_subset srg;rw[bY]at this;omega
   obtain⟨x4,c4,eP4⟩:=lf4.ty;have nDp:D≠p:=fun e=>by
    obtain⟨x,c,q⟩:=lf3.ty;rw[e,q]at hD;cases hD
   refine⟨_,rfl,(by show 2≤sizeLine;exact aO (by decide)),fun T2 hT2=>?_⟩
   have nT2:T2≠p:=fun e=>by rw[e,eP4]at hT2;cases hT2
   have u2:=ac (o:=.tup [V.int 4,V.int 5]) hT2;have s5:SameP p H (upd H4 T2 (.tup [V.int 4,V.int 5])):=s3.trans (s4.trans fun b o _ e=>u2 b o e);have lf5:LeftAt (upd H4 T2 (.tup [V.int 4,V.int 5])) p md _:=lf4.upd nT2;have hR5:=hR4.mono u2;refine⟨T2,_,rfl,.inr (SqT.of a9),rfl,rfl,_,rfl,?_⟩;generalize upd H4 T2 (.tup [V.int 4,V.int 5])=H5 at s5 lf5 hR5⊢;clear hT2 lf4 hR4 s4 lf3 s3 eP4 u2;refine iteB (b:=inV (V.int (i:Int)) (zV [4,5])) (fun e=>⟨_,rfl,k D bs zss H5 (toS s5) hR5 (by omega) zz⟩) (fun e=>?_)
   refine⟨_,rfl,rfl,_,rfl,?_⟩;rw[ay];refine iteD (fun e=>?_) (fun e6=>?_)
   ·
    refine⟨_,rfl,D,rfl,⟨_,SqL.of hR5.top⟩,fun E1 hE1=>?_⟩;refine comp_drwL hR5.top nDp hE1 lf5 (by rw[List.length_map,hR5.len];omega) (fun v H6 lm Qv lf6 hlm kk=>?_) fun z H6 zl6 hz6 s6=>?_
    . rw[List.length_map,hR5.len]at hlm;exact⟨_,rfl,p,9,md,lm,rfl,lf6,by omega,by decide,by decide,fun d H7 _ _ lf7 o7=>kk d H7 lf7 o7⟩
    . refine⟨by show 1≤sizeLine;exact aO (by decide),fun L1 hL1=>?_⟩
      have w1:=ac (o:=.lst [V.ref E1]) hL1;have t1:(upd H6 L1 (.lst [V.ref E1])) L1=some (.lst [V.ref E1]):=a9;have hR6:=hR5.monoP s6 nDp npb;have hR7:=hR6.mono w1;have z7:=w1 _ _ hz6;have s7:SameP p H (upd H6 L1 (.lst [V.ref E1])):=s5.trans (s6.trans fun b o _ e=>w1 b o e);generalize upd H6 L1 (.lst [V.ref E1])=H7 at t1 hR7 z7 s7⊢;have bl:=hR7.len;refine⟨_,rfl,L1,D,_,_,rfl,rfl,t1,hR7.top,(by rw[List.length_map,bl,zl];show 1+_≤_;exact Nat.le_trans (Nat.add_le_add_left cn4 1) (by decide)),fun L hL=>?_⟩
      have w2:=ac (o:=.lst ([V.ref E1]++bs.map V.ref)) hL;refine k L (E1::bs) (z::zss) _ (toS (s7.trans fun b o _ e=>w2 b o e)) (rows_cons a9 (w2 _ _ z7) bl fun i q y e1 e2=>w2 _ _ (hR7.row i q y e1 e2)) (by simp;omega) (fun y hy=>?_)
      rcases List.mem_cons.mp hy with h | h
      . rw[h,zl6,List.length_map,hR5.len];omega
      . exact zz y h
   refine⟨_,rfl,rfl,_,rfl,?_⟩;rw[ay];refine iteD (fun e=>?_) (fun e7=>?_)
   ·
    refine⟨_,rfl,(n:Int),rfl,by omega,by omega,fun E1 hE1=>?_⟩
    rw[Int.toNat_natCast];refine dB (c:=2) hE1 lf5 (by omega) (fun v H6 lm Qv lf6 hlm kk=>?_) fun z H6 zl6 hz6 lf6 s6=>?_
    . refine⟨_,rfl,p,9,md,lm,rfl,lf6,by omega,by decide,by decide,fun d H7 _ _ lf7 o7=>⟨_,rfl,p,9,md,lm+1,rfl,lf7,by omega,by decide,by decide,fun d2 H8 _ _ lf8 o8=>⟨_,_,rfl,rfl,kk _ H8 (lf8.mono rfl (by omega)) fun q nq=>(o8 q nq).trans (o7 q nq)⟩⟩⟩
    . have lst:z[(n - 1)]? = some (z.getD (n - 1) 0):=by
       rw[List.getD_eq_getElem?_getD,List.getElem?_eq_getElem (by omega)];rfl
      have ei:(n:Int) - 1=((n - 1:Nat):Int):=by omega
      have at1:atI (zV z) ((n:Int) - 1)=some (V.int (z.getD (n - 1) 0)):=by rw[ei];exact cw (di lst)
      refine⟨_,rfl,_,rfl,_,_,rfl,rfl,E1,_,_,_,rfl,rfl,SqL.of hz6,at1,_,rfl,E1,z,rfl,SqL.of hz6,_,_,rfl,rfl,?_⟩;have ij:ixN (zV z).length ((n:Int) - 1)=some (n - 1):=by
       unfold ixN;rw[ao,zl6,if_pos (by omega),if_pos (by omega)]
       congr 1
       omega
      refine⟨_,rfl,_,rfl,_,_,rfl,rfl,E1,_,_,n - 1,rfl,rfl,hz6,ij,?_⟩;refine⟨_,rfl,by show 1≤sizeLine;exact aO (by decide),fun L hL=>?_⟩
      obtain⟨g,eg⟩:∃g:Int,z.getD (n - 1) 0 - z.sum=g:=⟨_,rfl⟩;have z9:(upd H6 E1 (.lst ((zV z).set (n - 1) (V.int g)))) E1=some (.lst (zV (z.set (n - 1) g))):=by
       rw[a9];unfold zV;rw[List.map_set]
      have w2:=ac (o:=.lst [V.ref E1]) hL;refine k L [E1] [z.set (n - 1) g] _ (toS fun b o nb e=>?_) (eC a9 ?_) (by simp) (by simp;omega)
      . subst eg;exact w2 _ _ (by rw[ae (af (s5 b o nb e) hE1)];exact s6 b o nb (s5 b o nb e))
      . subst eg;exact w2 _ _ z9
   ·
    obtain⟨x7,c7,eP7⟩:=lf5.ty;refine⟨_,rfl,_,rfl,p,_,_,_,rfl,rfl,SqL.of eP7,rfl,rfl,.inr ⟨_,rfl,_,_,rfl,rfl,CMul.ok (.inl ⟨by decide,by decide⟩),_,_,rfl,rfl,_,rfl,?_,?_,fun D2 hD2=>?_⟩⟩
    . split<;>omega
    . split<;>omega
    obtain⟨m,em⟩:∃m:Nat,((cn:Int)+2*(if decide (V.int md=V.int 0)=true then 1 else 0)).toNat=m:=⟨_,rfl⟩
    have m6:m≤6:=by
     rw[←em];split<;>omega
    rw[em];refine dB (c:=1) hD2 lf5 (by omega) (fun v H8 lm Qv lf8 hlm kk=>?_) fun z H8 zl8 hz8 lf8 s8=>?_
    . exact⟨_,rfl,_,rfl,p,n,md,lm,rfl,lf8,by omega,by omega,by omega,fun d H9 _ _ lf9 o9=>kk d H9 lf9 o9⟩
    . refine⟨by show 1≤sizeLine;exact aO (by decide),fun L hL=>k L [D2] [z] _ (toS (s5.trans (s8.trans fun b o _ e=>ac hL b o e))) (eC a9 (ac hL _ _ hz8)) (by simp) (by simp;omega)⟩
end
end Tw
namespace L2
open PySem PySem.Spec PyProof.Rows
section
variable {X:Cx}
end
end L2
namespace Tw
open PySem L2
open PySem.Builtin.Int (intBits)
section
variable {P:Program}{w:World}{K:PySem.W.Frag}{mg:Str->Option Value}{base:Heap}
def RwAt (H:Hp)(as:List Addr)(zss:List (List Int)):Prop:=as.length=zss.length/\∀(i:Nat) (p:Addr) (z:List Int),as[i]? = some p->zss[i]? = some z->H p=some (.lst (zV z))
theorem RwAt.app {H:Hp}{as bs:List Addr}{zss zs:List (List Int)}(h1:RwAt H as zss)(h2:RwAt H bs zs):RwAt H (as++bs) (zss++zs):=by
 refine⟨by rw[List.length_append,List.length_append,h1.1,h2.1],fun i p z e1 e2=>?_⟩
 by_cases c:i < as.length
 . rw[List.getElem?_append_left c]at e1;rw[List.getElem?_append_left (by rw[←h1.1];exact c)]at e2
   exact h1.2 i p z e1 e2
 . rw[List.getElem?_append_right (by omega)]at e1
   rw[List.getElem?_append_right (by rw[←h1.1];omega),←h1.1]at e2
   exact h2.2 _ p z e1 e2
theorem RwAt.take {H:Hp}{as:List Addr}{zss:List (List Int)}(h:RwAt H as zss)(j:Nat):RwAt H (as.take j) (zss.take j):=by
 refine⟨by rw[List.length_take,List.length_take,h.1],fun i p z e1 e2=>?_⟩
 rw[List.getElem?_take]at e1 e2
 split at e1
 . rename_i c;rw[if_pos c]at e2;exact h.2 i p z e1 e2
 . cases e1
theorem RwAt.drop {H:Hp}{as:List Addr}{zss:List (List Int)}(h:RwAt H as zss)(j:Nat):RwAt H (as.drop j) (zss.drop j):=by
 refine⟨by rw[List.length_drop,List.length_drop,h.1],fun i p z e1 e2=>?_⟩
 rw[List.getElem?_drop]at e1 e2;exact h.2 _ p z e1 e2
theorem RwAt.mono {H H':Hp}{as:List Addr}{zss:List (List Int)}(h:RwAt H as zss)(s:Same H H'):RwAt H' as zss:=⟨h.1,fun i p z e1 e2=>s _ _ (h.2 i p z e1 e2)⟩
theorem RwAt.one {H:Hp}{p:Addr}{z:List Int}(h:H p=some (.lst (zV z))):RwAt H [p] [z]:=⟨rfl,fun i q y e1 e2=>by
 match i,e1,e2 with
 | 0,e1,e2 =>
  have e1:p=q:=by simpa using e1
  have e2:z=y:=by simpa using e2
  subst e1;subst e2;exact h⟩
theorem iz {xs:List V}{j:Nat}(h:j≤xs.length):cutV xs none (some (j:Int))=xs.take j:=by
 unfold cutV;rw[HT.sIx_none,HT.sIx_nat,Nat.min_eq_left h,Nat.sub_zero,List.drop_zero]
theorem g9 {xs:List V}{j:Nat}(h:j≤xs.length):cutV xs (some (j:Int)) none=xs.drop j:=by
 unfold cutV;rw[HT.sIx_none,HT.sIx_nat,Nat.min_eq_left h,List.take_of_length_le (by rw[List.length_drop];exact Nat.le_refl _)]
end
end Tw
namespace Tw
open PySem L2
open PySem.Builtin.Int (intBits)
theorem dt {n:Nat}(h:n≤4000):n≤sizeLine:=Nat.le_trans h (by decide)
theorem js (z:List Int)(lo hi:Option Int):∃ls:List Int,cutV (zV z) lo hi=zV ls/\ls.length≤z.length:=by
 unfold cutV;unfold zV;rw[←List.map_drop,←List.map_take];refine⟨_,rfl,?_⟩;rw[List.length_take,List.length_drop];omega
theorem if_or {t u:TT}{a r:TS}{D:Ends}{σ:St}{H:Hp}{b1 b2:Bool}(h1:∀Q:Bool->Hp->Prop,Q b1 H->t σ H Q)(h2:∀Q:Bool->Hp->Prop,Q b2 H->u σ H Q)(hY:(b1||b2)=true->a { D with nx:=r D } σ H)(hN:b1=false->b2=false->r D σ H):tSeq (tIfS (tOr t u) a jt) r D σ H:=by
 refine h1 _ ?_;cases b1 with
 | true=>exact hY rfl
 | false =>
  refine h2 _ ?_;cases b2 with
  | true=>exact hY rfl
  | false=>exact hN rfl rfl
theorem nx_go2 {t:TS}{D:Ends}{rt:VK}{bk ct:St->Hp->Prop}{σ:St}{H:Hp}(h:t D σ H):(Ends.mk (t D) rt bk ct).nx σ H:=h
theorem gset_go2 {i:Nat}{v:V}{σ σ0:St}{H:Hp}{Q:St->Hp->Prop}(e:σ.set i (some v)=σ0)(h:Q σ0 H):jk i v σ H Q:=by subst e;exact h
theorem gQ {X:Cx}{a:Int}{j:Nat}{p q:Pos}:PE X (.List [.Constant (.int a) j p] q) (tLst (bZ (tC (.int a)) tNil)):=aK (az a3 a4)
def eR82 (a b c:Int)(j1 j2 j3:Nat)(p1 p2 p3 p4 p5 p6 p7 p8 p9 q1 q2 q3:Pos):Expr:=.List [.List [] p1,.List [.List [] p2] p3,.List [.List [.Constant (.int a) j1 p4] p5] p6,.List [.List [.Constant (.int b) j2 p7] p8,.List [.Constant (.int c) j3 p9] q1] q2] q3
def tR82 (a b c:Int):TE:=tLst (bZ (tLst tNil) (bZ (tLst (bZ (tLst tNil) tNil)) (bZ (tLst (bZ (tLst (bZ (tC (.int a)) tNil)) tNil)) (bZ (tLst (bZ (tLst (bZ (tC (.int b)) tNil)) (bZ (tLst (bZ (tC (.int c)) tNil)) tNil))) tNil))))
theorem pe_rows82 {X:Cx}{a b c:Int}{j1 j2 j3:Nat}{p1 p2 p3 p4 p5 p6 p7 p8 p9 q1 q2 q3:Pos}:PE X (eR82 a b c j1 j2 j3 p1 p2 p3 p4 p5 p6 p7 p8 p9 q1 q2 q3) (tR82 a b c):=by
 refine aK ?_;refine ba ?_ ?_
 . refine aK ?_;exact a4
 refine ba ?_ ?_
 . refine aK ?_;refine ba ?_ ?_
   . refine aK ?_;exact a4
   . exact a4
 refine ba ?_ ?_
 . refine aK ?_;refine ba ?_ ?_
   . exact gQ
   . exact a4
 refine ba ?_ ?_
 . refine aK ?_;refine ba ?_ ?_
   . exact gQ
   refine ba ?_ ?_
   . exact gQ
   . exact a4
 exact a4
theorem ps_retL {X:Cx}{K:PySem.W.Frag}(hK:X.K=K){LST idx:Expr}{tb tl:TE}{ps pr:Pos}(hL:PE X LST tl)(h1:PE X idx tb)(hpl:iY idx):PSs X [.Return (some (.Subscript LST idx ps)) pr] (tRet (tOp (rIxL K) tl tb)):=
 ah (aB (aF (ixK K hK) hL h1 hpl))
section
variable {P:Program}{w:World}{K:PySem.W.Frag}{mg:Str->Option Value}{base:Heap}
def Part (H:Hp)(q:Addr):Prop:=∃(rf:List Addr) (zs:List (List Int)),H q=some (.lst (rf.map V.ref))/\RwAt H rf zs/\(∀z∈zs,z.length≤25)/\zs.length≤2
theorem Part.mono {H H':Hp}{q:Addr}(h:Part H q)(s:Same H H'):Part H' q:=by
 obtain⟨rf,zs,h1,h2,h3⟩:=h;exact⟨rf,zs,s _ _ h1,h2.mono s,h3⟩
theorem Part.nil {H:Hp}{q:Addr}(h:H q=some (.lst [])):Part H q:=⟨[],[],h,⟨rfl,fun i p z e=>by simp at e⟩,(fun z hz=>nomatch hz),by decide⟩
theorem Part.one {H:Hp}{q p:Addr}{z:List Int}(h:H q=some (.lst [V.ref p]))(hp:H p=some (.lst (zV z)))(hf:z.length≤25):Part H q:=⟨[p],[z],h,RwAt.one hp,fun y hy=>by rw[List.mem_singleton.mp hy];exact hf,by show 1≤2;decide⟩
theorem Part.two {H:Hp}{q p p':Addr}{z z':List Int}(h:H q=some (.lst [V.ref p,V.ref p']))(hp:H p=some (.lst (zV z)))(hp':H p'=some (.lst (zV z')))(hf:z.length≤25)(hf':z'.length≤25):Part H q:=⟨[p,p'],[z,z'],h,(RwAt.one hp).app (RwAt.one hp'),fun y hy=>by
 simp only[List.cons_append,List.nil_append,List.mem_cons,List.not_mem_nil,or_false]at hy;rcases hy with rfl | rfl
 . exact hf
 . exact hf',by show 2≤2;decide⟩
def jy:Sp:=fun vs H Q _=>∃(n:Nat) (A:Addr) (bs:List Addr) (zss:List (List Int)) (c:Int),vs=[.ref A,.int n,.int c]/\1≤n/\n≤12/\RowsAt H A bs zss/\zss.length≤20/\(∀z∈zss,z.length≤20)/\intBits c≤2 ^ 21 ∧
 ∀(L:Addr) (bs':List Addr) (zss':List (List Int)) (H':Hp),Same H H'->RowsAt H' L bs' zss'->zss'.length≤50->(∀z∈zss',z.length≤50)->Q (.ref L) H'
theorem scBnt:FnScope ["_law_rows", "_law_many", "_law_cell", "_law_choice", "_law_at", "_law_row", "_law_some", "_law_place", "_law_far_off", "_law_numbers", "_law_changed"] ["_law_rows", "_law_many", "_law_cell"] (aa fL):=⟨rfl,rfl,rfl,by decide +kernel,rfl,by decide +kernel,by decide +kernel⟩
theorem ok_bnt {f fM:Addr}{fd fdM:FuncData}(F:Def K mg "_law_bent" fL ["_law_rows", "_law_many", "_law_cell"] f fd)(FM:Def K mg "_law_mix" sMix ["_law_number", "_law_k"] fM fdM)(B:Bi K mg):FnOk P w K mg base CX0 2 f fd ["_law_rows", "_law_many", "_law_cell"] jy:=by
 have GM:FnOk P w K mg base CX0 1 fM fdM ["_law_number", "_law_k"] fw:=eR FM;refine F.fn.ok scBnt (fun vs H Q E h=>?_) (fun cdv A outer s H vs Q E hr h=>?_)
 . obtain⟨n,A,bs,zss,c,rfl,_⟩:=h;rfl
 . obtain⟨n,A,bs,zss,c,rfl,n1,n2,hA,zl,zz,hc,k⟩:=h;have nd:=scBnt.nd;have hc':intBits c≤2 ^ 21:=hc;have bl:=hA.len;refine' ⟨_,(ad (aQ (i:=3) nd rfl (Or.inl rfl) (ar b5 (aj GM (hr.mono (by decide)) rfl FM.mg FM.fn.kp FM.bn .nil aE (a2 (pv 2) (az a3 a4))) a3))
    (ad (b6 (ax aV (ak (lenK K) (by rfl) B.len PySem.boot_len (a2 (pv 0) a4)) a3 (av _)) ?ret aG)
    (ad (aQ (i:=4) nd rfl (Or.inl rfl) (ar b5 (aj GM (hr.mono (by decide)) rfl FM.mg FM.fn.kp FM.bn .nil aE (a2 (pv 2) (az a3 a4))) (ak (lenK K) (by rfl) B.len PySem.boot_len (a2 (pv 0) a4))))
    (ad (aQ (i:=5) nd rfl (Or.inl rfl) (aF (ixK K) (pv 0) (pv 4) (fun _ _=>rfl)))
    (ad (b6 (PW.pt (bN (ax dP (pv 3) a3 (av _)) (ci (ax aV (ak (lenK K) (by rfl) B.len PySem.boot_len (a2 (pv 5) a4)) a3 (av _))))) (ad (aQ (i:=6) nd rfl (Or.inl rfl) (aK (ba (aK a4) (ba (aK (a2 (pv 5) (a2 (pv 5) a4))) (ba (aK (a2 (pv 5) (ba (aK a4) a4))) (ba (aK (ba (aK a4) a4)) (ba (aK (aL (ar d7 (pv 5) (aK (az a3 a4))) a4)) (ba (aK (aJ (be (slK K) (pv 5) (bu a3) bv) a4)) (ba (aK (a2 (pv 5) (aJ (be (slK K) (pv 5) bv (bu a3)) a4))) a4)))))))))
    (ah (aB (ar d7 (ar d7 (be (slK K) (pv 0) bv (bu (pv 4))) (aF (ixK K) (pv 6) (ar b5 (pv 3) a3) (fun _ _=>rfl))) (be (slK K) (pv 0) (bu (ar aY (pv 4) a3)) bv))))) aG)
    (ad (b6 (ax gp (pv 3) a3 (av _)) (ah (aB (pv 0))) aG)
    (ad (aQ (i:=7) nd rfl (Or.inl rfl) (ar b5 (aj GM (hr.mono (by decide)) rfl FM.mg FM.fn.kp FM.bn .nil aE (a2 (pv 2) (az a3 a4))) (ak (lenK K) (by rfl) B.len PySem.boot_len (a2 (pv 5) a4))))
    (ad (aQ (i:=8) nd rfl (Or.inl rfl) (ar b5 (ar cV (pv 2) a3) (ar e9 a3 a3)))
    (ad (aQ (i:=9) nd rfl (Or.inl rfl) (aK (a2 (jd im a3) (a2 (pv 1) (aL (ar b5 (aj GM (hr.mono (by decide)) rfl FM.mg FM.fn.kp FM.bn .nil aE (a2 (pv 2) (az a3 a4))) (pv 1)) (az a3 (aL (ar aY (aF (ixK K) (pv 5) (pv 7) (fun _ _=>rfl)) a3) (aL (ar aY (pv 1) (pv 8)) (aL (ar bQ (jd im a3) (pv 8)) a4)))))))))
    (ad (aQ (i:=10) nd rfl (Or.inl rfl) (ar d7 (ar d7 (be (slK K) (pv 5) bv (bu (pv 7))) (aK (aJ (aF (ixK K) (pv 9) (ar bQ (pv 3) a3) (fun _ _=>rfl)) a4))) (be (slK K) (pv 5) (bu (ar aY (pv 7) a3)) bv)))
    (ah (aB (ar d7 (ar d7 (be (slK K) (pv 0) bv (bu (pv 4))) (aK (a2 (pv 10) a4))) (be (slK K) (pv 0) (bu (ar aY (pv 4) a3)) bv)))))))))))))),?rest⟩
   case ret=>exact @ps_retL _ K rfl (eR82 0 0 0 0 0 0 ⟨755,16,755,18⟩ ⟨755,21,755,23⟩ ⟨755,20,755,24⟩ ⟨755,28,755,29⟩ ⟨755,27,755,30⟩ ⟨755,26,755,31⟩ ⟨755,35,755,36⟩ ⟨755,34,755,37⟩ ⟨755,40,755,41⟩ ⟨755,39,755,42⟩ ⟨755,33,755,43⟩ ⟨755,15,755,44⟩) _ _ (tR82 0 0 0) ⟨755,15,755,59⟩ ⟨755,8,755,59⟩ pe_rows82 (ar b5 (pv 2) a3) (fun _ _=>rfl)
   refine⟨_,rfl,c,30,rfl,hc',by decide,by decide,_,_,rfl,rfl,(by show(0:Int) < 16;decide),?_⟩
   have ch0:=Int.emod_nonneg (mixF c 30) (show(16:Int)≠0 by decide)
   have ch1:=Int.emod_lt_of_pos (mixF c 30) (show(0:Int) < 16 by decide)
   refine⟨_,rfl,A,_,rfl,.inl (SqL.of hA.top),rfl,_,rfl,?_⟩;rw[ay,List.length_map,bl];refine iteD (fun e=>?_) (fun e0=>?_)
   . refine⟨by show 0≤sizeLine;exact aO (by decide),fun Q0 hQ0=>?_⟩
     have w0:=ac (o:=.lst []) hQ0;have q0:(upd H Q0 (.lst [])) Q0=some (.lst []):=a9;generalize upd H Q0 (.lst [])=H0 at w0 q0⊢;refine⟨by show 0≤sizeLine;exact aO (by decide),fun N1 hN1=>?_⟩
     have w1:=ac (o:=.lst []) hN1;have m1:(upd H0 N1 (.lst [])) N1=some (.lst (zV [])):=a9;generalize upd H0 N1 (.lst [])=H1 at w1 m1⊢;refine⟨by show 1≤sizeLine;exact aO (by decide),fun Q1 hQ1=>?_⟩
     have w2:=ac (o:=.lst [V.ref N1]) hQ1;have q1:(upd H1 Q1 (.lst [V.ref N1])) Q1=some (.lst [V.ref N1]):=a9;generalize upd H1 Q1 (.lst [V.ref N1])=H2 at w2 q1⊢;refine⟨by show 1≤sizeLine;exact aO (by decide),fun N2 hN2=>?_⟩
     have w3:=ac (o:=.lst [V.int 0]) hN2;have m2:(upd H2 N2 (.lst [V.int 0])) N2=some (.lst (zV [0])):=a9;generalize upd H2 N2 (.lst [V.int 0])=H3 at w3 m2⊢;refine⟨by show 1≤sizeLine;exact aO (by decide),fun Q2 hQ2=>?_⟩
     have w4:=ac (o:=.lst [V.ref N2]) hQ2;have q2:(upd H3 Q2 (.lst [V.ref N2])) Q2=some (.lst [V.ref N2]):=a9;generalize upd H3 Q2 (.lst [V.ref N2])=H4 at w4 q2⊢;refine⟨by show 1≤sizeLine;exact aO (by decide),fun N3 hN3=>?_⟩
     have w5:=ac (o:=.lst [V.int 0]) hN3;have m3:(upd H4 N3 (.lst [V.int 0])) N3=some (.lst (zV [0])):=a9;generalize upd H4 N3 (.lst [V.int 0])=H5 at w5 m3⊢;refine⟨by show 1≤sizeLine;exact aO (by decide),fun N4 hN4=>?_⟩
     have w6:=ac (o:=.lst [V.int 0]) hN4;have m4:(upd H5 N4 (.lst [V.int 0])) N4=some (.lst (zV [0])):=a9;generalize upd H5 N4 (.lst [V.int 0])=H6 at w6 m4⊢;refine⟨by show 2≤sizeLine;exact aO (by decide),fun Q3 hQ3=>?_⟩
     have w7:=ac (o:=.lst [V.ref N3,V.ref N4]) hQ3;have q3:(upd H6 Q3 (.lst [V.ref N3,V.ref N4])) Q3=some (.lst [V.ref N3,V.ref N4]):=a9;generalize upd H6 Q3 (.lst [V.ref N3,V.ref N4])=H7 at w7 q3⊢;refine⟨by show 4≤sizeLine;exact aO (by decide),fun Z hZ=>?_⟩
     have w8:=ac (o:=.lst [V.ref Q0,V.ref Q1,V.ref Q2,V.ref Q3]) hZ;have uZ:(upd H7 Z (.lst [V.ref Q0,V.ref Q1,V.ref Q2,V.ref Q3])) Z=some (.lst ([Q0,Q1,Q2,Q3].map V.ref)):=a9;generalize upd H7 Z (.lst [V.ref Q0,V.ref Q1,V.ref Q2,V.ref Q3])=H8 at w8 uZ⊢;have s28:Same H2 H8:=((((w3.trans w4).trans w5).trans w6).trans w7).trans w8;have s48:Same H4 H8:=((w5.trans w6).trans w7).trans w8;have s0:Same H H8:=((w0.trans w1).trans w2).trans s28;have parts:∀q∈[Q0,Q1,Q2,Q3],Part H8 q:=by
      intro q hq;simp only[List.mem_cons,List.not_mem_nil,or_false]at hq;rcases hq with rfl | rfl | rfl | rfl
      . exact(Part.nil q0).mono ((w1.trans w2).trans s28)
      . exact(Part.one q1 (w2 _ _ m1) (by show 0≤25;decide)).mono s28
      . exact(Part.one q2 (w4 _ _ m2) (by show 1≤25;decide)).mono s48
      . exact(Part.two q3 (w7 _ _ (w6 _ _ m3)) (w7 _ _ m4) (by show 1≤25;decide) (by show 1≤25;decide)).mono w8
     have c0:=Int.emod_nonneg c (show(4:Int)≠0 by decide)
     have c1:=Int.emod_lt_of_pos c (show(0:Int) < 4 by decide)
     obtain⟨v,hv,sq,atv,_⟩:=cj (K:=K) uZ c0 (by rw[List.length_map];show c % 4 < 4;omega)
     obtain⟨q,hq,rfl⟩:=List.mem_map.mp hv;obtain⟨rf,zs,hq8,rw8,fzs,lzs⟩:=parts q hq;refine⟨_,rfl,_,_,rfl,rfl,(by show(0:Int) < 4;decide),Z,_,_,_,rfl,rfl,sq,atv,?_⟩
     exact k q rf zs H8 s0 ⟨hq8,rw8.1,rw8.2⟩ (by omega) (fun z hz=>by have:=fzs z hz;omega)
   have zp:1≤zss.length:=by
    rcases Nat.eq_zero_or_pos zss.length with h | h
    . exact absurd (by rw[h];rfl) e0
    . exact h
   refine⟨_,rfl,c,31,rfl,hc',by decide,by decide,_,rfl,A,_,rfl,.inl (SqL.of hA.top),_,_,rfl,rfl,(by show(0:Int) < ((bs.map V.ref).length:Nat);rw[List.length_map];omega),?_⟩
   dsimp only;rw[List.length_map,bl];have at0:=Int.emod_nonneg (mixF c 31) (show(zss.length:Int)≠0 by omega)
   have at1:=Int.emod_lt_of_pos (mixF c 31) (show(0:Int) < zss.length by omega)
   generalize mixF c 31 % (zss.length:Int)=ai at at0 at1⊢;obtain⟨j,rfl⟩:∃j:Nat,ai=(j:Int):=⟨ai.toNat,by omega⟩
   have hj:j < zss.length:=by omega
   obtain⟨p,hp⟩:∃p,bs[j]? = some p:=⟨bs[j]'(by omega),List.getElem?_eq_getElem _⟩
   obtain⟨z,ez⟩:∃z,zss[j]? = some z:=⟨zss[j],List.getElem?_eq_getElem _⟩;have hrow:=hA.row j p z hp ez;have z20:=zz z (List.mem_of_getElem? ez);have ra:RwAt H bs zss:=⟨hA.len,hA.row⟩;have tk:(bs.take j).length=j:=by rw[List.length_take];omega
   refine⟨_,rfl,_,rfl,A,_,_,_,rfl,rfl,SqL.of hA.top,cw (dm hp),?_⟩;refine gset_go2 rfl ?_;refine nx_go2 ?_;refine if_or (b1:=decide ((mixF c 30 % 16) < 7)) (b2:=decide (z.length=0)) (fun Q1 h1=>⟨_,rfl,_,_,rfl,rfl,_,rfl,h1⟩) (fun Q1 h1=>⟨_,rfl,p,_,rfl,.inl (SqL.of hrow),rfl,_,rfl,?_⟩) (fun _=>?_) (fun g1 g2=>?_)
   . rw[ay,ao,show decide ((z.length:Int)=0)=decide (z.length=0)from by simp]
     exact h1
   . refine⟨by show 0≤sizeLine;exact aO (by decide),fun Q0 hQ0=>?_⟩
     have w0:=ac (o:=.lst []) hQ0;have q0:(upd H Q0 (.lst [])) Q0=some (.lst []):=a9;generalize upd H Q0 (.lst [])=H0 at w0 q0⊢;refine⟨_,rfl,_,rfl,by show 2≤sizeLine;exact aO (by decide),fun Q1 hQ1=>?_⟩
     have w1:=ac (o:=.lst [V.ref p,V.ref p]) hQ1;have q1:(upd H0 Q1 (.lst [V.ref p,V.ref p])) Q1=some (.lst [V.ref p,V.ref p]):=a9;generalize upd H0 Q1 (.lst [V.ref p,V.ref p])=H1 at w1 q1⊢;have h1:=(w0.trans w1) _ _ hrow;refine⟨_,rfl,by show 0≤sizeLine;exact aO (by decide),fun N2 hN2=>?_⟩
     have w2:=ac (o:=.lst []) hN2;have m2:(upd H1 N2 (.lst [])) N2=some (.lst (zV [])):=a9;generalize upd H1 N2 (.lst [])=H2 at w2 m2⊢;refine⟨by show 2≤sizeLine;exact aO (by decide),fun Q2 hQ2=>?_⟩
     have w3:=ac (o:=.lst [V.ref p,V.ref N2]) hQ2;have q2:(upd H2 Q2 (.lst [V.ref p,V.ref N2])) Q2=some (.lst [V.ref p,V.ref N2]):=a9;generalize upd H2 Q2 (.lst [V.ref p,V.ref N2])=H3 at w3 q2⊢;have h3:=w3 _ _ (w2 _ _ h1);refine⟨by show 0≤sizeLine;exact aO (by decide),fun N3 hN3=>?_⟩
     have w4:=ac (o:=.lst []) hN3;have m3:(upd H3 N3 (.lst [])) N3=some (.lst (zV [])):=a9;generalize upd H3 N3 (.lst [])=H4 at w4 m3⊢;refine⟨by show 1≤sizeLine;exact aO (by decide),fun Q3 hQ3=>?_⟩
     have w5:=ac (o:=.lst [V.ref N3]) hQ3;have q3:(upd H4 Q3 (.lst [V.ref N3])) Q3=some (.lst [V.ref N3]):=a9;generalize upd H4 Q3 (.lst [V.ref N3])=H5 at w5 q3⊢;have h5:=w5 _ _ (w4 _ _ h3);refine⟨_,rfl,by show 1≤sizeLine;exact aO (by decide),fun X4 hX4=>?_⟩
     have w6:=ac (o:=.lst [V.int 0]) hX4;have x4:(upd H5 X4 (.lst [V.int 0])) X4=some (.lst [V.int 0]):=a9;generalize upd H5 X4 (.lst [V.int 0])=H6 at w6 x4⊢;have h6:=w6 _ _ h5;refine⟨p,X4,_,_,rfl,rfl,h6,x4,by rw[ao];exact dt (by show z.length+1≤_;omega),fun N4 hN4=>?_⟩
     rw[bC];have w7:=ac (o:=.lst (zV (z++[0]))) hN4;have m4:(upd H6 N4 (.lst (zV (z++[0])))) N4=some (.lst (zV (z++[0]))):=a9;generalize upd H6 N4 (.lst (zV (z++[0])))=H7 at w7 m4⊢;refine⟨by show 1≤sizeLine;exact aO (by decide),fun Q4 hQ4=>?_⟩
     have w8:=ac (o:=.lst [V.ref N4]) hQ4;have q4:(upd H7 Q4 (.lst [V.ref N4])) Q4=some (.lst [V.ref N4]):=a9;generalize upd H7 Q4 (.lst [V.ref N4])=H8 at w8 q4⊢;have h8:=w8 _ _ (w7 _ _ h6);obtain⟨za,ea,la⟩:=js z (some 1) none;refine⟨_,rfl,_,rfl,p,_,rfl,SqL.of h8,fun N5 hN5=>?_⟩;rw[ea];have w9:=ac (o:=.lst (zV za)) hN5;have m5:(upd H8 N5 (.lst (zV za))) N5=some (.lst (zV za)):=a9;generalize upd H8 N5 (.lst (zV za))=H9 at w9 m5⊢;refine⟨by show 1≤sizeLine;exact aO (by decide),fun Q5 hQ5=>?_⟩
     have wA:=ac (o:=.lst [V.ref N5]) hQ5;have q5:(upd H9 Q5 (.lst [V.ref N5])) Q5=some (.lst [V.ref N5]):=a9;generalize upd H9 Q5 (.lst [V.ref N5])=HA at wA q5⊢;have hA':=wA _ _ (w9 _ _ h8);obtain⟨zb,eb,lb⟩:=js z none (some 1);refine⟨_,rfl,_,rfl,_,rfl,p,_,rfl,SqL.of hA',fun N6 hN6=>?_⟩;rw[eb];have wB:=ac (o:=.lst (zV zb)) hN6;have m6:(upd HA N6 (.lst (zV zb))) N6=some (.lst (zV zb)):=a9;generalize upd HA N6 (.lst (zV zb))=HB at wB m6⊢;refine⟨by show 2≤sizeLine;exact aO (by decide),fun Q6 hQ6=>?_⟩
     have wC:=ac (o:=.lst [V.ref p,V.ref N6]) hQ6;have q6:(upd HB Q6 (.lst [V.ref p,V.ref N6])) Q6=some (.lst [V.ref p,V.ref N6]):=a9;generalize upd HB Q6 (.lst [V.ref p,V.ref N6])=HC at wC q6⊢;have hC':=wC _ _ (wB _ _ hA');refine⟨by show 7≤sizeLine;exact aO (by decide),fun Z hZ=>?_⟩
     have wD:=ac (o:=.lst [V.ref Q0,V.ref Q1,V.ref Q2,V.ref Q3,V.ref Q4,V.ref Q5,V.ref Q6]) hZ;have uZ:(upd HC Z (.lst [V.ref Q0,V.ref Q1,V.ref Q2,V.ref Q3,V.ref Q4,V.ref Q5,V.ref Q6])) Z=some (.lst ([Q0,Q1,Q2,Q3,Q4,Q5,Q6].map V.ref)):=a9;generalize upd HC Z (.lst [V.ref Q0,V.ref Q1,V.ref Q2,V.ref Q3,V.ref Q4,V.ref Q5,V.ref Q6])=HD at wD uZ⊢;have sAD:Same HA HD:=(wB.trans wC).trans wD;have s8D:Same H8 HD:=(w9.trans wA).trans sAD;have s5D:Same H5 HD:=((w6.trans w7).trans w8).trans s8D;have s3D:Same H3 HD:=(w4.trans w5).trans s5D;have s1D:Same H1 HD:=(w2.trans w3).trans s3D;have s0D:Same H HD:=(w0.trans w1).trans s1D;have z25:z.length≤25:=by omega
     have parts:∀q∈[Q0,Q1,Q2,Q3,Q4,Q5,Q6],Part HD q:=by
      intro q hq;simp only[List.mem_cons,List.not_mem_nil,or_false]at hq;rcases hq with rfl | rfl | rfl | rfl | rfl | rfl | rfl
      . exact(Part.nil q0).mono (w1.trans s1D)
      . exact(Part.two q1 h1 h1 z25 z25).mono s1D
      . exact(Part.two q2 h3 (w3 _ _ m2) z25 (by show 0≤25;decide)).mono s3D
      . exact(Part.one q3 (w5 _ _ m3) (by show 0≤25;decide)).mono s5D
      . exact(Part.one q4 (w8 _ _ m4) (by rw[List.length_append];show z.length+1≤25;omega)).mono s8D
      . exact(Part.one q5 (wA _ _ m5) (by omega)).mono sAD
      . exact(Part.two q6 hC' (wC _ _ m6) z25 (by omega)).mono wD
     have c0:=Int.emod_nonneg (mixF c 30 % 16) (show(7:Int)≠0 by decide)
     have c1:=Int.emod_lt_of_pos (mixF c 30 % 16) (show(0:Int) < 7 by decide)
     obtain⟨v,hv,sq,atv,_⟩:=cj (K:=K) uZ c0 (by rw[List.length_map];show(mixF c 30 % 16) % 7 < 7;omega)
     obtain⟨q,hq,rfl⟩:=List.mem_map.mp hv;obtain⟨rf,zs,hqD,rwD,fzs,lzs⟩:=parts q hq;clear hv sq parts q0 q1 q2 q3 q4 q5 q6 m2 m3 m4 m5 m6 x4 h1 h3 h5 h6 h8 hA' hC' s1D s3D s5D s8D sAD w0 w1 w2 w3 w4 w5 w6 w7 w8 w9 wA wB wC wD;refine⟨_,rfl,_,rfl,_,rfl,A,_,rfl,SqL.of (s0D _ _ hA.top),fun Y1 hY1=>?_⟩;rw[iz (show j≤(bs.map V.ref).length by rw[List.length_map];omega),←List.map_take]
     have wB:=ac (o:=.lst ((bs.take j).map V.ref)) hY1;have y1:(upd HD Y1 (.lst ((bs.take j).map V.ref))) Y1=some (.lst ((bs.take j).map V.ref)):=a9;generalize upd HD Y1 (.lst ((bs.take j).map V.ref))=HE at wB y1⊢;refine⟨_,rfl,_,rfl,_,_,rfl,rfl,(by show(0:Int) < 7;decide),Z,_,_,_,rfl,rfl,SqL.of (wB _ _ uZ),atv,?_⟩
     have hqE:=wB _ _ hqD;have rwE:=rwD.mono wB;have rl:=rwE.1;refine⟨Y1,q,_,_,rfl,rfl,y1,hqE,by rw[List.length_map,List.length_map,tk];exact dt (by omega),fun Y2 hY2=>?_⟩
     rw[←List.map_append];have wC:=ac (o:=.lst ((bs.take j++rf).map V.ref)) hY2;have y2:(upd HE Y2 (.lst ((bs.take j++rf).map V.ref))) Y2=some (.lst ((bs.take j++rf).map V.ref)):=a9;generalize upd HE Y2 (.lst ((bs.take j++rf).map V.ref))=HF at wC y2⊢;have s0F:=(s0D.trans wB).trans wC;refine⟨_,rfl,_,rfl,_,_,rfl,rfl,_,rfl,A,_,rfl,SqL.of (s0F _ _ hA.top),fun Y3 hY3=>?_⟩;rw[show((j:Int)+1)=((j+1:Nat):Int)from rfl,g9 (show j+1≤(bs.map V.ref).length by rw[List.length_map];omega),←List.map_drop]
     have wD:=ac (o:=.lst ((bs.drop (j+1)).map V.ref)) hY3;have y3:(upd HF Y3 (.lst ((bs.drop (j+1)).map V.ref))) Y3=some (.lst ((bs.drop (j+1)).map V.ref)):=a9;generalize upd HF Y3 (.lst ((bs.drop (j+1)).map V.ref))=HG at wD y3⊢;refine⟨Y2,Y3,_,_,rfl,rfl,wD _ _ y2,y3,by rw[List.length_map,List.length_map,List.length_append,tk,List.length_drop];exact dt (by omega),fun Y4 hY4=>?_⟩
     rw[←List.map_append];have wE:=ac (o:=.lst ((bs.take j++rf++bs.drop (j+1)).map V.ref)) hY4;have s0G:=(s0F.trans wD).trans wE;have rE:=(((ra.take j).mono s0G).app (rwE.mono ((wC.trans wD).trans wE))).app ((ra.drop (j+1)).mono s0G);refine k Y4 _ (zss.take j++zs++zss.drop (j+1)) _ s0G ⟨a9,rE.1,rE.2⟩ ?_ fun y hy=>?_
     . rw[List.length_append,List.length_append,List.length_take,List.length_drop];omega
     . rcases List.mem_append.mp hy with hy | hy
       . rcases List.mem_append.mp hy with hy | hy
         . have:=zz y (List.mem_of_mem_take hy);omega
         . have:=fzs y hy;omega
       . have:=zz y (List.mem_of_mem_drop hy);omega
   have g1':¬(mixF c 30 % 16) < 7:=of_decide_eq_false g1;have zp0:z.length≠0:=of_decide_eq_false g2;refine⟨_,rfl,_,_,rfl,rfl,_,rfl,?_⟩;refine iteD (fun g3=>?_) (fun g3=>?_)
   . exact⟨_,rfl,k A bs zss H (Same.refl _) hA (by omega) (fun y hy=>by have:=zz y hy;omega)⟩
   refine⟨_,rfl,c,32,rfl,hc',by decide,by decide,_,rfl,p,_,rfl,.inl (SqL.of hrow),_,_,rfl,rfl,(by show(0:Int) < ((zV z).length:Nat);rw[ao];omega),?_⟩
   dsimp only;rw[ao];have pt0:=Int.emod_nonneg (mixF c 32) (show(z.length:Int)≠0 by omega)
   have pt1:=Int.emod_lt_of_pos (mixF c 32) (show(0:Int) < z.length by omega)
   generalize mixF c 32 % (z.length:Int)=pi at pt0 pt1⊢;obtain⟨i,rfl⟩:∃i:Nat,pi=(i:Int):=⟨pi.toNat,by omega⟩
   obtain⟨x,hx⟩:∃x,z[i]? = some x:=⟨z[i]'(by omega),List.getElem?_eq_getElem _⟩
   refine⟨_,rfl,_,_,rfl,rfl,⟨by decide,by decide⟩,_,_,rfl,rfl,⟨by decide,by decide,by decide⟩,_,_,rfl,rfl,(by show(0:Int) < 10 ^ 39;decide),?_⟩
   refine⟨_,rfl,_,rfl,_,rfl,c,33,rfl,hc',by decide,by decide,_,rfl,_,_,rfl,rfl,(by show(0:Int) < (n:Int);omega),_,rfl,_,rfl,p,_,_,_,rfl,rfl,SqL.of hrow,cw (di hx),_,_,rfl,rfl,_,rfl,_,rfl,_,_,rfl,rfl,_,rfl,_,rfl,_,_,rfl,rfl,?_⟩
   refine⟨by show 7≤sizeLine;exact aO (by decide),fun Z hZ=>?_⟩
   obtain⟨xs,exs,xl⟩:∃xs:List Int,[V.int (-1),V.int n,V.int (mixF c 33 % n),V.int 0,V.int (x+1),V.int (n+c / 3 % 10 ^ Int.toNat 39),V.int (-1 - c / 3 % 10 ^ Int.toNat 39)]=zV xs/\xs.length=7:=⟨[-1,n,mixF c 33 % n,0,x+1,n+c / 3 % 10 ^ Int.toNat 39,-1 - c / 3 % 10 ^ Int.toNat 39],rfl,rfl⟩;rw[exs];have wZ:=ac (o:=.lst (zV xs)) hZ;have uZ:(upd H Z (.lst (zV xs))) Z=some (.lst (zV xs)):=a9;generalize upd H Z (.lst (zV xs))=H1 at wZ uZ⊢;obtain⟨v,hv,_,atv,_⟩:=cj (K:=K) uZ (i:=(mixF c 30 % 16) - 7) (by omega) (by rw[ao,xl];show(mixF c 30 % 16) - 7 < 7;omega)
   obtain⟨y,hy,rfl⟩:=List.mem_map.mp hv;have hrow1:=wZ _ _ hrow;refine⟨_,rfl,_,rfl,_,rfl,p,_,rfl,SqL.of hrow1,fun Y1 hY1=>?_⟩;rw[iz (show i≤(zV z).length by rw[ao];omega)]
   have et:(zV z).take i=zV (z.take i):=by unfold zV;rw[List.map_take]
   rw[et];have w2:=ac (o:=.lst (zV (z.take i))) hY1;have y1:(upd H1 Y1 (.lst (zV (z.take i)))) Y1=some (.lst (zV (z.take i))):=a9;generalize upd H1 Y1 (.lst (zV (z.take i)))=H2 at w2 y1⊢;refine⟨_,rfl,_,rfl,_,_,rfl,rfl,Z,_,_,_,rfl,rfl,SqL.of (w2 _ _ uZ),atv,by show 1≤sizeLine;exact aO (by decide),fun Y2 hY2=>?_⟩
   have w3:=ac (o:=.lst [V.int y]) hY2;have y2:(upd H2 Y2 (.lst [V.int y])) Y2=some (.lst [V.int y]):=a9;generalize upd H2 Y2 (.lst [V.int y])=H3 at w3 y2⊢;have ti:(z.take i).length=i:=by rw[List.length_take];omega
   refine⟨Y1,Y2,_,_,rfl,rfl,w3 _ _ y1,y2,by rw[ao,ti];exact dt (by show i+1≤_;omega),fun Y3 hY3=>?_⟩
   rw[bC];have w4:=ac (o:=.lst (zV (z.take i++[y]))) hY3;have y3:(upd H3 Y3 (.lst (zV (z.take i++[y])))) Y3=some (.lst (zV (z.take i++[y]))):=a9;generalize upd H3 Y3 (.lst (zV (z.take i++[y])))=H4 at w4 y3⊢;have s14:=(w2.trans w3).trans w4;refine⟨_,rfl,_,rfl,_,_,rfl,rfl,_,rfl,p,_,rfl,SqL.of (s14 _ _ hrow1),fun Y4 hY4=>?_⟩;rw[show((i:Int)+1)=((i+1:Nat):Int)from rfl,g9 (show i+1≤(zV z).length by rw[ao];omega)]
   have ed:(zV z).drop (i+1)=zV (z.drop (i+1)):=by unfold zV;rw[List.map_drop]
   rw[ed];have w5:=ac (o:=.lst (zV (z.drop (i+1)))) hY4;have y4:(upd H4 Y4 (.lst (zV (z.drop (i+1))))) Y4=some (.lst (zV (z.drop (i+1)))):=a9;generalize upd H4 Y4 (.lst (zV (z.drop (i+1))))=H5 at w5 y4⊢;refine⟨Y3,Y4,_,_,rfl,rfl,w5 _ _ y3,y4,by rw[ao,ao,List.length_append,ti,List.length_drop];exact dt (by show i+1+_≤_;omega),fun C hC=>?_⟩
   have ea:zV (z.take i++[y])++zV (z.drop (i+1))=zV (z.take i++[y]++z.drop (i+1)):=by unfold zV;rw[List.map_append (l₂:=z.drop (i+1))]
   rw[ea];have fr:(z.take i++[y]++z.drop (i+1)).length≤25:=by rw[List.length_append,List.length_append,ti,List.length_drop];show i+1+(z.length - (i+1))≤25;omega
   generalize z.take i++[y]++z.drop (i+1)=zc at fr⊢;have w6:=ac (o:=.lst (zV zc)) hC;have yc:(upd H5 C (.lst (zV zc))) C=some (.lst (zV zc)):=a9;generalize upd H5 C (.lst (zV zc))=H6 at w6 yc⊢;have s06:=((wZ.trans s14).trans w5).trans w6;refine⟨_,rfl,_,rfl,_,rfl,A,_,rfl,SqL.of (s06 _ _ hA.top),fun Y5 hY5=>?_⟩;rw[iz (show j≤(bs.map V.ref).length by rw[List.length_map];omega),←List.map_take]
   have w7:=ac (o:=.lst ((bs.take j).map V.ref)) hY5;have y5:(upd H6 Y5 (.lst ((bs.take j).map V.ref))) Y5=some (.lst ((bs.take j).map V.ref)):=a9;generalize upd H6 Y5 (.lst ((bs.take j).map V.ref))=H7 at w7 y5⊢;refine⟨_,rfl,by show 1≤sizeLine;exact aO (by decide),fun Y6 hY6=>?_⟩
   have w8:=ac (o:=.lst [V.ref C]) hY6;have y6:(upd H7 Y6 (.lst [V.ref C])) Y6=some (.lst ([C].map V.ref)):=a9;generalize upd H7 Y6 (.lst [V.ref C])=H8 at w8 y6⊢;refine⟨Y5,Y6,_,_,rfl,rfl,w8 _ _ y5,y6,by rw[List.length_map,tk];exact dt (by show j+1≤_;omega),fun Y7 hY7=>?_⟩
   rw[←List.map_append];have w9:=ac (o:=.lst ((bs.take j++[C]).map V.ref)) hY7;have y7:(upd H8 Y7 (.lst ((bs.take j++[C]).map V.ref))) Y7=some (.lst ((bs.take j++[C]).map V.ref)):=a9;generalize upd H8 Y7 (.lst ((bs.take j++[C]).map V.ref))=H9 at w9 y7⊢;have s09:=((s06.trans w7).trans w8).trans w9;refine⟨_,rfl,_,rfl,_,_,rfl,rfl,_,rfl,A,_,rfl,SqL.of (s09 _ _ hA.top),fun Y8 hY8=>?_⟩;rw[show((j:Int)+1)=((j+1:Nat):Int)from rfl,g9 (show j+1≤(bs.map V.ref).length by rw[List.length_map];omega),←List.map_drop]
   have wA:=ac (o:=.lst ((bs.drop (j+1)).map V.ref)) hY8;have y8:(upd H9 Y8 (.lst ((bs.drop (j+1)).map V.ref))) Y8=some (.lst ((bs.drop (j+1)).map V.ref)):=a9;generalize upd H9 Y8 (.lst ((bs.drop (j+1)).map V.ref))=HA at wA y8⊢;refine⟨Y7,Y8,_,_,rfl,rfl,wA _ _ y7,y8,by rw[List.length_map,List.length_map,List.length_append,tk,List.length_drop];exact dt (by show j+1+_≤_;omega),fun Y9 hY9=>?_⟩
   rw[←List.map_append];have wB:=ac (o:=.lst ((bs.take j++[C]++bs.drop (j+1)).map V.ref)) hY9;have s0B:=(s09.trans wA).trans wB;have rE:=(((ra.take j).mono s0B).app ((RwAt.one yc).mono ((((w7.trans w8).trans w9).trans wA).trans wB))).app ((ra.drop (j+1)).mono s0B);refine k Y9 _ (zss.take j++[zc]++zss.drop (j+1)) _ s0B ⟨a9,rE.1,rE.2⟩ ?_ fun y hy=>?_
   . rw[List.length_append,List.length_append,List.length_take,List.length_drop];show min j zss.length+1+_≤50;omega
   . rcases List.mem_append.mp hy with hy | hy
     . rcases List.mem_append.mp hy with hy | hy
       . have:=zz y (List.mem_of_mem_take hy);omega
       . rw[List.mem_singleton.mp hy];omega
     . have:=zz y (List.mem_of_mem_drop hy);omega
end
end Tw
namespace Tw
open PySem L2
open PySem.Builtin.Int (intBits)
section
variable {P:Program}{w:World}{K:PySem.W.Frag}{mg:Str->Option Value}{base:Heap}{c g:Nat->Addr}{gd:Nat->FuncData}{fAY:Addr}{fdAY:FuncData}
theorem scLaw:FnScope ["_law_script", "_law_many", "_law_roads", "_law_cell", "_law_handed", "_law_found", "_law_at", "_law_rows", "_law_other", "_law_asked_here", "_law_listed", "_law_right"] ["_law_script"] (aa sLaw):=⟨rfl,rfl,rfl,by decide +kernel,rfl,by decide +kernel,by decide +kernel⟩
theorem ok_law {f fT fA fKI fAS fM fBT fDU:Addr}{fd fdT fdA fdKI fdAS fdM fdBT fdDU:FuncData}(F:Def K mg "law" sLaw ["_law_script"] f fd)(FT:Def K mg "_law_tree" fG ["_law_script"] fT fdT)(FA:Def K mg "_law_cell_at" dO ["_law_script", "_law_k"] fA fdA)(FKI:Def K mg "kinds" e5 [] fKI fdKI)(FAS:Def K mg "_law_asked" cg ["_law_at", "_law_many", "_law_roads", "_law_script"] fAS fdAS)(FM:Def K mg "_law_mix" sMix ["_law_number", "_law_k"] fM fdM)(FBT:Def K mg "_law_bent" fL ["_law_rows", "_law_many", "_law_cell"] fBT fdBT)(FDU:Def K mg "_law_due" sDue ["_law_at", "_law_many", "_law_roads", "_law_rows"] fDU fdDU)(GT:FnOk P w K mg base CX0 3 fT fdT ["_law_script"] (j7 K))(GAS:FnOk P w K mg base CX0 4 fAS fdAS ["_law_at", "_law_many", "_law_roads", "_law_script"] (jz K))(GDU:FnOk P w K mg base CX0 3 fDU fdDU ["_law_at", "_law_many", "_law_roads", "_law_rows"] jx)(TK:Kdf K mg c g gd fAY fdAY)(Z:FitC P w K mg base)(B:Bi K mg):FnOk P w K mg base CX0 9 f fd ["_law_script"] (spLaw K):=by
 have GA:FnOk P w K mg base CX0 1 fA fdA ["_law_script", "_law_k"] (fF K):=fe FA B;have GM:FnOk P w K mg base CX0 1 fM fdM ["_law_number", "_law_k"] fw:=eR FM;have GKI:FnOk P w K mg base CX0 1 fKI fdKI [] (iD c):=ok_kinds FKI TK;have GBT:FnOk P w K mg base CX0 2 fBT fdBT ["_law_rows", "_law_many", "_law_cell"] jy:=ok_bnt FBT FM B;have HS:=fit_tab TK Z B;refine F.fn.ok scLaw (fun vs H Q E h=>?_) (fun cdv A outer s H vs Q E hr h=>?_)
 . obtain⟨a,ns,rfl,_⟩:=h;rfl
 . obtain⟨a,ns,rfl,hS,hb,hl,k⟩:=h;have nd:=scLaw.nd;have hu:=iT hr;refine⟨_,(ad (eQ (aj GT (hr.mono (by decide)) rfl FT.mg FT.fn.kp FT.bn .nil aE (a2 (pv 0) a4)) (pg_tup rfl (dw (bj (i:=1) nd rfl (Or.inl rfl)) (dw (bj (i:=2) nd rfl (Or.inl rfl)) iO))))
    (ad (aQ (i:=3) nd rfl (Or.inl rfl) (aj GA (hr.mono (by decide)) rfl FA.mg FA.fn.kp FA.bn .nil aE (a2 (pv 0) (az a3 a4))))
    (ad (cU (aa sLaw).names ["_law_script", "_law_many", "_law_roads", "_law_cell", "_law_handed", "_law_found", "_law_at", "_law_rows", "_law_other", "_law_asked_here", "_law_listed", "_law_right"] ["_law_script", "_law_many", "_law_roads", "_law_cell", "_law_handed", "_law_found", "_law_at", "_law_rows", "_law_other", "_law_asked_here", "_law_listed", "_law_right", "_law_road"] 4 nd rfl (Or.inl rfl) (bd K (pv 2)) (fun _ _ _ _=>bF) (fun _ _ _ _=>(cF (jC K) (by rfl) B.list PyProof.Rows.boot_list (a2 (pv 12) a4))))
    (ad (aQ (i:=5) nd rfl (Or.inl rfl) (pe_call0 GKI (hr.mono (by decide)) rfl FKI.mg FKI.fn.kp FKI.bn .nil aE))
    (ad (bV PassesOwn.never rfl (bg rfl B.range (az a3 a4)) (bj (i:=6) nd rfl (Or.inl rfl)) (ad (aQ (i:=7) nd rfl (Or.inl rfl) (aj GAS (hr.mono (by decide)) rfl FAS.mg FAS.fn.kp FAS.bn .nil aE (a2 (pv 6) (a2 (pv 1) (a2 (pv 2) (a2 (pv 0) a4))))))
    (ad (aQ (i:=8) nd rfl (Or.inl rfl) (aj GAS (hr.mono (by decide)) rfl FAS.mg FAS.fn.kp FAS.bn .nil aE (aL (ar b5 (aj GM (hr.mono (by decide)) rfl FM.mg FM.fn.kp FM.bn .nil aE (aL (ar aY (pv 3) (pv 6)) (az a3 a4))) a3) (a2 (pv 1) (a2 (pv 2) (a2 (pv 0) a4))))))
    (ah (bV PassesOwn.never rfl (bd K (aK (a2 (pv 7) (a2 (aj GBT (hr.mono (by decide)) rfl FBT.mg FBT.fn.kp FBT.bn .nil aE (a2 (pv 7) (a2 (pv 1) (aL (ar aY (pv 3) (pv 6)) a4)))) (a2 (aj GBT (hr.mono (by decide)) rfl FBT.mg FBT.fn.kp FBT.bn .nil aE (a2 (pv 7) (a2 (pv 1) (aL (ar aY (ar aY (pv 3) (pv 6)) a3) a4)))) (a2 (pv 8) a4)))))) (bj (i:=9) nd rfl (Or.inl rfl)) (ad (cU (aa sLaw).names ["_law_script", "_law_many", "_law_roads", "_law_cell", "_law_handed", "_law_found", "_law_at", "_law_rows", "_law_other", "_law_asked_here", "_law_listed", "_law_right"] ["_law_script", "_law_many", "_law_roads", "_law_cell", "_law_handed", "_law_found", "_law_at", "_law_rows", "_law_other", "_law_asked_here", "_law_listed", "_law_right", "_law_row"] 10 nd rfl (Or.inl rfl) (bd K (pv 9)) (fun _ _ _ _=>bF) (fun _ _ _ _=>(cF (jC K) (by rfl) B.list PyProof.Rows.boot_list (a2 (pv 12) a4))))
    (ad (aQ (i:=11) nd rfl (Or.inl rfl) (pe_methA (aF (ixK K) (pv 5) (pv 6) (fun _ _=>rfl)) HS (hr.mono (by decide)) aE (a2 (pv 1) (a2 (pv 4) (a2 (pv 10) a4)))))
    (ah (b6 (PW.pt (bN (cG (cz (ak (isinstK K) (by rfl) B.isinstance PyProof.Rows.boot_isinstance (a2 (pv 11) (a2 (gS (v:=.ty "bool") rfl B.bool PyProof.Rows.boot_bool rfl) a4))))) (bN (ax dy (pv 11) (aj GDU (hr.mono (by decide)) rfl FDU.mg FDU.fn.kp FDU.bn .nil aE (a2 (pv 6) (a2 (pv 1) (a2 (pv 2) (a2 (pv 9) a4))))) (av _)) (ci (ax (op_neR hu) (pv 10) (pv 9) (av _)))))) (ah (aB bO)) aG)))))))))
    (ah (aB (aU (op_eqR hu) (pv 4) (pv 2) (av _))))))))),?_⟩
   refine⟨_,rfl,a,ns,rfl,hS,hb,hl,fun T R as n rs H1 hT hR t hle s1=>?_⟩;refine⟨T,_,rfl,SqT.of hT,rfl,_,_,rfl,_,_,rfl,rfl,?_⟩;have th:=t.hi;have tlo:=t.lo;have tl:=t.length;refine⟨_,rfl,a,ns,2,rfl,s1.seq hS,?_⟩;have cb:intBits (ns.getD 2 0)≤2 ^ 20:=eX hb 2;generalize ns.getD 2 0=cl at cb⊢;refine⟨_,rfl,R,rfl,⟨_,SqL.of hR.rows.top⟩,fun D hD=>?_⟩;refine gz hR.rows (by rw[List.length_map];omega) hD (fun p H4 Qv zs hp kk=>⟨_,rfl,p,_,rfl,.inl (SqL.of hp),kk⟩) fun bs H2 hHd s2 fr2=>?_
   have dis:∀p∈bs,p∉as:=fun p hp=>hR.fresh (fr2 p hp);have hR2:=(hR.mono s2).rows;have hS2:=(s1.trans s2).seq hS;refine⟨rfl,fun L ks H3 ksl s3 _ hL hk=>?_⟩;have hR3:=hR2.mono s3;have hHd3:=hHd.mono s3;have hS3:=s3.seq hS2;refine⟨11,rfl,by decide,by decide,cp (fun i σ HX=>∃v6 v7 v8 v9 v10 v11:Option V,σ=[some (.ref a),some (.int n),some (.ref R),some (.int cl),some (.ref D),some (.ref L),v6,v7,v8,v9,v10,v11]/\Same H3 HX) ⟨none,none,none,none,none,none,rfl,Same.refl _⟩ ?_ ?_⟩
   . rintro i σ HX hi ⟨v6,v7,v8,v9,v10,v11,rfl,sX⟩;have e0:(0:Int)+(i:Int)=(i:Int):=by omega
     rw[e0];refine⟨_,rfl,_,rfl,_,rfl,_,rfl,i,n,R,a,as,rs,ns,rfl,hi,hR3.mono sX,t,sX.seq hS3,hb,fun A1 as1 zs1 H4 s4 hA1 l1 ll1=>?_⟩;have s34:=sX.trans s4;have m0:=Int.emod_nonneg (mixF (cl+i) 34) (show(11:Int)≠0 by decide)
     have m1:=Int.emod_lt_of_pos (mixF (cl+i) 34) (show(0:Int) < 11 by decide)
     obtain⟨m,em⟩:∃m:Nat,mixF (cl+i) 34 % 11=(m:Int):=⟨(mixF (cl+i) 34 % 11).toNat,by omega⟩
     have hbi:intBits (cl+i)≤2 ^ 21:=eY (Nat.le_trans cb (by decide)) ⟨by omega,by omega⟩
     have hbj:intBits (cl+i+20)≤2 ^ 21:=by rw[Int.add_assoc];exact eY (Nat.le_trans cb (by decide)) ⟨by omega,by omega⟩
     refine⟨_,rfl,_,rfl,_,_,rfl,rfl,cl+i,34,rfl,hbi,by decide,by decide,_,_,rfl,rfl,(by show(0:Int) < 11;decide),_,rfl,_,rfl,_,rfl,m,n,R,a,as,rs,ns,(by rw[←em];rfl),by omega,hR3.mono s34,t,s34.seq hS3,hb,fun A4 as4 zs4 H5 s5 hA4 l4 ll4=>?_⟩
     have s35:=s34.trans s5;refine⟨_,rfl,_,rfl,_,rfl,_,rfl,_,rfl,_,_,rfl,rfl,n,A1,as1,zs1,cl+i,rfl,tlo,th,hA1.mono s5,l1,ll1,hbi,fun A2 as2 zs2 H6 s6 hA2 l2 ll2=>?_⟩;refine⟨_,rfl,_,rfl,_,rfl,_,rfl,_,_,rfl,rfl,_,_,rfl,rfl,n,A1,as1,zs1,cl+i+20,rfl,tlo,th,(hA1.mono s5).mono s6,l1,ll1,hbj,fun A3 as3 zs3 H7 s7 hA3 l3 ll3=>?_⟩;refine⟨_,rfl,by show 4≤sizeLine;exact aO (by decide),fun LL hLL=>?_⟩
     have w8:=ac (o:=.lst [V.ref A1,V.ref A2,V.ref A3,V.ref A4]) hLL;have tLL:(upd H7 LL (.lst [V.ref A1,V.ref A2,V.ref A3,V.ref A4])) LL=some (.lst [V.ref A1,V.ref A2,V.ref A3,V.ref A4]):=a9;generalize upd H7 LL (.lst [V.ref A1,V.ref A2,V.ref A3,V.ref A4])=H8 at w8 tLL⊢;have s38:=((s35.trans s6).trans s7).trans w8;have items:∀y∈[V.ref A1,V.ref A2,V.ref A3,V.ref A4],∃(q:Addr) (qs:List Addr) (zss:List (List Int)),y=V.ref q/\RowsAt H8 q qs zss/\zss.length≤50/\∀z∈zss,z.length≤50:=fun y hy=>by
      simp only[List.mem_cons,List.not_mem_nil,or_false]at hy;rcases hy with rfl | rfl | rfl | rfl
      . exact⟨_,_,_,rfl,(((hA1.mono s5).mono s6).mono s7).mono w8,by omega,fun z hz=>by have:=ll1 z hz;omega⟩
      . exact⟨_,_,_,rfl,(hA2.mono s7).mono w8,l2,ll2⟩
      . exact⟨_,_,_,rfl,hA3.mono w8,l3,ll3⟩
      . exact⟨_,_,_,rfl,((hA4.mono s6).mono s7).mono w8,by omega,fun z hz=>by have:=ll4 z hz;omega⟩
     clear hA1 hA2 hA3 hA4 s4 s5 s6 s7 w8 s34 s35 sX l1 ll1 l2 ll2 l3 ll3 l4 ll4 em m0 m1;refine⟨LL,rfl,⟨_,SqL.of tLL⟩,cJ (K:=K) (a:=LL) (xs:=[V.ref A1,V.ref A2,V.ref A3,V.ref A4]) (fun _ σ HY=>∃v9 v10 v11:Option V,σ=[some (.ref a),some (.int n),some (.ref R),some (.int cl),some (.ref D),some (.ref L),some (.int i),some (.ref A1),some (.ref A4),v9,v10,v11]/\Same H8 HY) ⟨_,_,_,rfl,Same.refl _⟩ (fun _ σ HY _ ⟨_,_,_,_,h⟩=>SqL.of (h _ _ tLL)) ?_ ?_⟩
     . rintro j y σ HY hj ⟨v9,v10,v11,rfl,sY⟩;obtain⟨q,qs,zss,rfl,hq,zl,zz⟩:=items y (List.mem_of_getElem? hj);have hqY:=hq.mono sY;refine⟨_,rfl,q,rfl,⟨_,SqL.of hqY.top⟩,fun D2 hD2=>?_⟩;refine gz hqY (by omega) hD2 (fun p H4 Qv zs hp kk=>⟨_,rfl,p,_,rfl,.inl (SqL.of hp),kk⟩) fun ls HZ hLi sZ frZ=>?_
       have s3Z:=(s38.trans sY).trans sZ;obtain⟨x,hx⟩:∃x,ks[i]? = some x:=⟨ks[i]'(by omega),List.getElem?_eq_getElem _⟩
       obtain⟨dx,hx3⟩:=hk.at_ i x hx;rw[Nat.zero_add]at hx3;have at1:atI (ks.map V.ref) (i:Int)=some (V.ref x):=cw (by rw[List.getElem?_map,hx];rfl)
       refine⟨_,rfl,_,rfl,L,_,_,_,rfl,rfl,SqL.of (s3Z _ _ hL),at1,i,x,dx,[],hi,rfl,s3Z _ _ hx3,rfl,_,rfl,_,rfl,_,rfl,⟨x,dx,rfl,s3Z _ _ hx3⟩,_,n,D,D2,bs,ls,rs,zss,rfl,hHd3.mono s3Z,t,hLi,by omega,fun z hz=>by have:=zz z hz;omega,fun b HA sA hb1=>?_⟩
       refine⟨_,rfl,_,_,_,_,rfl,.bl _,B.bb,_,rfl,iteF ?_⟩;have sZA:=sZ.trans sA;have s3A:=s3Z.trans sA;refine⟨_,rfl,_,rfl,_,rfl,_,rfl,_,rfl,i,n,R,q,as,qs,rs,zss,rfl,hi,hR3.mono s3A,t,hqY.mono sZA,by omega,fun z hz=>by have:=zz z hz;omega,fun b2 HB sB hb2=>?_⟩
       have eb:b=b2:=by
        cases b<;>cases b2
        . rfl
        . exact absurd (hb1.mpr (hb2.mp rfl)) (by decide)
        . exact absurd (hb2.mpr (hb1.mp rfl)) (by decide)
        . rfl
       subst eb;refine⟨rfl,_,rfl,?_⟩;rw[decide_eq_true (rfl:V.bl b=V.bl b)];refine iteF ?_;have sZB:=sA.trans sB;have nq:∀p∈ls,p∉qs:=fun p hp=>(hqY.no (frZ p hp)).2;refine⟨_,rfl,_,rfl,D2,q,ls,qs,_,_,rfl,rfl,eD (hLi.mono sZB),eD (hqY.mono (sZA.trans sB)),nq,rfl,_,rfl,?_⟩;rw[gm];exact iteF ⟨_,_,_,rfl,(sY.trans sZA).trans sB⟩
     . rintro σ HY ⟨v9,v10,v11,rfl,sY⟩;exact⟨_,_,_,_,_,_,rfl,s38.trans sY⟩
   rintro σ HX ⟨v6,v7,v8,v9,v10,v11,rfl,sX⟩;refine⟨_,rfl,_,rfl,D,R,bs,as,_,_,rfl,rfl,eD (hHd3.mono sX),eD (hR3.mono sX),dis,rfl,?_⟩;show Q (.bl _) _;rw[gm];exact k _
end
end Tw
namespace Tw
open PySem L2
theorem b8 {K:PySem.W.Frag}{h:Heap}{mg:Str->Option Value}{x:Str}{st:Stmt}{ps:List Str}{f:Addr}{oc:Value}{od an:Option Addr}{osl:Array (Option Value)}{kV doc pm cdv ct:Value}(X:K.In h)(G:h.Ns mainGlobals mg)(a:PySem.W.nsIn K mainGlobals x=some (some (.ref f)))(l:K.lookup f=some ⟨oc,od,.func (PySem.W.fnOf x x (au st) (aq st) (aa st) .none kV doc pm an cdv ct),osl⟩)(c:PySem.W.codeIn K cdv x=true)(k:PySem.W.keepIn K (.ref f)=true)(b:∀(kV doc pm:Value) (an:Option Addr) (cdv ct:Value) (us:List Value),us.length=ps.length->bindArgs (PySem.W.fnOf x x (au st) (aq st) (aa st) .none kV doc pm an cdv ct) ⟨us,[]⟩=pure (ps.zip us)):Def K mg x st ps f (PySem.W.fnOf x x (au st) (aq st) (aa st) .none kV doc pm an cdv ct):=⟨cc l c k,(cc l c k).binds b,PySem.W.mg_of X G a⟩
theorem all_mk {l:PySem.W.OpenLaw}{w:World}{K:PySem.W.Frag}{h:Heap}{mg:Str->Option Value}{fa fW fP fAP fUN fRD fI fC fN fS fLU fAW fAG fWO fSI fIH fKI fM fA fLE fD fZ fH fT fLL fST fAM fAS fBT fPL fLS fDU fX eK0 eK1 eK2 eK3 eK4 eK5 eK6 eK7 eK8 eK9 eK10:Addr}(X:K.In h)(G:h.Ns mainGlobals mg)(hfa:mg "law" = some (.ref fa))
 {odW anW odP anP odAP anAP odUN anUN odRD anRD odI anI odC anC odN anN odS anS odLU anLU odAW anAW odAG anAG odWO anWO odSI anSI odIH anIH odKI anKI odM anM odA anA odLE anLE odD anD odZ anZ odH anH odT anT odLL anLL odST anST odAM anAM odAS anAS odBT anBT odPL anPL odLS anLS odDU anDU odX anX:Option Addr} {slW slP slAP slUN slRD slI slC slN slS slLU slAW slAG slWO slSI slIH slKI slM slA slLE slD slZ slH slT slLL slST slAM slAS slBT slPL slLS slDU slX:Array (Option Value)}
 {ocW kVW dcW pmW cdW ctW ocP kVP dcP pmP cdP ctP ocAP kVAP dcAP pmAP cdAP ctAP ocUN kVUN dcUN pmUN cdUN ctUN ocRD kVRD dcRD pmRD cdRD ctRD ocI kVI dcI pmI cdI ctI ocC kVC dcC pmC cdC ctC ocN kVN dcN pmN cdN ctN ocS kVS dcS pmS cdS ctS ocLU kVLU dcLU pmLU cdLU ctLU ocAW kVAW dcAW pmAW cdAW ctAW ocAG kVAG dcAG pmAG cdAG ctAG ocWO kVWO dcWO pmWO cdWO ctWO ocSI kVSI dcSI pmSI cdSI ctSI ocIH kVIH dcIH pmIH cdIH ctIH ocKI kVKI dcKI pmKI cdKI ctKI ocM kVM dcM pmM cdM ctM ocA kVA dcA pmA cdA ctA ocLE kVLE dcLE pmLE cdLE ctLE ocD kVD dcD pmD cdD ctD ocZ kVZ dcZ pmZ cdZ ctZ ocH kVH dcH pmH cdH ctH ocT kVT dcT pmT cdT ctT ocLL kVLL dcLL pmLL cdLL ctLL ocST kVST dcST pmST cdST ctST ocAM kVAM dcAM pmAM cdAM ctAM ocAS kVAS dcAS pmAS cdAS ctAS ocBT kVBT dcBT pmBT cdBT ctBT ocPL kVPL dcPL pmPL cdPL ctPL ocLS kVLS dcLS pmLS cdLS ctLS ocDU kVDU dcDU pmDU cdDU ctDU ocX kVX dcX pmX cdX ctX:Value}
 (aW:PySem.W.nsIn K mainGlobals "is_whole" = some (some (.ref fW))) (lW:K.lookup fW=some ⟨ocW,odW,.func (PySem.W.fnOf "is_whole" "is_whole" (au bP) (aq bP) (aa bP) .none kVW dcW pmW anW cdW ctW),slW⟩) (cW:PySem.W.codeIn K cdW "is_whole" = true) (kW:PySem.W.keepIn K (.ref fW)=true)
 (aP:PySem.W.nsIn K mainGlobals "is_place" = some (some (.ref fP))) (lP:K.lookup fP=some ⟨ocP,odP,.func (PySem.W.fnOf "is_place" "is_place" (au d3) (aq d3) (aa d3) .none kVP dcP pmP anP cdP ctP),slP⟩) (cP:PySem.W.codeIn K cdP "is_place" = true) (kP:PySem.W.keepIn K (.ref fP)=true)
 (aAP:PySem.W.nsIn K mainGlobals "are_places" = some (some (.ref fAP))) (lAP:K.lookup fAP=some ⟨ocAP,odAP,.func (PySem.W.fnOf "are_places" "are_places" (au bi) (aq bi) (aa bi) .none kVAP dcAP pmAP anAP cdAP ctAP),slAP⟩) (cAP:PySem.W.codeIn K cdAP "are_places" = true) (kAP:PySem.W.keepIn K (.ref fAP)=true)
 (aUN:PySem.W.nsIn K mainGlobals "are_unlike" = some (some (.ref fUN))) (lUN:K.lookup fUN=some ⟨ocUN,odUN,.func (PySem.W.fnOf "are_unlike" "are_unlike" (au bE) (aq bE) (aa bE) .none kVUN dcUN pmUN anUN cdUN ctUN),slUN⟩) (cUN:PySem.W.codeIn K cdUN "are_unlike" = true) (kUN:PySem.W.keepIn K (.ref fUN)=true)
 (aRD:PySem.W.nsIn K mainGlobals "is_road" = some (some (.ref fRD))) (lRD:K.lookup fRD=some ⟨ocRD,odRD,.func (PySem.W.fnOf "is_road" "is_road" (au fK) (aq fK) (aa fK) .none kVRD dcRD pmRD anRD cdRD ctRD),slRD⟩) (cRD:PySem.W.codeIn K cdRD "is_road" = true) (kRD:PySem.W.keepIn K (.ref fRD)=true)
 (aI:PySem.W.nsIn K mainGlobals "is_tree" = some (some (.ref fI))) (lI:K.lookup fI=some ⟨ocI,odI,.func (PySem.W.fnOf "is_tree" "is_tree" (au cR) (aq cR) (aa cR) .none kVI dcI pmI anI cdI ctI),slI⟩) (cI:PySem.W.codeIn K cdI "is_tree" = true) (kI:PySem.W.keepIn K (.ref fI)=true)
 (aC:PySem.W.nsIn K mainGlobals "check_tree" = some (some (.ref fC))) (lC:K.lookup fC=some ⟨ocC,odC,.func (PySem.W.fnOf "check_tree" "check_tree" (au e8) (aq e8) (aa e8) .none kVC dcC pmC anC cdC ctC),slC⟩) (cC:PySem.W.codeIn K cdC "check_tree" = true) (kC:PySem.W.keepIn K (.ref fC)=true)
 (aN:PySem.W.nsIn K mainGlobals "neighbours" = some (some (.ref fN))) (lN:K.lookup fN=some ⟨ocN,odN,.func (PySem.W.fnOf "neighbours" "neighbours" (au f7) (aq f7) (aa f7) .none kVN dcN pmN anN cdN ctN),slN⟩) (cN:PySem.W.codeIn K cdN "neighbours" = true) (kN:PySem.W.keepIn K (.ref fN)=true)
 (aS:PySem.W.nsIn K mainGlobals "steps_to" = some (some (.ref fS))) (lS:K.lookup fS=some ⟨ocS,odS,.func (PySem.W.fnOf "steps_to" "steps_to" (au dX) (aq dX) (aa dX) .none kVS dcS pmS anS cdS ctS),slS⟩) (cS:PySem.W.codeIn K cdS "steps_to" = true) (kS:PySem.W.keepIn K (.ref fS)=true)
 (aLU:PySem.W.nsIn K mainGlobals "is_lump" = some (some (.ref fLU))) (lLU:K.lookup fLU=some ⟨ocLU,odLU,.func (PySem.W.fnOf "is_lump" "is_lump" (au eA) (aq eA) (aa eA) .none kVLU dcLU pmLU anLU cdLU ctLU),slLU⟩) (cLU:PySem.W.codeIn K cdLU "is_lump" = true) (kLU:PySem.W.keepIn K (.ref fLU)=true)
 (aAW:PySem.W.nsIn K mainGlobals "are_wants" = some (some (.ref fAW))) (lAW:K.lookup fAW=some ⟨ocAW,odAW,.func (PySem.W.fnOf "are_wants" "are_wants" (au bI) (aq bI) (aa bI) .none kVAW dcAW pmAW anAW cdAW ctAW),slAW⟩) (cAW:PySem.W.codeIn K cdAW "are_wants" = true) (kAW:PySem.W.keepIn K (.ref fAW)=true)
 (aAG:PySem.W.nsIn K mainGlobals "are_gives" = some (some (.ref fAG))) (lAG:K.lookup fAG=some ⟨ocAG,odAG,.func (PySem.W.fnOf "are_gives" "are_gives" (au bK) (aq bK) (aa bK) .none kVAG dcAG pmAG anAG cdAG ctAG),slAG⟩) (cAG:PySem.W.codeIn K cdAG "are_gives" = true) (kAG:PySem.W.keepIn K (.ref fAG)=true)
 (aWO:PySem.W.nsIn K mainGlobals "are_worths" = some (some (.ref fWO))) (lWO:K.lookup fWO=some ⟨ocWO,odWO,.func (PySem.W.fnOf "are_worths" "are_worths" (au bz) (aq bz) (aa bz) .none kVWO dcWO pmWO anWO cdWO ctWO),slWO⟩) (cWO:PySem.W.codeIn K cdWO "are_worths" = true) (kWO:PySem.W.keepIn K (.ref fWO)=true)
 (aSI:PySem.W.nsIn K mainGlobals "are_sites" = some (some (.ref fSI))) (lSI:K.lookup fSI=some ⟨ocSI,odSI,.func (PySem.W.fnOf "are_sites" "are_sites" (au bJ) (aq bJ) (aa bJ) .none kVSI dcSI pmSI anSI cdSI ctSI),slSI⟩) (cSI:PySem.W.codeIn K cdSI "are_sites" = true) (kSI:PySem.W.keepIn K (.ref fSI)=true)
 (aIH:PySem.W.nsIn K mainGlobals "is_house" = some (some (.ref fIH))) (lIH:K.lookup fIH=some ⟨ocIH,odIH,.func (PySem.W.fnOf "is_house" "is_house" (au cx) (aq cx) (aa cx) .none kVIH dcIH pmIH anIH cdIH ctIH),slIH⟩) (cIH:PySem.W.codeIn K cdIH "is_house" = true) (kIH:PySem.W.keepIn K (.ref fIH)=true)
 (aKI:PySem.W.nsIn K mainGlobals "kinds" = some (some (.ref fKI))) (lKI:K.lookup fKI=some ⟨ocKI,odKI,.func (PySem.W.fnOf "kinds" "kinds" (au e5) (aq e5) (aa e5) .none kVKI dcKI pmKI anKI cdKI ctKI),slKI⟩) (cKI:PySem.W.codeIn K cdKI "kinds" = true) (kKI:PySem.W.keepIn K (.ref fKI)=true)
 (aM:PySem.W.nsIn K mainGlobals "_law_mix" = some (some (.ref fM))) (lM:K.lookup fM=some ⟨ocM,odM,.func (PySem.W.fnOf "_law_mix" "_law_mix" (au sMix) (aq sMix) (aa sMix) .none kVM dcM pmM anM cdM ctM),slM⟩) (cM:PySem.W.codeIn K cdM "_law_mix" = true) (kM:PySem.W.keepIn K (.ref fM)=true)
 (aA:PySem.W.nsIn K mainGlobals "_law_cell_at" = some (some (.ref fA))) (lA:K.lookup fA=some ⟨ocA,odA,.func (PySem.W.fnOf "_law_cell_at" "_law_cell_at" (au dO) (aq dO) (aa dO) .none kVA dcA pmA anA cdA ctA),slA⟩) (cA:PySem.W.codeIn K cdA "_law_cell_at" = true) (kA:PySem.W.keepIn K (.ref fA)=true)
 (aLE:PySem.W.nsIn K mainGlobals "_law_left" = some (some (.ref fLE))) (lLE:K.lookup fLE=some ⟨ocLE,odLE,.func (PySem.W.fnOf "_law_left" "_law_left" (au f8) (aq f8) (aa f8) .none kVLE dcLE pmLE anLE cdLE ctLE),slLE⟩) (cLE:PySem.W.codeIn K cdLE "_law_left" = true) (kLE:PySem.W.keepIn K (.ref fLE)=true)
 (aD:PySem.W.nsIn K mainGlobals "_law_draw" = some (some (.ref fD))) (lD:K.lookup fD=some ⟨ocD,odD,.func (PySem.W.fnOf "_law_draw" "_law_draw" (au dv) (aq dv) (aa dv) .none kVD dcD pmD anD cdD ctD),slD⟩) (cD:PySem.W.codeIn K cdD "_law_draw" = true) (kD:PySem.W.keepIn K (.ref fD)=true)
 (aZ:PySem.W.nsIn K mainGlobals "_law_size" = some (some (.ref fZ))) (lZ:K.lookup fZ=some ⟨ocZ,odZ,.func (PySem.W.fnOf "_law_size" "_law_size" (au fJ) (aq fJ) (aa fJ) .none kVZ dcZ pmZ anZ cdZ ctZ),slZ⟩) (cZ:PySem.W.codeIn K cdZ "_law_size" = true) (kZ:PySem.W.keepIn K (.ref fZ)=true)
 (aH:PySem.W.nsIn K mainGlobals "_law_hung" = some (some (.ref fH))) (lH:K.lookup fH=some ⟨ocH,odH,.func (PySem.W.fnOf "_law_hung" "_law_hung" (au eB) (aq eB) (aa eB) .none kVH dcH pmH anH cdH ctH),slH⟩) (cH:PySem.W.codeIn K cdH "_law_hung" = true) (kH:PySem.W.keepIn K (.ref fH)=true)
 (aT:PySem.W.nsIn K mainGlobals "_law_tree" = some (some (.ref fT))) (lT:K.lookup fT=some ⟨ocT,odT,.func (PySem.W.fnOf "_law_tree" "_law_tree" (au fG) (aq fG) (aa fG) .none kVT dcT pmT anT cdT ctT),slT⟩) (cT:PySem.W.codeIn K cdT "_law_tree" = true) (kT:PySem.W.keepIn K (.ref fT)=true)
 (aLL:PySem.W.nsIn K mainGlobals "_law_lump" = some (some (.ref fLL))) (lLL:K.lookup fLL=some ⟨ocLL,odLL,.func (PySem.W.fnOf "_law_lump" "_law_lump" (au dZ) (aq dZ) (aa dZ) .none kVLL dcLL pmLL anLL cdLL ctLL),slLL⟩) (cLL:PySem.W.codeIn K cdLL "_law_lump" = true) (kLL:PySem.W.keepIn K (.ref fLL)=true)
 (aST:PySem.W.nsIn K mainGlobals "_law_sites" = some (some (.ref fST))) (lST:K.lookup fST=some ⟨ocST,odST,.func (PySem.W.fnOf "_law_sites" "_law_sites" (au dY) (aq dY) (aa dY) .none kVST dcST pmST anST cdST ctST),slST⟩) (cST:PySem.W.codeIn K cdST "_law_sites" = true) (kST:PySem.W.keepIn K (.ref fST)=true)
 (aAM:PySem.W.nsIn K mainGlobals "_law_amount" = some (some (.ref fAM))) (lAM:K.lookup fAM=some ⟨ocAM,odAM,.func (PySem.W.fnOf "_law_amount" "_law_amount" (au dk) (aq dk) (aa dk) .none kVAM dcAM pmAM anAM cdAM ctAM),slAM⟩) (cAM:PySem.W.codeIn K cdAM "_law_amount" = true) (kAM:PySem.W.keepIn K (.ref fAM)=true)
 (aAS:PySem.W.nsIn K mainGlobals "_law_asked" = some (some (.ref fAS))) (lAS:K.lookup fAS=some ⟨ocAS,odAS,.func (PySem.W.fnOf "_law_asked" "_law_asked" (au cg) (aq cg) (aa cg) .none kVAS dcAS pmAS anAS cdAS ctAS),slAS⟩) (cAS:PySem.W.codeIn K cdAS "_law_asked" = true) (kAS:PySem.W.keepIn K (.ref fAS)=true)
 (aBT:PySem.W.nsIn K mainGlobals "_law_bent" = some (some (.ref fBT))) (lBT:K.lookup fBT=some ⟨ocBT,odBT,.func (PySem.W.fnOf "_law_bent" "_law_bent" (au fL) (aq fL) (aa fL) .none kVBT dcBT pmBT anBT cdBT ctBT),slBT⟩) (cBT:PySem.W.codeIn K cdBT "_law_bent" = true) (kBT:PySem.W.keepIn K (.ref fBT)=true)
 (aPL:PySem.W.nsIn K mainGlobals "_law_places" = some (some (.ref fPL))) (lPL:K.lookup fPL=some ⟨ocPL,odPL,.func (PySem.W.fnOf "_law_places" "_law_places" (au cQ) (aq cQ) (aa cQ) .none kVPL dcPL pmPL anPL cdPL ctPL),slPL⟩) (cPL:PySem.W.codeIn K cdPL "_law_places" = true) (kPL:PySem.W.keepIn K (.ref fPL)=true)
 (aLS:PySem.W.nsIn K mainGlobals "_law_are_lumps" = some (some (.ref fLS))) (lLS:K.lookup fLS=some ⟨ocLS,odLS,.func (PySem.W.fnOf "_law_are_lumps" "_law_are_lumps" (au bX) (aq bX) (aa bX) .none kVLS dcLS pmLS anLS cdLS ctLS),slLS⟩) (cLS:PySem.W.codeIn K cdLS "_law_are_lumps" = true) (kLS:PySem.W.keepIn K (.ref fLS)=true)
 (aDU:PySem.W.nsIn K mainGlobals "_law_due" = some (some (.ref fDU))) (lDU:K.lookup fDU=some ⟨ocDU,odDU,.func (PySem.W.fnOf "_law_due" "_law_due" (au sDue) (aq sDue) (aa sDue) .none kVDU dcDU pmDU anDU cdDU ctDU),slDU⟩) (cDU:PySem.W.codeIn K cdDU "_law_due" = true) (kDU:PySem.W.keepIn K (.ref fDU)=true)
 (aX:PySem.W.nsIn K mainGlobals "law" = some (some (.ref fX))) (lX:K.lookup fX=some ⟨ocX,odX,.func (PySem.W.fnOf "law" "law" (au sLaw) (aq sLaw) (aa sLaw) .none kVX dcX pmX anX cdX ctX),slX⟩) (cX:PySem.W.codeIn K cdX "law" = true) (kX:PySem.W.keepIn K (.ref fX)=true)
 (eaK0:PySem.W.nsIn K mainGlobals "Middle" = some (some (.ref eK0)))
 (eaK1:PySem.W.nsIn K mainGlobals "Balance" = some (some (.ref eK1)))
 (eaK2:PySem.W.nsIn K mainGlobals "Wells" = some (some (.ref eK2)))
 (eaK3:PySem.W.nsIn K mainGlobals "Reach" = some (some (.ref eK3)))
 (eaK4:PySem.W.nsIn K mainGlobals "Spots" = some (some (.ref eK4)))
 (eaK5:PySem.W.nsIn K mainGlobals "Colours" = some (some (.ref eK5)))
 (eaK6:PySem.W.nsIn K mainGlobals "Worths" = some (some (.ref eK6)))
 (eaK7:PySem.W.nsIn K mainGlobals "Goods" = some (some (.ref eK7)))
 (eaK8:PySem.W.nsIn K mainGlobals "Walks" = some (some (.ref eK8)))
 (eaK9:PySem.W.nsIn K mainGlobals "Sweeps" = some (some (.ref eK9)))
 (eaK10:PySem.W.nsIn K mainGlobals "Round" = some (some (.ref eK10)))
 {fw0 fw1 fw2 fw3 fw4 fw5 fw6 fw7 fw8 fw9 fw10 fwY:Addr}
 {odw0 anw0 odw1 anw1 odw2 anw2 odw3 anw3 odw4 anw4 odw5 anw5 odw6 anw6 odw7 anw7 odw8 anw8 odw9 anw9 odw10 anw10 odwY anwY:Option Addr} {slw0 slw1 slw2 slw3 slw4 slw5 slw6 slw7 slw8 slw9 slw10 slwY:Array (Option Value)} {ocw0 kVw0 dcw0 pmw0 cdw0 ctw0 ocw1 kVw1 dcw1 pmw1 cdw1 ctw1 ocw2 kVw2 dcw2 pmw2 cdw2 ctw2 ocw3 kVw3 dcw3 pmw3 cdw3 ctw3 ocw4 kVw4 dcw4 pmw4 cdw4 ctw4 ocw5 kVw5 dcw5 pmw5 cdw5 ctw5 ocw6 kVw6 dcw6 pmw6 cdw6 ctw6 ocw7 kVw7 dcw7 pmw7 cdw7 ctw7 ocw8 kVw8 dcw8 pmw8 cdw8 ctw8 ocw9 kVw9 dcw9 pmw9 cdw9 ctw9 ocw10 kVw10 dcw10 pmw10 cdw10 ctw10 ocwY kVwY dcwY pmwY cdwY ctwY:Value}
 (mt0:PySem.W.findIn K (.ref eK0) "fits" = some (some (.ref fw0)))
 (lw0:K.lookup fw0=some ⟨ocw0,odw0,.func (PySem.W.fnOf "fits" "Middle.fits" (au (fSt 0)) (aq (fSt 0)) (aa (fSt 0)) .none kVw0 dcw0 pmw0 anw0 cdw0 ctw0),slw0⟩)
 (cw0:PySem.W.codeIn K cdw0 "Middle.fits" = true)
 (kw0:PySem.W.keepIn K (.ref fw0)=true)
 (fn0:PySem.W.isFn K (.ref fw0)=true)
 (pg0:PySem.W.plainGet K eK0 Str.empty=true)
 (hd0:PySem.W.hasDictIn K eK0=true)
 (po0:PySem.W.plainOver K eK0=true)
 (sa0:PySem.W.findIn K (.ref eK0) "__setattr__" = some (some (.builtin "object.__setattr__")))
 (ms0:PySem.W.makesIn K eK0=true)
 (in0:PySem.W.findIn K (.ref eK0) "__init__" = some (some (.builtin "object.__init__")))
 (kc0:PySem.W.keepIn K (.ref eK0)=true)
 (mt1:PySem.W.findIn K (.ref eK1) "fits" = some (some (.ref fw1)))
 (lw1:K.lookup fw1=some ⟨ocw1,odw1,.func (PySem.W.fnOf "fits" "Balance.fits" (au (fSt 1)) (aq (fSt 1)) (aa (fSt 1)) .none kVw1 dcw1 pmw1 anw1 cdw1 ctw1),slw1⟩)
 (cw1:PySem.W.codeIn K cdw1 "Balance.fits" = true)
 (kw1:PySem.W.keepIn K (.ref fw1)=true)
 (fn1:PySem.W.isFn K (.ref fw1)=true)
 (pg1:PySem.W.plainGet K eK1 Str.empty=true)
 (hd1:PySem.W.hasDictIn K eK1=true)
 (po1:PySem.W.plainOver K eK1=true)
 (sa1:PySem.W.findIn K (.ref eK1) "__setattr__" = some (some (.builtin "object.__setattr__")))
 (ms1:PySem.W.makesIn K eK1=true)
 (in1:PySem.W.findIn K (.ref eK1) "__init__" = some (some (.builtin "object.__init__")))
 (kc1:PySem.W.keepIn K (.ref eK1)=true)
 (mt2:PySem.W.findIn K (.ref eK2) "fits" = some (some (.ref fw2)))
 (lw2:K.lookup fw2=some ⟨ocw2,odw2,.func (PySem.W.fnOf "fits" "Wells.fits" (au (fSt 2)) (aq (fSt 2)) (aa (fSt 2)) .none kVw2 dcw2 pmw2 anw2 cdw2 ctw2),slw2⟩)
 (cw2:PySem.W.codeIn K cdw2 "Wells.fits" = true)
 (kw2:PySem.W.keepIn K (.ref fw2)=true)
 (fn2:PySem.W.isFn K (.ref fw2)=true)
 (pg2:PySem.W.plainGet K eK2 Str.empty=true)
 (hd2:PySem.W.hasDictIn K eK2=true)
 (po2:PySem.W.plainOver K eK2=true)
 (sa2:PySem.W.findIn K (.ref eK2) "__setattr__" = some (some (.builtin "object.__setattr__")))
 (ms2:PySem.W.makesIn K eK2=true)
 (in2:PySem.W.findIn K (.ref eK2) "__init__" = some (some (.builtin "object.__init__")))
 (kc2:PySem.W.keepIn K (.ref eK2)=true)
 (mt3:PySem.W.findIn K (.ref eK3) "fits" = some (some (.ref fw3)))
 (lw3:K.lookup fw3=some ⟨ocw3,odw3,.func (PySem.W.fnOf "fits" "Reach.fits" (au (fSt 3)) (aq (fSt 3)) (aa (fSt 3)) .none kVw3 dcw3 pmw3 anw3 cdw3 ctw3),slw3⟩)
 (cw3:PySem.W.codeIn K cdw3 "Reach.fits" = true)
 (kw3:PySem.W.keepIn K (.ref fw3)=true)
 (fn3:PySem.W.isFn K (.ref fw3)=true)
 (pg3:PySem.W.plainGet K eK3 Str.empty=true)
 (hd3:PySem.W.hasDictIn K eK3=true)
 (po3:PySem.W.plainOver K eK3=true)
 (sa3:PySem.W.findIn K (.ref eK3) "__setattr__" = some (some (.builtin "object.__setattr__")))
 (ms3:PySem.W.makesIn K eK3=true)
 (in3:PySem.W.findIn K (.ref eK3) "__init__" = some (some (.builtin "object.__init__")))
 (kc3:PySem.W.keepIn K (.ref eK3)=true)
 (mt4:PySem.W.findIn K (.ref eK4) "fits" = some (some (.ref fw4)))
 (lw4:K.lookup fw4=some ⟨ocw4,odw4,.func (PySem.W.fnOf "fits" "Spots.fits" (au (fSt 4)) (aq (fSt 4)) (aa (fSt 4)) .none kVw4 dcw4 pmw4 anw4 cdw4 ctw4),slw4⟩)
 (cw4:PySem.W.codeIn K cdw4 "Spots.fits" = true)
 (kw4:PySem.W.keepIn K (.ref fw4)=true)
 (fn4:PySem.W.isFn K (.ref fw4)=true)
 (pg4:PySem.W.plainGet K eK4 Str.empty=true)
 (hd4:PySem.W.hasDictIn K eK4=true)
 (po4:PySem.W.plainOver K eK4=true)
 (sa4:PySem.W.findIn K (.ref eK4) "__setattr__" = some (some (.builtin "object.__setattr__")))
 (ms4:PySem.W.makesIn K eK4=true)
 (in4:PySem.W.findIn K (.ref eK4) "__init__" = some (some (.builtin "object.__init__")))
 (kc4:PySem.W.keepIn K (.ref eK4)=true)
 (my4:PySem.W.findIn K (.ref eK4) "are_yards" = some (some (.ref fwY)))
 (mt5:PySem.W.findIn K (.ref eK5) "fits" = some (some (.ref fw5)))
 (lw5:K.lookup fw5=some ⟨ocw5,odw5,.func (PySem.W.fnOf "fits" "Colours.fits" (au (fSt 5)) (aq (fSt 5)) (aa (fSt 5)) .none kVw5 dcw5 pmw5 anw5 cdw5 ctw5),slw5⟩)
 (cw5:PySem.W.codeIn K cdw5 "Colours.fits" = true)
 (kw5:PySem.W.keepIn K (.ref fw5)=true)
 (fn5:PySem.W.isFn K (.ref fw5)=true)
 (pg5:PySem.W.plainGet K eK5 Str.empty=true)
 (hd5:PySem.W.hasDictIn K eK5=true)
 (po5:PySem.W.plainOver K eK5=true)
 (sa5:PySem.W.findIn K (.ref eK5) "__setattr__" = some (some (.builtin "object.__setattr__")))
 (ms5:PySem.W.makesIn K eK5=true)
 (in5:PySem.W.findIn K (.ref eK5) "__init__" = some (some (.builtin "object.__init__")))
 (kc5:PySem.W.keepIn K (.ref eK5)=true)
 (my5:PySem.W.findIn K (.ref eK5) "are_yards" = some (some (.ref fwY)))
 (mt6:PySem.W.findIn K (.ref eK6) "fits" = some (some (.ref fw6)))
 (lw6:K.lookup fw6=some ⟨ocw6,odw6,.func (PySem.W.fnOf "fits" "Worths.fits" (au (fSt 6)) (aq (fSt 6)) (aa (fSt 6)) .none kVw6 dcw6 pmw6 anw6 cdw6 ctw6),slw6⟩)
 (cw6:PySem.W.codeIn K cdw6 "Worths.fits" = true)
 (kw6:PySem.W.keepIn K (.ref fw6)=true)
 (fn6:PySem.W.isFn K (.ref fw6)=true)
 (pg6:PySem.W.plainGet K eK6 Str.empty=true)
 (hd6:PySem.W.hasDictIn K eK6=true)
 (po6:PySem.W.plainOver K eK6=true)
 (sa6:PySem.W.findIn K (.ref eK6) "__setattr__" = some (some (.builtin "object.__setattr__")))
 (ms6:PySem.W.makesIn K eK6=true)
 (in6:PySem.W.findIn K (.ref eK6) "__init__" = some (some (.builtin "object.__init__")))
 (kc6:PySem.W.keepIn K (.ref eK6)=true)
 (my6:PySem.W.findIn K (.ref eK6) "are_yards" = some (some (.ref fwY)))
 (mt7:PySem.W.findIn K (.ref eK7) "fits" = some (some (.ref fw7)))
 (lw7:K.lookup fw7=some ⟨ocw7,odw7,.func (PySem.W.fnOf "fits" "Goods.fits" (au (fSt 7)) (aq (fSt 7)) (aa (fSt 7)) .none kVw7 dcw7 pmw7 anw7 cdw7 ctw7),slw7⟩)
 (cw7:PySem.W.codeIn K cdw7 "Goods.fits" = true)
 (kw7:PySem.W.keepIn K (.ref fw7)=true)
 (fn7:PySem.W.isFn K (.ref fw7)=true)
 (pg7:PySem.W.plainGet K eK7 Str.empty=true)
 (hd7:PySem.W.hasDictIn K eK7=true)
 (po7:PySem.W.plainOver K eK7=true)
 (sa7:PySem.W.findIn K (.ref eK7) "__setattr__" = some (some (.builtin "object.__setattr__")))
 (ms7:PySem.W.makesIn K eK7=true)
 (in7:PySem.W.findIn K (.ref eK7) "__init__" = some (some (.builtin "object.__init__")))
 (kc7:PySem.W.keepIn K (.ref eK7)=true)
 (mt8:PySem.W.findIn K (.ref eK8) "fits" = some (some (.ref fw8)))
 (lw8:K.lookup fw8=some ⟨ocw8,odw8,.func (PySem.W.fnOf "fits" "Walks.fits" (au (fSt 8)) (aq (fSt 8)) (aa (fSt 8)) .none kVw8 dcw8 pmw8 anw8 cdw8 ctw8),slw8⟩)
 (cw8:PySem.W.codeIn K cdw8 "Walks.fits" = true)
 (kw8:PySem.W.keepIn K (.ref fw8)=true)
 (fn8:PySem.W.isFn K (.ref fw8)=true)
 (pg8:PySem.W.plainGet K eK8 Str.empty=true)
 (hd8:PySem.W.hasDictIn K eK8=true)
 (po8:PySem.W.plainOver K eK8=true)
 (sa8:PySem.W.findIn K (.ref eK8) "__setattr__" = some (some (.builtin "object.__setattr__")))
 (ms8:PySem.W.makesIn K eK8=true)
 (in8:PySem.W.findIn K (.ref eK8) "__init__" = some (some (.builtin "object.__init__")))
 (kc8:PySem.W.keepIn K (.ref eK8)=true)
 (mt9:PySem.W.findIn K (.ref eK9) "fits" = some (some (.ref fw9)))
 (lw9:K.lookup fw9=some ⟨ocw9,odw9,.func (PySem.W.fnOf "fits" "Sweeps.fits" (au (fSt 9)) (aq (fSt 9)) (aa (fSt 9)) .none kVw9 dcw9 pmw9 anw9 cdw9 ctw9),slw9⟩)
 (cw9:PySem.W.codeIn K cdw9 "Sweeps.fits" = true)
 (kw9:PySem.W.keepIn K (.ref fw9)=true)
 (fn9:PySem.W.isFn K (.ref fw9)=true)
 (pg9:PySem.W.plainGet K eK9 Str.empty=true)
 (hd9:PySem.W.hasDictIn K eK9=true)
 (po9:PySem.W.plainOver K eK9=true)
 (sa9:PySem.W.findIn K (.ref eK9) "__setattr__" = some (some (.builtin "object.__setattr__")))
 (ms9:PySem.W.makesIn K eK9=true)
 (in9:PySem.W.findIn K (.ref eK9) "__init__" = some (some (.builtin "object.__init__")))
 (kc9:PySem.W.keepIn K (.ref eK9)=true)
 (mt10:PySem.W.findIn K (.ref eK10) "fits" = some (some (.ref fw10)))
 (lw10:K.lookup fw10=some ⟨ocw10,odw10,.func (PySem.W.fnOf "fits" "Round.fits" (au (fSt 10)) (aq (fSt 10)) (aa (fSt 10)) .none kVw10 dcw10 pmw10 anw10 cdw10 ctw10),slw10⟩)
 (cw10:PySem.W.codeIn K cdw10 "Round.fits" = true)
 (kw10:PySem.W.keepIn K (.ref fw10)=true)
 (fn10:PySem.W.isFn K (.ref fw10)=true)
 (pg10:PySem.W.plainGet K eK10 Str.empty=true)
 (hd10:PySem.W.hasDictIn K eK10=true)
 (po10:PySem.W.plainOver K eK10=true)
 (sa10:PySem.W.findIn K (.ref eK10) "__setattr__" = some (some (.builtin "object.__setattr__")))
 (ms10:PySem.W.makesIn K eK10=true)
 (in10:PySem.W.findIn K (.ref eK10) "__init__" = some (some (.builtin "object.__init__")))
 (kc10:PySem.W.keepIn K (.ref eK10)=true)
 (lwY:K.lookup fwY=some ⟨ocwY,odwY,.func (PySem.W.fnOf "are_yards" "Yards.are_yards" (au bf) (aq bf) (aa bf) .none kVwY dcwY pmwY anwY cdwY ctwY),slwY⟩)
 (cwY:PySem.W.codeIn K cdwY "Yards.are_yards" = true)
 (kwY:PySem.W.keepIn K (.ref fwY)=true)
 (fnY:PySem.W.isFn K (.ref fwY)=true)
 (zisinstance:PySem.W.nsIn K mainGlobals "isinstance" = some none)
 (zint:PySem.W.nsIn K mainGlobals "int" = some none)
 (zbool:PySem.W.nsIn K mainGlobals "bool" = some none)
 (zlist:PySem.W.nsIn K mainGlobals "list" = some none)
 (zlen:PySem.W.nsIn K mainGlobals "len" = some none)
 (zall:PySem.W.nsIn K mainGlobals "all" = some none)
 (zsum:PySem.W.nsIn K mainGlobals "sum" = some none)
 (zrange:PySem.W.nsIn K mainGlobals "range" = some none)
 (zmax:PySem.W.nsIn K mainGlobals "max" = some none)
 (zmin:PySem.W.nsIn K mainGlobals "min" = some none)
 (zset:PySem.W.nsIn K mainGlobals "set" = some none)
 (zsorted:PySem.W.nsIn K mainGlobals "sorted" = some none)
 (zzip:PySem.W.nsIn K mainGlobals "zip" = some none)
 (zany:PySem.W.nsIn K mainGlobals "any" = some none)
 (zdict:PySem.W.nsIn K mainGlobals "dict" = some none)
 (zreversed:PySem.W.nsIn K mainGlobals "reversed" = some none)
 (ztuple:PySem.W.nsIn K mainGlobals "tuple" = some none)
 {tm:Tok} (zM:PySem.W.nsIn K mainGlobals "MOST_PLACES" = some (some (.int 12 tm)))
 (ii:PySem.W.kitOne K (.type "int") (.type "int")=some true) (ib:PySem.W.kitOne K (.type "int") (.type "bool")=some false) (ll:PySem.W.kitOne K (.type "list") (.type "list")=some true) (bb:PySem.W.kitOne K (.type "bool") (.type "bool")=some true) (tt:PySem.W.kitOne K (.type "tuple") (.type "tuple")=some true) :
 ∃fd:FuncData,(∀(s:Shared) (v:Value),BindsTo s fd ⟨[v],[]⟩ [("_law_script",v)])/\∀base:Heap,K.In base->base.Ns mainGlobals mg->FnOk l.prog w K mg base CX0 9 fa fd ["_law_script"] (spLaw K):=by
 have e:=hfa.symm.trans (PySem.W.mg_of X G aX);cases e;have B:Bi K mg:=⟨PySem.W.mg_none_of X G zisinstance,PySem.W.mg_none_of X G zint,PySem.W.mg_none_of X G zbool,PySem.W.mg_none_of X G zlist,PySem.W.mg_none_of X G zlen,PySem.W.mg_none_of X G zall,PySem.W.mg_none_of X G zsum,PySem.W.mg_none_of X G zrange,PySem.W.mg_none_of X G zmax,PySem.W.mg_none_of X G zmin,PySem.W.mg_none_of X G zset,PySem.W.mg_none_of X G zsorted,PySem.W.mg_none_of X G zzip,PySem.W.mg_none_of X G zany,PySem.W.mg_none_of X G zdict,PySem.W.mg_none_of X G zreversed,PySem.W.mg_none_of X G ztuple,ii,ib,ll,bb,tt⟩;have hM:=PySem.W.mg_of X G zM;have FW:=b8 (st:=bP) (ps:=["value"]) X G aW lW cW kW fun _ _ _ _ _ _ us hl=>match us,hl with | [_],_=>rfl
 have FP:=b8 (st:=d3) (ps:=["many", "value"]) X G aP lP cP kP fun _ _ _ _ _ _ us hl=>match us,hl with | [_,_],_=>rfl
 have FAP:=b8 (st:=bi) (ps:=["many", "some"]) X G aAP lAP cAP kAP fun _ _ _ _ _ _ us hl=>match us,hl with | [_,_],_=>rfl
 have FUN:=b8 (st:=bE) (ps:=["some"]) X G aUN lUN cUN kUN fun _ _ _ _ _ _ us hl=>match us,hl with | [_],_=>rfl
 have FRD:=b8 (st:=fK) (ps:=["many", "row"]) X G aRD lRD cRD kRD fun _ _ _ _ _ _ us hl=>match us,hl with | [_,_],_=>rfl
 have FI:=b8 (st:=cR) (ps:=["many", "roads"]) X G aI lI cI kI fun _ _ _ _ _ _ us hl=>match us,hl with | [_,_],_=>rfl
 have FC:=b8 (st:=e8) (ps:=["many", "roads"]) X G aC lC cC kC fun _ _ _ _ _ _ us hl=>match us,hl with | [_,_],_=>rfl
 have FN:=b8 (st:=f7) (ps:=["many", "roads"]) X G aN lN cN kN fun _ _ _ _ _ _ us hl=>match us,hl with | [_,_],_=>rfl
 have FS:=b8 (st:=dX) (ps:=["near", "goal"]) X G aS lS cS kS fun _ _ _ _ _ _ us hl=>match us,hl with | [_,_],_=>rfl
 have FLU:=b8 (st:=eA) (ps:=["many", "roads", "some"]) X G aLU lLU cLU kLU fun _ _ _ _ _ _ us hl=>match us,hl with | [_,_,_],_=>rfl
 have FAW:=b8 (st:=bI) (ps:=["many", "wants"]) X G aAW lAW cAW kAW fun _ _ _ _ _ _ us hl=>match us,hl with | [_,_],_=>rfl
 have FAG:=b8 (st:=bK) (ps:=["many", "gives"]) X G aAG lAG cAG kAG fun _ _ _ _ _ _ us hl=>match us,hl with | [_,_],_=>rfl
 have FWO:=b8 (st:=bz) (ps:=["yards", "worths"]) X G aWO lWO cWO kWO fun _ _ _ _ _ _ us hl=>match us,hl with | [_,_],_=>rfl
 have FSI:=b8 (st:=bJ) (ps:=["many", "some"]) X G aSI lSI cSI kSI fun _ _ _ _ _ _ us hl=>match us,hl with | [_,_],_=>rfl
 have FIH:=b8 (st:=cx) (ps:=["many", "row"]) X G aIH lIH cIH kIH fun _ _ _ _ _ _ us hl=>match us,hl with | [_,_],_=>rfl
 have FKI:=b8 (st:=e5) (ps:=[]) X G aKI lKI cKI kKI fun _ _ _ _ _ _ us hl=>match us,hl with | [],_=>rfl
 have FM:=b8 (st:=sMix) (ps:=["_law_number", "_law_k"]) X G aM lM cM kM fun _ _ _ _ _ _ us hl=>match us,hl with | [_,_],_=>rfl
 have FA:=b8 (st:=dO) (ps:=["_law_script", "_law_k"]) X G aA lA cA kA fun _ _ _ _ _ _ us hl=>match us,hl with | [_,_],_=>rfl
 have FLE:=b8 (st:=f8) (ps:=["_law_script", "_law_k"]) X G aLE lLE cLE kLE fun _ _ _ _ _ _ us hl=>match us,hl with | [_,_],_=>rfl
 have FD:=b8 (st:=dv) (ps:=["_law_left_here", "_law_base"]) X G aD lD cD kD fun _ _ _ _ _ _ us hl=>match us,hl with | [_,_],_=>rfl
 have FZ:=b8 (st:=fJ) (ps:=["_law_cell", "_law_k"]) X G aZ lZ cZ kZ fun _ _ _ _ _ _ us hl=>match us,hl with | [_,_],_=>rfl
 have FH:=b8 (st:=eB) (ps:=["_law_roads", "_law_many", "_law_cell"]) X G aH lH cH kH fun _ _ _ _ _ _ us hl=>match us,hl with | [_,_,_],_=>rfl
 have FT:=b8 (st:=fG) (ps:=["_law_script"]) X G aT lT cT kT fun _ _ _ _ _ _ us hl=>match us,hl with | [_],_=>rfl
 have FLL:=b8 (st:=dZ) (ps:=["_law_many", "_law_roads", "_law_left_here"]) X G aLL lLL cLL kLL fun _ _ _ _ _ _ us hl=>match us,hl with | [_,_,_],_=>rfl
 have FST:=b8 (st:=dY) (ps:=["_law_many", "_law_left_here", "_law_share"]) X G aST lST cST kST fun _ _ _ _ _ _ us hl=>match us,hl with | [_,_,_],_=>rfl
 have FAM:=b8 (st:=dk) (ps:=["_law_left_here", "_law_few"]) X G aAM lAM cAM kAM fun _ _ _ _ _ _ us hl=>match us,hl with | [_,_],_=>rfl
 have FAS:=b8 (st:=cg) (ps:=["_law_at", "_law_many", "_law_roads", "_law_script"]) X G aAS lAS cAS kAS fun _ _ _ _ _ _ us hl=>match us,hl with | [_,_,_,_],_=>rfl
 have FBT:=b8 (st:=fL) (ps:=["_law_rows", "_law_many", "_law_cell"]) X G aBT lBT cBT kBT fun _ _ _ _ _ _ us hl=>match us,hl with | [_,_,_],_=>rfl
 have FPL:=b8 (st:=cQ) (ps:=["_law_many", "_law_some", "_law_unlike"]) X G aPL lPL cPL kPL fun _ _ _ _ _ _ us hl=>match us,hl with | [_,_,_],_=>rfl
 have FLS:=b8 (st:=bX) (ps:=["_law_many", "_law_roads", "_law_yards"]) X G aLS lLS cLS kLS fun _ _ _ _ _ _ us hl=>match us,hl with | [_,_,_],_=>rfl
 have FDU:=b8 (st:=sDue) (ps:=["_law_at", "_law_many", "_law_roads", "_law_rows"]) X G aDU lDU cDU kDU fun _ _ _ _ _ _ us hl=>match us,hl with | [_,_,_,_],_=>rfl
 have FX:=b8 (st:=sLaw) (ps:=["_law_script"]) X G aX lX cX kX fun _ _ _ _ _ _ us hl=>match us,hl with | [_],_=>rfl
 have EK0:Nam mg "Middle" eK0:=⟨PySem.W.mg_of X G eaK0⟩;have EK1:Nam mg "Balance" eK1:=⟨PySem.W.mg_of X G eaK1⟩;have EK2:Nam mg "Wells" eK2:=⟨PySem.W.mg_of X G eaK2⟩;have EK3:Nam mg "Reach" eK3:=⟨PySem.W.mg_of X G eaK3⟩;have EK4:Nam mg "Spots" eK4:=⟨PySem.W.mg_of X G eaK4⟩;have EK5:Nam mg "Colours" eK5:=⟨PySem.W.mg_of X G eaK5⟩;have EK6:Nam mg "Worths" eK6:=⟨PySem.W.mg_of X G eaK6⟩;have EK7:Nam mg "Goods" eK7:=⟨PySem.W.mg_of X G eaK7⟩;have EK8:Nam mg "Walks" eK8:=⟨PySem.W.mg_of X G eaK8⟩;have EK9:Nam mg "Sweeps" eK9:=⟨PySem.W.mg_of X G eaK9⟩;have EK10:Nam mg "Round" eK10:=⟨PySem.W.mg_of X G eaK10⟩;refine⟨PySem.W.fnOf "law" "law" (au sLaw) (aq sLaw) (aa sLaw) .none kVX dcX pmX anX cdX ctX,fun s v=>.of_eq rfl,fun base _ _=>?_⟩;have W0:Fun K "fits" "Middle.fits" (fSt 0) fw0 (PySem.W.fnOf "fits" "Middle.fits" (au (fSt 0)) (aq (fSt 0)) (aa (fSt 0)) .none kVw0 dcw0 pmw0 anw0 cdw0 ctw0):=cc lw0 cw0 kw0;have W1:Fun K "fits" "Balance.fits" (fSt 1) fw1 (PySem.W.fnOf "fits" "Balance.fits" (au (fSt 1)) (aq (fSt 1)) (aa (fSt 1)) .none kVw1 dcw1 pmw1 anw1 cdw1 ctw1):=cc lw1 cw1 kw1;have W2:Fun K "fits" "Wells.fits" (fSt 2) fw2 (PySem.W.fnOf "fits" "Wells.fits" (au (fSt 2)) (aq (fSt 2)) (aa (fSt 2)) .none kVw2 dcw2 pmw2 anw2 cdw2 ctw2):=cc lw2 cw2 kw2;have W3:Fun K "fits" "Reach.fits" (fSt 3) fw3 (PySem.W.fnOf "fits" "Reach.fits" (au (fSt 3)) (aq (fSt 3)) (aa (fSt 3)) .none kVw3 dcw3 pmw3 anw3 cdw3 ctw3):=cc lw3 cw3 kw3;have W4:Fun K "fits" "Spots.fits" (fSt 4) fw4 (PySem.W.fnOf "fits" "Spots.fits" (au (fSt 4)) (aq (fSt 4)) (aa (fSt 4)) .none kVw4 dcw4 pmw4 anw4 cdw4 ctw4):=cc lw4 cw4 kw4;have W5:Fun K "fits" "Colours.fits" (fSt 5) fw5 (PySem.W.fnOf "fits" "Colours.fits" (au (fSt 5)) (aq (fSt 5)) (aa (fSt 5)) .none kVw5 dcw5 pmw5 anw5 cdw5 ctw5):=cc lw5 cw5 kw5;have W6:Fun K "fits" "Worths.fits" (fSt 6) fw6 (PySem.W.fnOf "fits" "Worths.fits" (au (fSt 6)) (aq (fSt 6)) (aa (fSt 6)) .none kVw6 dcw6 pmw6 anw6 cdw6 ctw6):=cc lw6 cw6 kw6;have W7:Fun K "fits" "Goods.fits" (fSt 7) fw7 (PySem.W.fnOf "fits" "Goods.fits" (au (fSt 7)) (aq (fSt 7)) (aa (fSt 7)) .none kVw7 dcw7 pmw7 anw7 cdw7 ctw7):=cc lw7 cw7 kw7;have W8:Fun K "fits" "Walks.fits" (fSt 8) fw8 (PySem.W.fnOf "fits" "Walks.fits" (au (fSt 8)) (aq (fSt 8)) (aa (fSt 8)) .none kVw8 dcw8 pmw8 anw8 cdw8 ctw8):=cc lw8 cw8 kw8;have W9:Fun K "fits" "Sweeps.fits" (fSt 9) fw9 (PySem.W.fnOf "fits" "Sweeps.fits" (au (fSt 9)) (aq (fSt 9)) (aa (fSt 9)) .none kVw9 dcw9 pmw9 anw9 cdw9 ctw9):=cc lw9 cw9 kw9;have W10:Fun K "fits" "Round.fits" (fSt 10) fw10 (PySem.W.fnOf "fits" "Round.fits" (au (fSt 10)) (aq (fSt 10)) (aa (fSt 10)) .none kVw10 dcw10 pmw10 anw10 cdw10 ctw10):=cc lw10 cw10 kw10;have WY:Fun K "are_yards" "Yards.are_yards" bf fwY (PySem.W.fnOf "are_yards" "Yards.are_yards" (au bf) (aq bf) (aa bf) .none kVwY dcwY pmwY anwY cdwY ctwY):=cc lwY cwY kwY;have TK:Kdf K mg (fun i=>[eK0,eK1,eK2,eK3,eK4,eK5,eK6,eK7,eK8,eK9,eK10].getD i 0) (fun i=>[fw0,fw1,fw2,fw3,fw4,fw5,fw6,fw7,fw8,fw9,fw10].getD i 0) (fun i=>match i with | 0=>PySem.W.fnOf "fits" "Middle.fits" (au (fSt 0)) (aq (fSt 0)) (aa (fSt 0)) .none kVw0 dcw0 pmw0 anw0 cdw0 ctw0 | 1=>PySem.W.fnOf "fits" "Balance.fits" (au (fSt 1)) (aq (fSt 1)) (aa (fSt 1)) .none kVw1 dcw1 pmw1 anw1 cdw1 ctw1 | 2=>PySem.W.fnOf "fits" "Wells.fits" (au (fSt 2)) (aq (fSt 2)) (aa (fSt 2)) .none kVw2 dcw2 pmw2 anw2 cdw2 ctw2 | 3=>PySem.W.fnOf "fits" "Reach.fits" (au (fSt 3)) (aq (fSt 3)) (aa (fSt 3)) .none kVw3 dcw3 pmw3 anw3 cdw3 ctw3 | 4=>PySem.W.fnOf "fits" "Spots.fits" (au (fSt 4)) (aq (fSt 4)) (aa (fSt 4)) .none kVw4 dcw4 pmw4 anw4 cdw4 ctw4 | 5=>PySem.W.fnOf "fits" "Colours.fits" (au (fSt 5)) (aq (fSt 5)) (aa (fSt 5)) .none kVw5 dcw5 pmw5 anw5 cdw5 ctw5 | 6=>PySem.W.fnOf "fits" "Worths.fits" (au (fSt 6)) (aq (fSt 6)) (aa (fSt 6)) .none kVw6 dcw6 pmw6 anw6 cdw6 ctw6 | 7=>PySem.W.fnOf "fits" "Goods.fits" (au (fSt 7)) (aq (fSt 7)) (aa (fSt 7)) .none kVw7 dcw7 pmw7 anw7 cdw7 ctw7 | 8=>PySem.W.fnOf "fits" "Walks.fits" (au (fSt 8)) (aq (fSt 8)) (aa (fSt 8)) .none kVw8 dcw8 pmw8 anw8 cdw8 ctw8 | 9=>PySem.W.fnOf "fits" "Sweeps.fits" (au (fSt 9)) (aq (fSt 9)) (aa (fSt 9)) .none kVw9 dcw9 pmw9 anw9 cdw9 ctw9 | _=>PySem.W.fnOf "fits" "Round.fits" (au (fSt 10)) (aq (fSt 10)) (aa (fSt 10)) .none kVw10 dcw10 pmw10 anw10 cdw10 ctw10) fwY (PySem.W.fnOf "are_yards" "Yards.are_yards" (au bf) (aq bf) (aa bf) .none kVwY dcwY pmwY anwY cdwY ctwY):=⟨
  (fun i hi=>match i,hi with | 0,_=>EK0.mg | 1,_=>EK1.mg | 2,_=>EK2.mg | 3,_=>EK3.mg | 4,_=>EK4.mg | 5,_=>EK5.mg | 6,_=>EK6.mg | 7,_=>EK7.mg | 8,_=>EK8.mg | 9,_=>EK9.mg | 10,_=>EK10.mg | m+11,h=>absurd h (by omega)),
  (fun i hi=>match i,hi with | 0,_=>⟨pg0,hd0,po0,sa0⟩ | 1,_=>⟨pg1,hd1,po1,sa1⟩ | 2,_=>⟨pg2,hd2,po2,sa2⟩ | 3,_=>⟨pg3,hd3,po3,sa3⟩ | 4,_=>⟨pg4,hd4,po4,sa4⟩ | 5,_=>⟨pg5,hd5,po5,sa5⟩ | 6,_=>⟨pg6,hd6,po6,sa6⟩ | 7,_=>⟨pg7,hd7,po7,sa7⟩ | 8,_=>⟨pg8,hd8,po8,sa8⟩ | 9,_=>⟨pg9,hd9,po9,sa9⟩ | 10,_=>⟨pg10,hd10,po10,sa10⟩ | m+11,h=>absurd h (by omega)),
  (fun i hi=>match i,hi with | 0,_=>⟨ms0,in0,kc0⟩ | 1,_=>⟨ms1,in1,kc1⟩ | 2,_=>⟨ms2,in2,kc2⟩ | 3,_=>⟨ms3,in3,kc3⟩ | 4,_=>⟨ms4,in4,kc4⟩ | 5,_=>⟨ms5,in5,kc5⟩ | 6,_=>⟨ms6,in6,kc6⟩ | 7,_=>⟨ms7,in7,kc7⟩ | 8,_=>⟨ms8,in8,kc8⟩ | 9,_=>⟨ms9,in9,kc9⟩ | 10,_=>⟨ms10,in10,kc10⟩ | m+11,h=>absurd h (by omega)),
  (fun i hi=>match i,hi with | 0,_=>⟨mt0,fn0,kw0⟩ | 1,_=>⟨mt1,fn1,kw1⟩ | 2,_=>⟨mt2,fn2,kw2⟩ | 3,_=>⟨mt3,fn3,kw3⟩ | 4,_=>⟨mt4,fn4,kw4⟩ | 5,_=>⟨mt5,fn5,kw5⟩ | 6,_=>⟨mt6,fn6,kw6⟩ | 7,_=>⟨mt7,fn7,kw7⟩ | 8,_=>⟨mt8,fn8,kw8⟩ | 9,_=>⟨mt9,fn9,kw9⟩ | 10,_=>⟨mt10,fn10,kw10⟩ | m+11,h=>absurd h (by omega)),
  (fun i hi=>match i,hi with | 0,_=>W0 | 1,_=>W1 | 2,_=>W2 | 3,_=>W3 | 4,_=>W4 | 5,_=>W5 | 6,_=>W6 | 7,_=>W7 | 8,_=>W8 | 9,_=>W9 | 10,_=>W10 | m+11,h=>absurd h (by omega)),
  (fun i hi=>match i,hi with | 0,_=>W0.binds (fun _ _ _ _ _ _ us hl=>match us,hl with | [_,_,_,_],_=>rfl) | 1,_=>W1.binds (fun _ _ _ _ _ _ us hl=>match us,hl with | [_,_,_,_],_=>rfl) | 2,_=>W2.binds (fun _ _ _ _ _ _ us hl=>match us,hl with | [_,_,_,_],_=>rfl) | 3,_=>W3.binds (fun _ _ _ _ _ _ us hl=>match us,hl with | [_,_,_,_],_=>rfl) | 4,_=>W4.binds (fun _ _ _ _ _ _ us hl=>match us,hl with | [_,_,_,_],_=>rfl) | 5,_=>W5.binds (fun _ _ _ _ _ _ us hl=>match us,hl with | [_,_,_,_],_=>rfl) | 6,_=>W6.binds (fun _ _ _ _ _ _ us hl=>match us,hl with | [_,_,_,_],_=>rfl) | 7,_=>W7.binds (fun _ _ _ _ _ _ us hl=>match us,hl with | [_,_,_,_],_=>rfl) | 8,_=>W8.binds (fun _ _ _ _ _ _ us hl=>match us,hl with | [_,_,_,_],_=>rfl) | 9,_=>W9.binds (fun _ _ _ _ _ _ us hl=>match us,hl with | [_,_,_,_],_=>rfl) | 10,_=>W10.binds (fun _ _ _ _ _ _ us hl=>match us,hl with | [_,_,_,_],_=>rfl) | m+11,h=>absurd h (by omega)),
  (fun i h4 h6=>match i,h4,h6 with | 4,_,_=>⟨my4,fnY,kwY⟩ | 5,_,_=>⟨my5,fnY,kwY⟩ | 6,_,_=>⟨my6,fnY,kwY⟩ | 0,h,_=>absurd h (by omega) | 1,h,_=>absurd h (by omega) | 2,h,_=>absurd h (by omega) | 3,h,_=>absurd h (by omega) | m+7,_,h=>absurd h (by omega)),
  WY,WY.binds (fun _ _ _ _ _ _ us hl=>match us,hl with | [_,_,_,_],_=>rfl)⟩
 have GI:FnOk l.prog w K mg base CX0 4 fI _ ["many", "roads"] fz:=ok_istree FI FW FP FRD FN FS B hM;have GC:FnOk l.prog w K mg base CX0 5 fC _ ["many", "roads"] gK:=ok_check FC FI GI;have GAP:FnOk l.prog w K mg base CX0 3 fAP _ ["many", "some"] dW:=ok_arep FAP FP FW B;have GUN:FnOk l.prog w K mg base CX0 1 fUN _ ["some"] iA:=je FUN B;have GLU:FnOk l.prog w K mg base CX0 6 fLU _ ["many", "roads", "some"] gJ:=ok_lump FLU FC FAP FUN GC GAP GUN B;have Z:FitC l.prog w K mg base:=⟨⟨_,_,FAW,ok_wantsB FAW FW B⟩,⟨_,_,FAG,ok_givesB FAG FW B⟩,⟨_,_,FWO,ok_worthsB FWO FW B⟩,⟨_,_,FSI,ok_sitesB FSI FAP FUN GAP B⟩,⟨_,_,FIH,ok_houseB FIH FW FP B⟩,⟨_,_,FAP,GAP⟩,⟨_,_,FW,cy FW B⟩,⟨_,_,FLU,GLU⟩⟩;exact ok_law FX FT FA FKI FAS FM FBT FDU (ok_tree FT FM FA FLE FD FZ FH B) (ok_ask FAS FLE FD FAM FST FA FLL ⟨_,_,FM⟩ B) (ok_due FDU FPL FLS B) TK Z B
end Tw
open PySem PySem.W PyProof.Rows
set_option maxRecDepth 100000 in
set_option maxHeartbeats 0 in
theorem PySem.Challenge.cw_treewells_k82_what_is_asked_holds : PySem.Challenge.rw_treewells_k82_what_is_asked.Holds := by
 w_on;o_law
 refine PySem.W.holds_open (q:=KH.kView) (loose:=[]) (N:=10863)
  (XP:=PySem.W.XL KH.kView []) (Xt:=(fun s=>PySem.W.xlAt KH.kView [] s&&PySem.W.recOk (PySem.W.RowW.records (PySem.W.OpenRow.toRowW PySem.Challenge.rw_treewells_k82_what_is_asked.row)) s))
  (Yf:=(PySem.W.kHook KH.kHeap KH.kAddrs KH.kAddrs_eq).obs) (Ya:=(PySem.W.kHook KH.kHeap KH.kAddrs KH.kAddrs_eq).val) (YP:=(PySem.W.kHook KH.kHeap KH.kAddrs KH.kAddrs_eq).says)
  KH.kLeft (PySem.W.Hook.of _) (PySem.W.Hook.keeps _)
  (fun s e=>PySem.W.xl_of s (Bool.and_eq_true_iff.mp e).1)
  PySem.W.XL.keeps (by rfl) (by rfl) (by rfl)
  (fun s e=>PySem.W.recFacts_of (Bool.and_eq_true_iff.mp e).2)
  (by rfl) (by first | assumption | decide +kernel)
  (by decide +kernel) ⟨rfl,rfl,rfl,rfl,rfl,by decide +kernel⟩ ?hw ?hc
 (case hw=>w_witness2)
 k_fill
 refine L2.walk_bits (l:=PySem.Challenge.rw_treewells_k82_what_is_asked) (n:=63) (k:=9) (x:="_law_script") (CX:=L2.CX0) (sp:=Tw.spLaw) rfl (by decide) rfl ⟨rfl,by decide,by decide⟩ (fun w h Y=>PySem.W.kIn_of Y) ?F ?S ?C
 case S=>exact fun K H a ns hl hb _ hS=>⟨a,ns,rfl,hS,hb,hl,fun _=>rfl⟩
 case C=>exact fun _ _ _ _ z=>z
 case F =>
  intro w mg fa h KX G hmg;refine' Tw.all_mk KX G hmg ?aW ?lW ?cW ?kW ?aP ?lP ?cP ?kP ?aAP ?lAP ?cAP ?kAP ?aUN ?lUN ?cUN ?kUN ?aRD ?lRD ?cRD ?kRD ?aI ?lI ?cI ?kI ?aC ?lC ?cC ?kC ?aN ?lN ?cN ?kN ?aS ?lS ?cS ?kS ?aLU ?lLU ?cLU ?kLU ?aAW ?lAW ?cAW ?kAW ?aAG ?lAG ?cAG ?kAG ?aWO ?lWO ?cWO ?kWO ?aSI ?lSI ?cSI ?kSI ?aIH ?lIH ?cIH ?kIH ?aKI ?lKI ?cKI ?kKI ?aM ?lM ?cM ?kM ?aA ?lA ?cA ?kA ?aLE ?lLE ?cLE ?kLE ?aD ?lD ?cD ?kD ?aZ ?lZ ?cZ ?kZ ?aH ?lH ?cH ?kH ?aT ?lT ?cT ?kT ?aLL ?lLL ?cLL ?kLL ?aST ?lST ?cST ?kST ?aAM ?lAM ?cAM ?kAM ?aAS ?lAS ?cAS ?kAS ?aBT ?lBT ?cBT ?kBT ?aPL ?lPL ?cPL ?kPL ?aLS ?lLS ?cLS ?kLS ?aDU ?lDU ?cDU ?kDU ?aX ?lX ?cX ?kX ?eaK0 ?eaK1 ?eaK2 ?eaK3 ?eaK4 ?eaK5 ?eaK6 ?eaK7 ?eaK8 ?eaK9 ?eaK10 ?mt0 ?lw0 ?cw0 ?kw0 ?fn0 ?pg0 ?hd0 ?po0 ?sa0 ?ms0 ?in0 ?kc0 ?mt1 ?lw1 ?cw1 ?kw1 ?fn1 ?pg1 ?hd1 ?po1 ?sa1 ?ms1 ?in1 ?kc1 ?mt2 ?lw2 ?cw2 ?kw2 ?fn2 ?pg2 ?hd2 ?po2 ?sa2 ?ms2 ?in2 ?kc2 ?mt3 ?lw3 ?cw3 ?kw3 ?fn3 ?pg3 ?hd3 ?po3 ?sa3 ?ms3 ?in3 ?kc3 ?mt4 ?lw4 ?cw4 ?kw4 ?fn4 ?pg4 ?hd4 ?po4 ?sa4 ?ms4 ?in4 ?kc4 ?my4 ?mt5 ?lw5 ?cw5 ?kw5 ?fn5 ?pg5 ?hd5 ?po5 ?sa5 ?ms5 ?in5 ?kc5 ?my5 ?mt6 ?lw6 ?cw6 ?kw6 ?fn6 ?pg6 ?hd6 ?po6 ?sa6 ?ms6 ?in6 ?kc6 ?my6 ?mt7 ?lw7 ?cw7 ?kw7 ?fn7 ?pg7 ?hd7 ?po7 ?sa7 ?ms7 ?in7 ?kc7 ?mt8 ?lw8 ?cw8 ?kw8 ?fn8 ?pg8 ?hd8 ?po8 ?sa8 ?ms8 ?in8 ?kc8 ?mt9 ?lw9 ?cw9 ?kw9 ?fn9 ?pg9 ?hd9 ?po9 ?sa9 ?ms9 ?in9 ?kc9 ?mt10 ?lw10 ?cw10 ?kw10 ?fn10 ?pg10 ?hd10 ?po10 ?sa10 ?ms10 ?in10 ?kc10 ?lwY ?cwY ?kwY ?fnY ?zisinstance ?zint ?zbool ?zlist ?zlen ?zall ?zsum ?zrange ?zmax ?zmin ?zset ?zsorted ?zzip ?zany ?zdict ?zreversed ?ztuple ?zM ?ii ?ib ?ll ?bb ?tt
  (case aW=>k_is)
  (case lW=>k_is)
  (case cW=>k_is)
  (case kW=>k_is)
  (case aP=>k_is)
  (case lP=>k_is)
  (case cP=>k_is)
  (case kP=>k_is)
  (case aAP=>k_is)
  (case lAP=>k_is)
  (case cAP=>k_is)
  (case kAP=>k_is)
  (case aUN=>k_is)
  (case lUN=>k_is)
  (case cUN=>k_is)
  (case kUN=>k_is)
  (case aRD=>k_is)
  (case lRD=>k_is)
  (case cRD=>k_is)
  (case kRD=>k_is)
  (case aI=>k_is)
  (case lI=>k_is)
  (case cI=>k_is)
  (case kI=>k_is)
  (case aC=>k_is)
  (case lC=>k_is)
  (case cC=>k_is)
  (case kC=>k_is)
  (case aN=>k_is)
  (case lN=>k_is)
  (case cN=>k_is)
  (case kN=>k_is)
  (case aS=>k_is)
  (case lS=>k_is)
  (case cS=>k_is)
  (case kS=>k_is)
  (case aLU=>k_is)
  (case lLU=>k_is)
  (case cLU=>k_is)
  (case kLU=>k_is)
  (case aAW=>k_is)
  (case lAW=>k_is)
  (case cAW=>k_is)
  (case kAW=>k_is)
  (case aAG=>k_is)
  (case lAG=>k_is)
  (case cAG=>k_is)
  (case kAG=>k_is)
  (case aWO=>k_is)
  (case lWO=>k_is)
  (case cWO=>k_is)
  (case kWO=>k_is)
  (case aSI=>k_is)
  (case lSI=>k_is)
  (case cSI=>k_is)
  (case kSI=>k_is)
  (case aIH=>k_is)
  (case lIH=>k_is)
  (case cIH=>k_is)
  (case kIH=>k_is)
  (case aKI=>k_is)
  (case lKI=>k_is)
  (case cKI=>k_is)
  (case kKI=>k_is)
  (case aM=>k_is)
  (case lM=>k_is)
  (case cM=>k_is)
  (case kM=>k_is)
  (case aA=>k_is)
  (case lA=>k_is)
  (case cA=>k_is)
  (case kA=>k_is)
  (case aLE=>k_is)
  (case lLE=>k_is)
  (case cLE=>k_is)
  (case kLE=>k_is)
  (case aD=>k_is)
  (case lD=>k_is)
  (case cD=>k_is)
  (case kD=>k_is)
  (case aZ=>k_is)
  (case lZ=>k_is)
  (case cZ=>k_is)
  (case kZ=>k_is)
  (case aH=>k_is)
  (case lH=>k_is)
  (case cH=>k_is)
  (case kH=>k_is)
  (case aT=>k_is)
  (case lT=>k_is)
  (case cT=>k_is)
  (case kT=>k_is)
  (case aLL=>k_is)
  (case lLL=>k_is)
  (case cLL=>k_is)
  (case kLL=>k_is)
  (case aST=>k_is)
  (case lST=>k_is)
  (case cST=>k_is)
  (case kST=>k_is)
  (case aAM=>k_is)
  (case lAM=>k_is)
  (case cAM=>k_is)
  (case kAM=>k_is)
  (case aAS=>k_is)
  (case lAS=>k_is)
  (case cAS=>k_is)
  (case kAS=>k_is)
  (case aBT=>k_is)
  (case lBT=>k_is)
  (case cBT=>k_is)
  (case kBT=>k_is)
  (case aPL=>k_is)
  (case lPL=>k_is)
  (case cPL=>k_is)
  (case kPL=>k_is)
  (case aLS=>k_is)
  (case lLS=>k_is)
  (case cLS=>k_is)
  (case kLS=>k_is)
  (case aDU=>k_is)
  (case lDU=>k_is)
  (case cDU=>k_is)
  (case kDU=>k_is)
  (case aX=>k_is)
  (case lX=>k_is)
  (case cX=>k_is)
  (case kX=>k_is)
  (case eaK0=>k_is)
  (case eaK1=>k_is)
  (case eaK2=>k_is)
  (case eaK3=>k_is)
  (case eaK4=>k_is)
  (case eaK5=>k_is)
  (case eaK6=>k_is)
  (case eaK7=>k_is)
  (case eaK8=>k_is)
  (case eaK9=>k_is)
  (case eaK10=>k_is)
  (case mt0=>first | k_is | kernel_rfl | rfl | decide +kernel)
  (case lw0=>first | k_is | kernel_rfl | rfl | decide +kernel)
  (case cw0=>first | k_is | kernel_rfl | rfl | decide +kernel)
  (case kw0=>first | k_is | kernel_rfl | rfl | decide +kernel)
  (case fn0=>first | k_is | kernel_rfl | rfl | decide +kernel)
  (case pg0=>first | k_is | kernel_rfl | rfl | decide +kernel)
  (case hd0=>first | k_is | kernel_rfl | rfl | decide +kernel)
  (case po0=>first | k_is | kernel_rfl | rfl | decide +kernel)
  (case sa0=>first | k_is | kernel_rfl | rfl | decide +kernel)
  (case ms0=>first | k_is | kernel_rfl | rfl | decide +kernel)
  (case in0=>first | k_is | kernel_rfl | rfl | decide +kernel)
  (case kc0=>first | k_is | kernel_rfl | rfl | decide +kernel)
  (case mt1=>first | k_is | kernel_rfl | rfl | decide +kernel)
  (case lw1=>first | k_is | kernel_rfl | rfl | decide +kernel)
  (case cw1=>first | k_is | kernel_rfl | rfl | decide +kernel)
  (case kw1=>first | k_is | kernel_rfl | rfl | decide +kernel)
  (case fn1=>first | k_is | kernel_rfl | rfl | decide +kernel)
  (case pg1=>first | k_is | kernel_rfl | rfl | decide +kernel)
  (case hd1=>first | k_is | kernel_rfl | rfl | decide +kernel)
  (case po1=>first | k_is | kernel_rfl | rfl | decide +kernel)
  (case sa1=>first | k_is | kernel_rfl | rfl | decide +kernel)
  (case ms1=>first | k_is | kernel_rfl | rfl | decide +kernel)
  (case in1=>first | k_is | kernel_rfl | rfl | decide +kernel)
  (case kc1=>first | k_is | kernel_rfl | rfl | decide +kernel)
  (case mt2=>first | k_is | kernel_rfl | rfl | decide +kernel)
  (case lw2=>first | k_is | kernel_rfl | rfl | decide +kernel)
  (case cw2=>first | k_is | kernel_rfl | rfl | decide +kernel)
  (case kw2=>first | k_is | kernel_rfl | rfl | decide +kernel)
  (case fn2=>first | k_is | kernel_rfl | rfl | decide +kernel)
  (case pg2=>first | k_is | kernel_rfl | rfl | decide +kernel)
  (case hd2=>first | k_is | kernel_rfl | rfl | decide +kernel)
  (case po2=>first | k_is | kernel_rfl | rfl | decide +kernel)
  (case sa2=>first | k_is | kernel_rfl | rfl | decide +kernel)
  (case ms2=>first | k_is | kernel_rfl | rfl | decide +kernel)
  (case in2=>first | k_is | kernel_rfl | rfl | decide +kernel)
  (case kc2=>first | k_is | kernel_rfl | rfl | decide +kernel)
  (case mt3=>first | k_is | kernel_rfl | rfl | decide +kernel)
  (case lw3=>first | k_is | kernel_rfl | rfl | decide +kernel)
  (case cw3=>first | k_is | kernel_rfl | rfl | decide +kernel)
  (case kw3=>first | k_is | kernel_rfl | rfl | decide +kernel)
  (case fn3=>first | k_is | kernel_rfl | rfl | decide +kernel)
  (case pg3=>first | k_is | kernel_rfl | rfl | decide +kernel)
  (case hd3=>first | k_is | kernel_rfl | rfl | decide +kernel)
  (case po3=>first | k_is | kernel_rfl | rfl | decide +kernel)
  (case sa3=>first | k_is | kernel_rfl | rfl | decide +kernel)
  (case ms3=>first | k_is | kernel_rfl | rfl | decide +kernel)
  (case in3=>first | k_is | kernel_rfl | rfl | decide +kernel)
  (case kc3=>first | k_is | kernel_rfl | rfl | decide +kernel)
  (case mt4=>first | k_is | kernel_rfl | rfl | decide +kernel)
  (case lw4=>first | k_is | kernel_rfl | rfl | decide +kernel)
  (case cw4=>first | k_is | kernel_rfl | rfl | decide +kernel)
  (case kw4=>first | k_is | kernel_rfl | rfl | decide +kernel)
  (case fn4=>first | k_is | kernel_rfl | rfl | decide +kernel)
  (case pg4=>first | k_is | kernel_rfl | rfl | decide +kernel)
  (case hd4=>first | k_is | kernel_rfl | rfl | decide +kernel)
  (case po4=>first | k_is | kernel_rfl | rfl | decide +kernel)
  (case sa4=>first | k_is | kernel_rfl | rfl | decide +kernel)
  (case ms4=>first | k_is | kernel_rfl | rfl | decide +kernel)
  (case in4=>first | k_is | kernel_rfl | rfl | decide +kernel)
  (case kc4=>first | k_is | kernel_rfl | rfl | decide +kernel)
  (case my4=>first | k_is | kernel_rfl | rfl | decide +kernel)
  (case mt5=>first | k_is | kernel_rfl | rfl | decide +kernel)
  (case lw5=>first | k_is | kernel_rfl | rfl | decide +kernel)
  (case cw5=>first | k_is | kernel_rfl | rfl | decide +kernel)
  (case kw5=>first | k_is | kernel_rfl | rfl | decide +kernel)
  (case fn5=>first | k_is | kernel_rfl | rfl | decide +kernel)
  (case pg5=>first | k_is | kernel_rfl | rfl | decide +kernel)
  (case hd5=>first | k_is | kernel_rfl | rfl | decide +kernel)
  (case po5=>first | k_is | kernel_rfl | rfl | decide +kernel)
  (case sa5=>first | k_is | kernel_rfl | rfl | decide +kernel)
  (case ms5=>first | k_is | kernel_rfl | rfl | decide +kernel)
  (case in5=>first | k_is | kernel_rfl | rfl | decide +kernel)
  (case kc5=>first | k_is | kernel_rfl | rfl | decide +kernel)
  (case my5=>first | k_is | kernel_rfl | rfl | decide +kernel)
  (case mt6=>first | k_is | kernel_rfl | rfl | decide +kernel)
  (case lw6=>first | k_is | kernel_rfl | rfl | decide +kernel)
  (case cw6=>first | k_is | kernel_rfl | rfl | decide +kernel)
  (case kw6=>first | k_is | kernel_rfl | rfl | decide +kernel)
  (case fn6=>first | k_is | kernel_rfl | rfl | decide +kernel)
  (case pg6=>first | k_is | kernel_rfl | rfl | decide +kernel)
  (case hd6=>first | k_is | kernel_rfl | rfl | decide +kernel)
  (case po6=>first | k_is | kernel_rfl | rfl | decide +kernel)
  (case sa6=>first | k_is | kernel_rfl | rfl | decide +kernel)
  (case ms6=>first | k_is | kernel_rfl | rfl | decide +kernel)
  (case in6=>first | k_is | kernel_rfl | rfl | decide +kernel)
  (case kc6=>first | k_is | kernel_rfl | rfl | decide +kernel)
  (case my6=>first | k_is | kernel_rfl | rfl | decide +kernel)
  (case mt7=>first | k_is | kernel_rfl | rfl | decide +kernel)
  (case lw7=>first | k_is | kernel_rfl | rfl | decide +kernel)
  (case cw7=>first | k_is | kernel_rfl | rfl | decide +kernel)
  (case kw7=>first | k_is | kernel_rfl | rfl | decide +kernel)
  (case fn7=>first | k_is | kernel_rfl | rfl | decide +kernel)
  (case pg7=>first | k_is | kernel_rfl | rfl | decide +kernel)
  (case hd7=>first | k_is | kernel_rfl | rfl | decide +kernel)
  (case po7=>first | k_is | kernel_rfl | rfl | decide +kernel)
  (case sa7=>first | k_is | kernel_rfl | rfl | decide +kernel)
  (case ms7=>first | k_is | kernel_rfl | rfl | decide +kernel)
  (case in7=>first | k_is | kernel_rfl | rfl | decide +kernel)
  (case kc7=>first | k_is | kernel_rfl | rfl | decide +kernel)
  (case mt8=>first | k_is | kernel_rfl | rfl | decide +kernel)
  (case lw8=>first | k_is | kernel_rfl | rfl | decide +kernel)
  (case cw8=>first | k_is | kernel_rfl | rfl | decide +kernel)
  (case kw8=>first | k_is | kernel_rfl | rfl | decide +kernel)
  (case fn8=>first | k_is | kernel_rfl | rfl | decide +kernel)
  (case pg8=>first | k_is | kernel_rfl | rfl | decide +kernel)
  (case hd8=>first | k_is | kernel_rfl | rfl | decide +kernel)
  (case po8=>first | k_is | kernel_rfl | rfl | decide +kernel)
  (case sa8=>first | k_is | kernel_rfl | rfl | decide +kernel)
  (case ms8=>first | k_is | kernel_rfl | rfl | decide +kernel)
  (case in8=>first | k_is | kernel_rfl | rfl | decide +kernel)
  (case kc8=>first | k_is | kernel_rfl | rfl | decide +kernel)
  (case mt9=>first | k_is | kernel_rfl | rfl | decide +kernel)
  (case lw9=>first | k_is | kernel_rfl | rfl | decide +kernel)
  (case cw9=>first | k_is | kernel_rfl | rfl | decide +kernel)
  (case kw9=>first | k_is | kernel_rfl | rfl | decide +kernel)
  (case fn9=>first | k_is | kernel_rfl | rfl | decide +kernel)
  (case pg9=>first | k_is | kernel_rfl | rfl | decide +kernel)
  (case hd9=>first | k_is | kernel_rfl | rfl | decide +kernel)
  (case po9=>first | k_is | kernel_rfl | rfl | decide +kernel)
  (case sa9=>first | k_is | kernel_rfl | rfl | decide +kernel)
  (case ms9=>first | k_is | kernel_rfl | rfl | decide +kernel)
  (case in9=>first | k_is | kernel_rfl | rfl | decide +kernel)
  (case kc9=>first | k_is | kernel_rfl | rfl | decide +kernel)
  (case mt10=>first | k_is | kernel_rfl | rfl | decide +kernel)
  (case lw10=>first | k_is | kernel_rfl | rfl | decide +kernel)
  (case cw10=>first | k_is | kernel_rfl | rfl | decide +kernel)
  (case kw10=>first | k_is | kernel_rfl | rfl | decide +kernel)
  (case fn10=>first | k_is | kernel_rfl | rfl | decide +kernel)
  (case pg10=>first | k_is | kernel_rfl | rfl | decide +kernel)
  (case hd10=>first | k_is | kernel_rfl | rfl | decide +kernel)
  (case po10=>first | k_is | kernel_rfl | rfl | decide +kernel)
  (case sa10=>first | k_is | kernel_rfl | rfl | decide +kernel)
  (case ms10=>first | k_is | kernel_rfl | rfl | decide +kernel)
  (case in10=>first | k_is | kernel_rfl | rfl | decide +kernel)
  (case kc10=>first | k_is | kernel_rfl | rfl | decide +kernel)
  (case lwY=>first | k_is | kernel_rfl | rfl | decide +kernel)
  (case cwY=>first | k_is | kernel_rfl | rfl | decide +kernel)
  (case kwY=>first | k_is | kernel_rfl | rfl | decide +kernel)
  (case fnY=>first | k_is | kernel_rfl | rfl | decide +kernel)
  (case zisinstance=>k_is)
  (case zint=>k_is)
  (case zbool=>k_is)
  (case zlist=>k_is)
  (case zlen=>k_is)
  (case zall=>k_is)
  (case zsum=>k_is)
  (case zrange=>k_is)
  (case zmax=>k_is)
  (case zmin=>k_is)
  (case zset=>k_is)
  (case zsorted=>k_is)
  (case zzip=>k_is)
  (case zany=>k_is)
  (case zdict=>k_is)
  (case zreversed=>k_is)
  (case ztuple=>k_is)
  (case zM=>k_is)
  (case ii=>first | k_is | kernel_rfl | rfl | decide +kernel)
  (case ib=>first | k_is | kernel_rfl | rfl | decide +kernel)
  (case ll=>first | k_is | kernel_rfl | rfl | decide +kernel)
  (case bb=>first | k_is | kernel_rfl | rfl | decide +kernel)
  (case tt=>first | k_is | kernel_rfl | rfl | decide +kernel)
