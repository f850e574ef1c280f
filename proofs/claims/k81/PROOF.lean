import PyProof.Rows.All
import Wide.All
import OpenK.AllK
import Wide.FinOn
import Lean
import PyProof.EqAt
import PyProof.EqKinds
import PyProof.TupleCall
import PySem.Challenge.RW_treewells_k81_the_eleven_kinds
set_option Elab.async false
set_option linter.all false
set_option maxRecDepth 100000
set_option maxHeartbeats 4000000
namespace KH
open PySem PySem.W
def bS (tb:String->Option Builtin)(p:Program)(w:World)(n₀:Nat)(ann:Option Value):Nat->SharedT->Thread->Option SharedT
 | 0,_,_=>none
 | n+1,s,t=>match through t with
  | true=>some s
  | false=>match stepOk n₀ ann t with
   | false=>none
   | true=>match stepT (denote tb) p w s t with
    | some (s',t')=>bS tb p w n₀ ann n s' t'
    | none=>none
theorem ck {tb:String->Option Builtin}{p:Program}{w:World}{n₀:Nat}{ann:Option Value}:∀{n:Nat} {s s':SharedT} {t:Thread},bS tb p w n₀ ann n s t=some s'->topRun tb p w n₀ ann n s.abs t=some s'.abs
 | 0,_,_,_,h=>by cases h
 | n+1,s,s',t,h=>by
  unfold bS at h;unfold topRun;cases he:through t with
  | true=>rw[he]at h;cases h;rfl
  | false =>
   rw[he]at h;cases hk:stepOk n₀ ann t with
   | false=>rw[hk]at h;cases h
   | true =>
    rw[hk]at h;cases hs:stepT (denote tb) p w s t with
    | none=>rw[hs]at h;cases h
    | some r=>obtain⟨s₂,t₂⟩:=r;rw[hs]at h;dsimp only;rw[stepT_spec hs];exact ck h
def bM:List Obj->Nat->BT->Option BT
 | [],_,t=>some t
 | o::l,n,t=>match ((t.ins n o).get n).isSome with
  | true=>bM l (n+1) (t.ins n o)
  | false=>none
theorem cu {life:Life}:∀{l:List Obj} {n:Nat} {t t':BT},bM l n t=some t'->absHeap t' (n+l.length) life=⟨(absHeap t n life).objs++l.toArray,life⟩
 | [],n,t,t',h=>by cases h;simp[absHeap]
 | o::l,n,t,t',h=>by
  unfold bM at h;cases e:((t.ins n o).get n).isSome with
  | false=>rw[e]at h;cases h
  | true =>
   rw[e]at h;have:=cu (life:=life) h;rw[absHeap_ins e]at this;rw[List.length_cons,show n+(l.length+1)=n+1+l.length by omega,this]
   simp[Heap.push]
def bW (tb:String->Option Builtin)(p:Program)(w:World)(n₀:Nat)(ann:Option Value):Nat->SharedT->Thread->Option (SharedT×Thread)
 | 0,s,t=>some (s,t)
 | n+1,s,t=>match through t with
  | true=>none
  | false=>match stepOk n₀ ann t with
   | false=>none
   | true=>match stepT (denote tb) p w s t with
    | some (s',t')=>bW tb p w n₀ ann n s' t'
    | none=>none
theorem cJ {tb:String->Option Builtin}{p:Program}{w:World}{n₀:Nat}{ann:Option Value}:∀{n:Nat} {s s':SharedT} {t t':Thread},bW tb p w n₀ ann n s t=some (s',t')->topGo tb p w n₀ ann n s.abs t=some (s'.abs,t')
 | 0,_,_,_,_,h=>by cases h;rfl
 | n+1,s,s',t,t',h=>by
  unfold bW at h;unfold topGo;cases he:through t with
  | true=>rw[he]at h;cases h
  | false =>
   rw[he]at h;cases hk:stepOk n₀ ann t with
   | false=>rw[hk]at h;cases h
   | true =>
    rw[hk]at h;cases hs:stepT (denote tb) p w s t with
    | none=>rw[hs]at h;cases h
    | some r=>obtain⟨s₂,t₂⟩:=r;rw[hs]at h;dsimp only;rw[stepT_spec hs];exact cJ h
def kT (l:List Obj):BT:=(bM l 0 .nil).getD .nil
def df (p:Program)(n:Nat)(S:World->OsState->SharedT)(t:Thread)(m₀:Nat)(ann:Option Value){α:Type}(g:World->Shared->α)(v:World->α):Prop:=
 ∀(w:World) (os:OsState),((bS treeTable p w m₀ ann n (S w os) t).map fun s=>g w s.abs)=some (v w)
theorem left_of2 {p q:Program}{loose:List Str}{Xt:Shared->Bool}{α:Type}{Yf:Shared->α}{Ya:World->α}{N:Nat}{H₀:Params->Heap}{gs₀:Array GenState}{d₀:Drawn}{k₀ m₀:Nat}{ann:Option Value}{life:Life}
 {S0 S1 S2:World->OsState->SharedT} {l1 l2:List Stmt} {env:Env} {c:Code} {pos p1 p2 qf:Pos} {n0 n1 n2 n3:Nat}
 (open_:∀w:World,(fencedOpening treeTable p w N).map (fun s=>(s.heap,s.gens,s.drawn,s.toks))=some (H₀ w.params,gs₀,d₀,k₀))
 (size:∀w:World,((H₀ w.params).isNs mainGlobals&&gs₀.size == 0,(H₀ w.params).objs.size,(H₀ w.params).nsMap mainGlobals "__annotations__", (H₀ w.params).life)=(true,m₀,ann,life))
 (hN:n0+(1+(n1+(n2+n3)))=N)
 (hA:∀(w:World) (os:OsState),((bM (H₀ w.params).objs.toList 0 .nil).bind fun t=>bW treeTable p w m₀ ann n0 ⟨t,m₀,life,gs₀,d₀,k₀,os⟩ (topStub p))=some (S0 w os,⟨denote treeTable (.body (l1++(l2++[])) env),c,pos,[topFrame qf]⟩))
 (hB:∀(w:World) (os:OsState),segRunT treeTable p w m₀ ann 1 1 (S0 w os) (blockOf (l1++(l2++[])) env c pos [topFrame qf])=some (.next,S0 w os,c,pos))
 (hC:∀(w:World) (os:OsState),segRunT treeTable p w m₀ ann 1 n1 (S0 w os) (piecesOf l1 env c pos [topFrame qf])=some (.next,S1 w os,c,p1))
 (hD:∀(w:World) (os:OsState),segRunT treeTable p w m₀ ann 1 n2 (S1 w os) (piecesOf l2 env c p1 [topFrame qf])=some (.next,S2 w os,c,p2))
 (ha:df p n3 S2 (restOf [] env c p2 [topFrame qf]) m₀ ann (fun w s=>staticsOk (importedModules p.main.body) (H₀ w.params) s.heap&&namesBound p s.heap&&gensDone s&&laidKept (H₀ w.params) s.heap) (fun _=>true))
 (hb:df p n3 S2 (restOf [] env c p2 [topFrame qf]) m₀ ann (fun _ s=>openSeen q loose (importedModules p.main.body) Xt true s) (fun _=>openGood q loose))
 (hc:df p n3 S2 (restOf [] env c p2 [topFrame qf]) m₀ ann (fun _ s=>Yf s) Ya) :
 LeftO p q loose Xt Yf Ya N:=fun w=>by
 obtain⟨⟨hp,gs,d,k,os⟩,e,e'⟩:=Option.map_eq_some_iff.mp (open_ w);obtain⟨rfl,rfl,rfl,rfl⟩:hp=H₀ w.params/\gs=gs₀/\d=d₀/\k=k₀:=by simpa using e'
 obtain⟨z1,z2,z3,z4⟩:_/\_/\_/\_:=by simpa only [Prod.mk.injEq] using size w
 obtain⟨t,ht,h0⟩:=Option.bind_eq_some_iff.mp (hA w os);obtain⟨s,hs,l1'⟩:=Option.map_eq_some_iff.mp (ha w os);change (staticsOk (importedModules p.main.body) (H₀ w.params) s.abs.heap&&namesBound p s.abs.heap&&gensDone s.abs&&laidKept (H₀ w.params) s.abs.heap)=true at l1';have l2':openSeen q loose (importedModules p.main.body) Xt true s.abs=openGood q loose:=by
  obtain⟨s',hs',l⟩:=Option.map_eq_some_iff.mp (hb w os);rw[hs]at hs';cases hs';exact l
 have l3:Yf s.abs=Ya w:=by
  obtain⟨s',hs',l⟩:=Option.map_eq_some_iff.mp (hc w os);rw[hs]at hs';cases hs';exact l
 have ab:(⟨t,m₀,life,gs,d,k,os⟩:SharedT).abs=⟨H₀ w.params,gs,d,k,os⟩:=by
  have:=cu (life:=life) ht;rw[Nat.zero_add,Array.length_toList,z2]at this;show Shared.mk (absHeap t m₀ life) gs d k os=_;rw[this,←z4];have e0:(absHeap BT.nil 0 (H₀ w.params).life).objs = #[]:=by simp[absHeap,BT.list]
  rw[e0];simp
 have r:=go_top (cJ h0) (piece_block (segRun_of (hB w os)) (piece_app (segRun_of (hC w os)) (piece_app (segRun_of (hD w os)) (ck hs))));rw[ab,hN]at r;have T:topFrom treeTable p w N ⟨H₀ w.params,gs,d,k,os⟩=some s.abs:=by
  unfold topFrom;dsimp only;rw[z1,z2,z3,r];show(match staticsOk (importedModules p.main.body) (H₀ w.params) s.abs.heap&&namesBound p s.abs.heap&&gensDone s.abs&&laidKept (H₀ w.params) s.abs.heap with | true=>_ | false=>_)=_
  rw[l1']
 unfold openEnds;rw[e];show(topFrom treeTable p w N _).map _=_;rw[T];exact congrArg some (Prod.ext l2' l3)
end KH
namespace KH
open PySem PySem.W
def top (i:Nat):Stmt:=PySem.Challenge.pw_treewells_k81_the_eleven_kinds.main.body.getD i (.Pass ⟨0,0,0,0⟩)
def kA (s:Stmt):Arguments:=match s with
 | .FunctionDef _ x _ _ _ _ _ _ _ _=>x
 | _=>⟨[],[],none,[],[],none,[]⟩
def kB (s:Stmt):List Stmt:=match s with
 | .FunctionDef _ _ x _ _ _ _ _ _ _=>x
 | _=>[]
def kS (s:Stmt):Scope:=match s with
 | .FunctionDef _ _ _ _ _ _ x _ _ _=>x
 | _=>{ kind:=.function,names:=[],isGenerator:=false,isCoroutine:=false }
def kM (s:Stmt)(j:Nat):Stmt:=match s with
 | .ClassDef _ _ _ x _ _ _ _ _ _ _=>x.getD j (.Pass ⟨0,0,0,0⟩)
 | _=>.Pass ⟨0,0,0,0⟩
def kE (P:Params)(x:Str)(t:Nat)(v:Value):DictEntry:=.mk (PyData.keyHash P x) (.str x t) v
noncomputable def bo (P:Params) (i:Nat):Obj:=(PySem.W.boot_heap P).objs.toList.getD i default
abbrev O:Type:=Params->Obj
noncomputable section
def o0:O:=fun P=>bo P 0
def o1:O:=fun P=>.mk (.type "dict") none (.dict #[kE P "builtins" 162 (.ref 4),kE P "__main__" 163 (.ref 5)] 2) #[]
def o2:O:=fun P=>.mk .none none (.dict #[]) #[]
def o3:O:=fun P=>.mk (.type "dict") none (.dict #[kE P "__name__" 165 (.str "law_treewells_k81_the_eleven_kinds" 1670),kE P "__doc__" 166 .none,kE P "__package__" 167 .none,kE P "__loader__" 168 (.builtin "__main__.__loader__#opaque"),kE P "__spec__" 169 .none,kE P "__annotations__" 170 (.ref 6),kE P "__builtins__" 171 (.ref 4),kE P "__file__" 173 (.str "/claim/cut.py" 172),kE P "__cached__" 174 .none,kE P "_wall" 193 (.ref 21),kE P "TreeError" 213 (.ref 31),kE P "NoTree" 229 (.ref 44),kE P "NoPlace" 245 (.ref 56),kE P "NoRoad" 261 (.ref 68),kE P "NoSpot" 277 (.ref 80),kE P "NoSite" 293 (.ref 92),kE P "NoYard" 309 (.ref 104),kE P "NoWorth" 325 (.ref 116),kE P "NoGift" 341 (.ref 128),kE P "NoText" 357 (.ref 140),kE P "NoKind" 373 (.ref 152),kE P "NoQuestion" 389 (.ref 164),kE P "NoRow" 405 (.ref 176),kE P "NoName" 421 (.ref 188),kE P "Question" 547 (.ref 270),kE P "Middle" 632 (.ref 333),kE P "Balance" 717 (.ref 394),kE P "Digging" 769 (.ref 427),kE P "Wells" 865 (.ref 495),kE P "Reach" 952 (.ref 556),kE P "Goods" 1037 (.ref 617),kE P "Yards" 1074 (.ref 643),kE P "Spots" 1159 (.ref 704),kE P "Colours" 1244 (.ref 765),kE P "Worths" 1353 (.ref 840),kE P "Sweeping" 1388 (.ref 866),kE P "Walks" 1473 (.ref 927),kE P "Sweeps" 1558 (.ref 988),kE P "Round" 1653 (.ref 1056),kE P "kinds" 1661 (.ref 1065),kE P "kind_of" 1669 (.ref 1072),kE P "_law_mix" 1680 (.ref 1079),kE P "_law_words" 1687 (.ref 1086),kE P "_law_word" 1693 (.ref 1091),kE P "_law_marks" 1701 (.ref 1098),kE P "_law_is_kind" 1707 (.ref 1103),kE P "_law_refused" 1716 (.ref 1110),kE P "law" 1729 (.ref 1117)] 48) #[]
def o4:O:=fun P=>.mk (.type "module") (some 0) Data.plain #[]
def o5:O:=fun P=>.mk (.type "module") (some 3) Data.plain #[]
def o6:O:=fun P=>.mk (.type "dict") none (.dict #[]) #[]
def o7:O:=fun P=>.mk (.type "tuple") none (.seq #[]) #[]
def o8:O:=fun P=>.mk .none none (.fields #[]) #[]
def o9:O:=fun P=>.mk (.type "code") none (.fields #[.str "<module>" 176,.str "<module>" 177,.str "/claim/cut.py" 178,.int 1 0,.int 0 0,.int 0 0,.int 0 0,.int 0 0,.ref 7,.bool false,.int 175 0,.ref 8,.none,.none,.none,.none,.int 179 0,.int 1 0,.str "/claim/cut.py" 180]) #[]
def o10:O:=fun P=>.mk (.type "frame") none Data.plain #[some (.ref 9),some (.ref 3),some (.ref 3),none,some (.str "__main__" 164),none,some (.ref 0)]
def o11:O:=fun P=>.mk (.type "tuple") none (.seq #[]) #[]
def o12:O:=fun P=>.mk .none none (.fields #[.int 1 0,.int 0 0,.ref 20,.int 5 0,.int 0 0,.ref 27,.int 7 0,.int 0 0,.ref 40,.int 9 0,.int 0 0,.ref 52,.int 11 0,.int 0 0,.ref 64,.int 13 0,.int 0 0,.ref 76,.int 15 0,.int 0 0,.ref 88,.int 17 0,.int 0 0,.ref 100,.int 19 0,.int 0 0,.ref 112,.int 21 0,.int 0 0,.ref 124,.int 23 0,.int 0 0,.ref 136,.int 25 0,.int 0 0,.ref 148,.int 27 0,.int 0 0,.ref 160,.int 29 0,.int 0 0,.ref 172,.int 31 0,.int 0 0,.ref 184,.int 34 0,.int 0 0,.ref 196,.int 65 0,.int 0 0,.ref 280,.int 87 0,.int 0 0,.ref 341,.int 109 0,.int 0 0,.ref 402,.int 119 0,.int 0 0,.ref 435,.int 144 0,.int 0 0,.ref 503,.int 166 0,.int 0 0,.ref 564,.int 189 0,.int 0 0,.ref 625,.int 196 0,.int 0 0,.ref 651,.int 218 0,.int 0 0,.ref 712,.int 240 0,.int 0 0,.ref 773,.int 268 0,.int 0 0,.ref 848,.int 275 0,.int 0 0,.ref 874,.int 297 0,.int 0 0,.ref 935,.int 319 0,.int 0 0,.ref 996,.int 345 0,.int 0 0,.ref 1064,.int 347 0,.int 0 0,.ref 1071,.int 353 0,.int 0 0,.ref 1078,.int 356 0,.int 0 0,.ref 1085,.int 359 0,.int 0 0,.ref 1090,.int 378 0,.int 0 0,.ref 1097,.int 384 0,.int 0 0,.ref 1102,.int 391 0,.int 0 0,.ref 1109,.int 402 0,.int 0 0,.ref 1116]) #[]
def o13:O:=fun P=>.mk (.type "code") none (.fields #[.str "<module>" 182,.str "<module>" 183,.str "/claim/cut.py" 184,.int 1 0,.int 0 0,.int 0 0,.int 0 0,.int 0 0,.ref 11,.bool false,.int 181 0,.ref 12,.none,.none,.none,.none,.int 185 0,.int 1 0,.str "/claim/cut.py" 186]) #[]
def o14:O:=fun P=>.mk (.type "frame") none Data.plain #[some (.ref 13),some (.ref 3),some (.ref 3),none,some (.str "__main__" 164),none,some (.ref 0)]
def o15:O:=fun P=>.mk (.type "tuple") none (.seq #[]) #[]
def o16:O:=fun P=>.mk .none none (.fields #[]) #[]
def o17:O:=fun P=>.mk (.type "tuple") none (.seq #[.str "k" 190]) #[]
def o18:O:=fun P=>.mk (.type "tuple") none (.seq #[]) #[]
def o19:O:=fun P=>.mk .none none (.func (.mk "_wall" "_wall" (kA (top 0)) (.stmts (kB (top 0))) (kS (top 0)) 0 [] .none .none .none .none none .none .none 0)) #[]
def o20:O:=fun P=>.mk (.type "code") none (.fields #[.str "_wall" 187,.str "_wall" 188,.str "/claim/cut.py" 189,.int 1 0,.int 1 0,.int 0 0,.int 0 0,.int 3 0,.ref 15,.bool true,.int 181 0,.ref 16,.none,.ref 17,.ref 18,.ref 19,.int 191 0,.int 1 0,.str "/claim/cut.py" 192]) #[]
def o21:O:=fun P=>.mk (.type "function") none (.func (.mk "_wall" "_wall" (kA (top 0)) (.stmts (kB (top 0))) (kS (top 0)) 3 [] .none .none .none (.str "__main__" 164) none (.ref 20) .none 0)) #[]
def o22:O:=fun P=>.mk (.type "tuple") none (.seq #[.type "ValueError"]) #[]
def o23:O:=fun P=>.mk (.type "builtin_function_or_method") none (.fields #[.builtin "type.__prepare__", .type "type"]) #[]
def o24:O:=fun P=>.mk (.type "dict") none (.dict #[kE P "__module__" 203 (.str "treewells.errors" 194),kE P "__qualname__" 205 (.str "TreeError" 204),kE P "__firstlineno__" 207 (.int 5 206),kE P "__static_attributes__" 208 (.ref 29)] 4) #[]
def o25:O:=fun P=>.mk (.type "tuple") none (.seq #[]) #[]
def o26:O:=fun P=>.mk .none none (.fields #[]) #[]
def o27:O:=fun P=>.mk (.type "code") none (.fields #[.str "TreeError" 198,.str "TreeError" 199,.str "/claim/cut.py" 200,.int 5 0,.int 0 0,.int 0 0,.int 0 0,.int 0 0,.ref 25,.bool false,.int 181 0,.ref 26,.none,.none,.none,.none,.int 201 0,.int 5 0,.str "/claim/cut.py" 202]) #[]
def o28:O:=fun P=>.mk (.type "frame") none Data.plain #[some (.ref 27),some (.ref 3),some (.ref 24),none,some (.str "treewells.errors" 194),none,some (.ref 0)]
def o29:O:=fun P=>.mk (.type "tuple") none (.seq #[]) #[]
def o30:O:=fun P=>.mk (.type "dict") none (.dict #[kE P "__module__" 203 (.str "treewells.errors" 194),kE P "__firstlineno__" 207 (.int 5 206),kE P "__static_attributes__" 208 (.ref 29),kE P "__weakref__" 210 (.ref 32),kE P "__doc__" 211 .none] 3) #[]
def o31:O:=fun P=>.mk (.type "type") none (Data.cls (ClassData.mk "TreeError" [.type "ValueError"] [.ref 31,.type "ValueError", .type "Exception", .type "BaseException", .type "object"] 30 "TreeError" true [] [.ref 44,.ref 56,.ref 68,.ref 80,.ref 92,.ref 104,.ref 116,.ref 128,.ref 140,.ref 152,.ref 164,.ref 176,.ref 188] false none false)) #[some (.ref 22),none,some (.str "TreeError" 196),some (.str "TreeError" 204),some (.builtin "ValueError.__new__"),some (.bool true)]
def o32:O:=fun P=>.mk (.type "getset_descriptor") none (.fields #[.str "__weakref__" 209,.ref 31,.builtin "ExceptionGroup.__weakref__", .none]) #[]
def o33:O:=fun P=>.mk (.type "super") none (.fields #[.ref 31,.ref 31,.ref 31]) #[]
def o34:O:=fun P=>.mk (.type "builtin_function_or_method") none (.fields #[.builtin "object.__init_subclass__", .ref 31]) #[]
def o35:O:=fun P=>.mk (.type "tuple") none (.seq #[.ref 31]) #[]
def o36:O:=fun P=>.mk (.type "builtin_function_or_method") none (.fields #[.builtin "type.__prepare__", .type "type"]) #[]
def o37:O:=fun P=>.mk (.type "dict") none (.dict #[kE P "__module__" 221 (.str "treewells.errors" 194),kE P "__qualname__" 223 (.str "NoTree" 222),kE P "__firstlineno__" 225 (.int 7 224),kE P "__static_attributes__" 226 (.ref 42)] 4) #[]
def o38:O:=fun P=>.mk (.type "tuple") none (.seq #[]) #[]
def o39:O:=fun P=>.mk .none none (.fields #[]) #[]
def o40:O:=fun P=>.mk (.type "code") none (.fields #[.str "NoTree" 216,.str "NoTree" 217,.str "/claim/cut.py" 218,.int 7 0,.int 0 0,.int 0 0,.int 0 0,.int 0 0,.ref 38,.bool false,.int 181 0,.ref 39,.none,.none,.none,.none,.int 219 0,.int 7 0,.str "/claim/cut.py" 220]) #[]
def o41:O:=fun P=>.mk (.type "frame") none Data.plain #[some (.ref 40),some (.ref 3),some (.ref 37),none,some (.str "treewells.errors" 194),none,some (.ref 0)]
def o42:O:=fun P=>.mk (.type "tuple") none (.seq #[]) #[]
def o43:O:=fun P=>.mk (.type "dict") none (.dict #[kE P "__module__" 221 (.str "treewells.errors" 194),kE P "__firstlineno__" 225 (.int 7 224),kE P "__static_attributes__" 226 (.ref 42),kE P "__doc__" 227 .none] 2) #[]
def o44:O:=fun P=>.mk (.type "type") none (Data.cls (ClassData.mk "NoTree" [.ref 31] [.ref 44,.ref 31,.type "ValueError", .type "Exception", .type "BaseException", .type "object"] 43 "NoTree" true [] [] false none false)) #[some (.ref 35),none,some (.str "NoTree" 214),some (.str "NoTree" 222),some (.builtin "ValueError.__new__"),some (.bool true)]
def o45:O:=fun P=>.mk (.type "super") none (.fields #[.ref 44,.ref 44,.ref 44]) #[]
def o46:O:=fun P=>.mk (.type "builtin_function_or_method") none (.fields #[.builtin "object.__init_subclass__", .ref 44]) #[]
def o47:O:=fun P=>.mk (.type "tuple") none (.seq #[.ref 31]) #[]
def o48:O:=fun P=>.mk (.type "builtin_function_or_method") none (.fields #[.builtin "type.__prepare__", .type "type"]) #[]
def o49:O:=fun P=>.mk (.type "dict") none (.dict #[kE P "__module__" 237 (.str "treewells.errors" 194),kE P "__qualname__" 239 (.str "NoPlace" 238),kE P "__firstlineno__" 241 (.int 9 240),kE P "__static_attributes__" 242 (.ref 54)] 4) #[]
def o50:O:=fun P=>.mk (.type "tuple") none (.seq #[]) #[]
def o51:O:=fun P=>.mk .none none (.fields #[]) #[]
def o52:O:=fun P=>.mk (.type "code") none (.fields #[.str "NoPlace" 232,.str "NoPlace" 233,.str "/claim/cut.py" 234,.int 9 0,.int 0 0,.int 0 0,.int 0 0,.int 0 0,.ref 50,.bool false,.int 181 0,.ref 51,.none,.none,.none,.none,.int 235 0,.int 9 0,.str "/claim/cut.py" 236]) #[]
def o53:O:=fun P=>.mk (.type "frame") none Data.plain #[some (.ref 52),some (.ref 3),some (.ref 49),none,some (.str "treewells.errors" 194),none,some (.ref 0)]
def o54:O:=fun P=>.mk (.type "tuple") none (.seq #[]) #[]
def o55:O:=fun P=>.mk (.type "dict") none (.dict #[kE P "__module__" 237 (.str "treewells.errors" 194),kE P "__firstlineno__" 241 (.int 9 240),kE P "__static_attributes__" 242 (.ref 54),kE P "__doc__" 243 .none] 2) #[]
def o56:O:=fun P=>.mk (.type "type") none (Data.cls (ClassData.mk "NoPlace" [.ref 31] [.ref 56,.ref 31,.type "ValueError", .type "Exception", .type "BaseException", .type "object"] 55 "NoPlace" true [] [] false none false)) #[some (.ref 47),none,some (.str "NoPlace" 230),some (.str "NoPlace" 238),some (.builtin "ValueError.__new__"),some (.bool true)]
def o57:O:=fun P=>.mk (.type "super") none (.fields #[.ref 56,.ref 56,.ref 56]) #[]
def o58:O:=fun P=>.mk (.type "builtin_function_or_method") none (.fields #[.builtin "object.__init_subclass__", .ref 56]) #[]
def o59:O:=fun P=>.mk (.type "tuple") none (.seq #[.ref 31]) #[]
def o60:O:=fun P=>.mk (.type "builtin_function_or_method") none (.fields #[.builtin "type.__prepare__", .type "type"]) #[]
def o61:O:=fun P=>.mk (.type "dict") none (.dict #[kE P "__module__" 253 (.str "treewells.errors" 194),kE P "__qualname__" 255 (.str "NoRoad" 254),kE P "__firstlineno__" 257 (.int 11 256),kE P "__static_attributes__" 258 (.ref 66)] 4) #[]
def o62:O:=fun P=>.mk (.type "tuple") none (.seq #[]) #[]
def o63:O:=fun P=>.mk .none none (.fields #[]) #[]
def o64:O:=fun P=>.mk (.type "code") none (.fields #[.str "NoRoad" 248,.str "NoRoad" 249,.str "/claim/cut.py" 250,.int 11 0,.int 0 0,.int 0 0,.int 0 0,.int 0 0,.ref 62,.bool false,.int 181 0,.ref 63,.none,.none,.none,.none,.int 251 0,.int 11 0,.str "/claim/cut.py" 252]) #[]
def o65:O:=fun P=>.mk (.type "frame") none Data.plain #[some (.ref 64),some (.ref 3),some (.ref 61),none,some (.str "treewells.errors" 194),none,some (.ref 0)]
def o66:O:=fun P=>.mk (.type "tuple") none (.seq #[]) #[]
def o67:O:=fun P=>.mk (.type "dict") none (.dict #[kE P "__module__" 253 (.str "treewells.errors" 194),kE P "__firstlineno__" 257 (.int 11 256),kE P "__static_attributes__" 258 (.ref 66),kE P "__doc__" 259 .none] 2) #[]
def o68:O:=fun P=>.mk (.type "type") none (Data.cls (ClassData.mk "NoRoad" [.ref 31] [.ref 68,.ref 31,.type "ValueError", .type "Exception", .type "BaseException", .type "object"] 67 "NoRoad" true [] [] false none false)) #[some (.ref 59),none,some (.str "NoRoad" 246),some (.str "NoRoad" 254),some (.builtin "ValueError.__new__"),some (.bool true)]
def o69:O:=fun P=>.mk (.type "super") none (.fields #[.ref 68,.ref 68,.ref 68]) #[]
def o70:O:=fun P=>.mk (.type "builtin_function_or_method") none (.fields #[.builtin "object.__init_subclass__", .ref 68]) #[]
def o71:O:=fun P=>.mk (.type "tuple") none (.seq #[.ref 31]) #[]
def o72:O:=fun P=>.mk (.type "builtin_function_or_method") none (.fields #[.builtin "type.__prepare__", .type "type"]) #[]
def o73:O:=fun P=>.mk (.type "dict") none (.dict #[kE P "__module__" 269 (.str "treewells.errors" 194),kE P "__qualname__" 271 (.str "NoSpot" 270),kE P "__firstlineno__" 273 (.int 13 272),kE P "__static_attributes__" 274 (.ref 78)] 4) #[]
def o74:O:=fun P=>.mk (.type "tuple") none (.seq #[]) #[]
def o75:O:=fun P=>.mk .none none (.fields #[]) #[]
def o76:O:=fun P=>.mk (.type "code") none (.fields #[.str "NoSpot" 264,.str "NoSpot" 265,.str "/claim/cut.py" 266,.int 13 0,.int 0 0,.int 0 0,.int 0 0,.int 0 0,.ref 74,.bool false,.int 181 0,.ref 75,.none,.none,.none,.none,.int 267 0,.int 13 0,.str "/claim/cut.py" 268]) #[]
def o77:O:=fun P=>.mk (.type "frame") none Data.plain #[some (.ref 76),some (.ref 3),some (.ref 73),none,some (.str "treewells.errors" 194),none,some (.ref 0)]
def o78:O:=fun P=>.mk (.type "tuple") none (.seq #[]) #[]
def o79:O:=fun P=>.mk (.type "dict") none (.dict #[kE P "__module__" 269 (.str "treewells.errors" 194),kE P "__firstlineno__" 273 (.int 13 272),kE P "__static_attributes__" 274 (.ref 78),kE P "__doc__" 275 .none] 2) #[]
def o80:O:=fun P=>.mk (.type "type") none (Data.cls (ClassData.mk "NoSpot" [.ref 31] [.ref 80,.ref 31,.type "ValueError", .type "Exception", .type "BaseException", .type "object"] 79 "NoSpot" true [] [] false none false)) #[some (.ref 71),none,some (.str "NoSpot" 262),some (.str "NoSpot" 270),some (.builtin "ValueError.__new__"),some (.bool true)]
def o81:O:=fun P=>.mk (.type "super") none (.fields #[.ref 80,.ref 80,.ref 80]) #[]
def o82:O:=fun P=>.mk (.type "builtin_function_or_method") none (.fields #[.builtin "object.__init_subclass__", .ref 80]) #[]
def o83:O:=fun P=>.mk (.type "tuple") none (.seq #[.ref 31]) #[]
def o84:O:=fun P=>.mk (.type "builtin_function_or_method") none (.fields #[.builtin "type.__prepare__", .type "type"]) #[]
def o85:O:=fun P=>.mk (.type "dict") none (.dict #[kE P "__module__" 285 (.str "treewells.errors" 194),kE P "__qualname__" 287 (.str "NoSite" 286),kE P "__firstlineno__" 289 (.int 15 288),kE P "__static_attributes__" 290 (.ref 90)] 4) #[]
def o86:O:=fun P=>.mk (.type "tuple") none (.seq #[]) #[]
def o87:O:=fun P=>.mk .none none (.fields #[]) #[]
def o88:O:=fun P=>.mk (.type "code") none (.fields #[.str "NoSite" 280,.str "NoSite" 281,.str "/claim/cut.py" 282,.int 15 0,.int 0 0,.int 0 0,.int 0 0,.int 0 0,.ref 86,.bool false,.int 181 0,.ref 87,.none,.none,.none,.none,.int 283 0,.int 15 0,.str "/claim/cut.py" 284]) #[]
def o89:O:=fun P=>.mk (.type "frame") none Data.plain #[some (.ref 88),some (.ref 3),some (.ref 85),none,some (.str "treewells.errors" 194),none,some (.ref 0)]
def o90:O:=fun P=>.mk (.type "tuple") none (.seq #[]) #[]
def o91:O:=fun P=>.mk (.type "dict") none (.dict #[kE P "__module__" 285 (.str "treewells.errors" 194),kE P "__firstlineno__" 289 (.int 15 288),kE P "__static_attributes__" 290 (.ref 90),kE P "__doc__" 291 .none] 2) #[]
def o92:O:=fun P=>.mk (.type "type") none (Data.cls (ClassData.mk "NoSite" [.ref 31] [.ref 92,.ref 31,.type "ValueError", .type "Exception", .type "BaseException", .type "object"] 91 "NoSite" true [] [] false none false)) #[some (.ref 83),none,some (.str "NoSite" 278),some (.str "NoSite" 286),some (.builtin "ValueError.__new__"),some (.bool true)]
def o93:O:=fun P=>.mk (.type "super") none (.fields #[.ref 92,.ref 92,.ref 92]) #[]
def o94:O:=fun P=>.mk (.type "builtin_function_or_method") none (.fields #[.builtin "object.__init_subclass__", .ref 92]) #[]
def o95:O:=fun P=>.mk (.type "tuple") none (.seq #[.ref 31]) #[]
def o96:O:=fun P=>.mk (.type "builtin_function_or_method") none (.fields #[.builtin "type.__prepare__", .type "type"]) #[]
def o97:O:=fun P=>.mk (.type "dict") none (.dict #[kE P "__module__" 301 (.str "treewells.errors" 194),kE P "__qualname__" 303 (.str "NoYard" 302),kE P "__firstlineno__" 305 (.int 17 304),kE P "__static_attributes__" 306 (.ref 102)] 4) #[]
def o98:O:=fun P=>.mk (.type "tuple") none (.seq #[]) #[]
def o99:O:=fun P=>.mk .none none (.fields #[]) #[]
def o100:O:=fun P=>.mk (.type "code") none (.fields #[.str "NoYard" 296,.str "NoYard" 297,.str "/claim/cut.py" 298,.int 17 0,.int 0 0,.int 0 0,.int 0 0,.int 0 0,.ref 98,.bool false,.int 181 0,.ref 99,.none,.none,.none,.none,.int 299 0,.int 17 0,.str "/claim/cut.py" 300]) #[]
def o101:O:=fun P=>.mk (.type "frame") none Data.plain #[some (.ref 100),some (.ref 3),some (.ref 97),none,some (.str "treewells.errors" 194),none,some (.ref 0)]
def o102:O:=fun P=>.mk (.type "tuple") none (.seq #[]) #[]
def o103:O:=fun P=>.mk (.type "dict") none (.dict #[kE P "__module__" 301 (.str "treewells.errors" 194),kE P "__firstlineno__" 305 (.int 17 304),kE P "__static_attributes__" 306 (.ref 102),kE P "__doc__" 307 .none] 2) #[]
def o104:O:=fun P=>.mk (.type "type") none (Data.cls (ClassData.mk "NoYard" [.ref 31] [.ref 104,.ref 31,.type "ValueError", .type "Exception", .type "BaseException", .type "object"] 103 "NoYard" true [] [] false none false)) #[some (.ref 95),none,some (.str "NoYard" 294),some (.str "NoYard" 302),some (.builtin "ValueError.__new__"),some (.bool true)]
def o105:O:=fun P=>.mk (.type "super") none (.fields #[.ref 104,.ref 104,.ref 104]) #[]
def o106:O:=fun P=>.mk (.type "builtin_function_or_method") none (.fields #[.builtin "object.__init_subclass__", .ref 104]) #[]
def o107:O:=fun P=>.mk (.type "tuple") none (.seq #[.ref 31]) #[]
def o108:O:=fun P=>.mk (.type "builtin_function_or_method") none (.fields #[.builtin "type.__prepare__", .type "type"]) #[]
def o109:O:=fun P=>.mk (.type "dict") none (.dict #[kE P "__module__" 317 (.str "treewells.errors" 194),kE P "__qualname__" 319 (.str "NoWorth" 318),kE P "__firstlineno__" 321 (.int 19 320),kE P "__static_attributes__" 322 (.ref 114)] 4) #[]
def o110:O:=fun P=>.mk (.type "tuple") none (.seq #[]) #[]
def o111:O:=fun P=>.mk .none none (.fields #[]) #[]
def o112:O:=fun P=>.mk (.type "code") none (.fields #[.str "NoWorth" 312,.str "NoWorth" 313,.str "/claim/cut.py" 314,.int 19 0,.int 0 0,.int 0 0,.int 0 0,.int 0 0,.ref 110,.bool false,.int 181 0,.ref 111,.none,.none,.none,.none,.int 315 0,.int 19 0,.str "/claim/cut.py" 316]) #[]
def o113:O:=fun P=>.mk (.type "frame") none Data.plain #[some (.ref 112),some (.ref 3),some (.ref 109),none,some (.str "treewells.errors" 194),none,some (.ref 0)]
def o114:O:=fun P=>.mk (.type "tuple") none (.seq #[]) #[]
def o115:O:=fun P=>.mk (.type "dict") none (.dict #[kE P "__module__" 317 (.str "treewells.errors" 194),kE P "__firstlineno__" 321 (.int 19 320),kE P "__static_attributes__" 322 (.ref 114),kE P "__doc__" 323 .none] 2) #[]
def o116:O:=fun P=>.mk (.type "type") none (Data.cls (ClassData.mk "NoWorth" [.ref 31] [.ref 116,.ref 31,.type "ValueError", .type "Exception", .type "BaseException", .type "object"] 115 "NoWorth" true [] [] false none false)) #[some (.ref 107),none,some (.str "NoWorth" 310),some (.str "NoWorth" 318),some (.builtin "ValueError.__new__"),some (.bool true)]
def o117:O:=fun P=>.mk (.type "super") none (.fields #[.ref 116,.ref 116,.ref 116]) #[]
def o118:O:=fun P=>.mk (.type "builtin_function_or_method") none (.fields #[.builtin "object.__init_subclass__", .ref 116]) #[]
def o119:O:=fun P=>.mk (.type "tuple") none (.seq #[.ref 31]) #[]
def o120:O:=fun P=>.mk (.type "builtin_function_or_method") none (.fields #[.builtin "type.__prepare__", .type "type"]) #[]
def o121:O:=fun P=>.mk (.type "dict") none (.dict #[kE P "__module__" 333 (.str "treewells.errors" 194),kE P "__qualname__" 335 (.str "NoGift" 334),kE P "__firstlineno__" 337 (.int 21 336),kE P "__static_attributes__" 338 (.ref 126)] 4) #[]
def o122:O:=fun P=>.mk (.type "tuple") none (.seq #[]) #[]
def o123:O:=fun P=>.mk .none none (.fields #[]) #[]
def o124:O:=fun P=>.mk (.type "code") none (.fields #[.str "NoGift" 328,.str "NoGift" 329,.str "/claim/cut.py" 330,.int 21 0,.int 0 0,.int 0 0,.int 0 0,.int 0 0,.ref 122,.bool false,.int 181 0,.ref 123,.none,.none,.none,.none,.int 331 0,.int 21 0,.str "/claim/cut.py" 332]) #[]
def o125:O:=fun P=>.mk (.type "frame") none Data.plain #[some (.ref 124),some (.ref 3),some (.ref 121),none,some (.str "treewells.errors" 194),none,some (.ref 0)]
def o126:O:=fun P=>.mk (.type "tuple") none (.seq #[]) #[]
def o127:O:=fun P=>.mk (.type "dict") none (.dict #[kE P "__module__" 333 (.str "treewells.errors" 194),kE P "__firstlineno__" 337 (.int 21 336),kE P "__static_attributes__" 338 (.ref 126),kE P "__doc__" 339 .none] 2) #[]
def o128:O:=fun P=>.mk (.type "type") none (Data.cls (ClassData.mk "NoGift" [.ref 31] [.ref 128,.ref 31,.type "ValueError", .type "Exception", .type "BaseException", .type "object"] 127 "NoGift" true [] [] false none false)) #[some (.ref 119),none,some (.str "NoGift" 326),some (.str "NoGift" 334),some (.builtin "ValueError.__new__"),some (.bool true)]
def o129:O:=fun P=>.mk (.type "super") none (.fields #[.ref 128,.ref 128,.ref 128]) #[]
def o130:O:=fun P=>.mk (.type "builtin_function_or_method") none (.fields #[.builtin "object.__init_subclass__", .ref 128]) #[]
def o131:O:=fun P=>.mk (.type "tuple") none (.seq #[.ref 31]) #[]
def o132:O:=fun P=>.mk (.type "builtin_function_or_method") none (.fields #[.builtin "type.__prepare__", .type "type"]) #[]
def o133:O:=fun P=>.mk (.type "dict") none (.dict #[kE P "__module__" 349 (.str "treewells.errors" 194),kE P "__qualname__" 351 (.str "NoText" 350),kE P "__firstlineno__" 353 (.int 23 352),kE P "__static_attributes__" 354 (.ref 138)] 4) #[]
def o134:O:=fun P=>.mk (.type "tuple") none (.seq #[]) #[]
def o135:O:=fun P=>.mk .none none (.fields #[]) #[]
def o136:O:=fun P=>.mk (.type "code") none (.fields #[.str "NoText" 344,.str "NoText" 345,.str "/claim/cut.py" 346,.int 23 0,.int 0 0,.int 0 0,.int 0 0,.int 0 0,.ref 134,.bool false,.int 181 0,.ref 135,.none,.none,.none,.none,.int 347 0,.int 23 0,.str "/claim/cut.py" 348]) #[]
def o137:O:=fun P=>.mk (.type "frame") none Data.plain #[some (.ref 136),some (.ref 3),some (.ref 133),none,some (.str "treewells.errors" 194),none,some (.ref 0)]
def o138:O:=fun P=>.mk (.type "tuple") none (.seq #[]) #[]
def o139:O:=fun P=>.mk (.type "dict") none (.dict #[kE P "__module__" 349 (.str "treewells.errors" 194),kE P "__firstlineno__" 353 (.int 23 352),kE P "__static_attributes__" 354 (.ref 138),kE P "__doc__" 355 .none] 2) #[]
def o140:O:=fun P=>.mk (.type "type") none (Data.cls (ClassData.mk "NoText" [.ref 31] [.ref 140,.ref 31,.type "ValueError", .type "Exception", .type "BaseException", .type "object"] 139 "NoText" true [] [] false none false)) #[some (.ref 131),none,some (.str "NoText" 342),some (.str "NoText" 350),some (.builtin "ValueError.__new__"),some (.bool true)]
def o141:O:=fun P=>.mk (.type "super") none (.fields #[.ref 140,.ref 140,.ref 140]) #[]
def o142:O:=fun P=>.mk (.type "builtin_function_or_method") none (.fields #[.builtin "object.__init_subclass__", .ref 140]) #[]
def o143:O:=fun P=>.mk (.type "tuple") none (.seq #[.ref 31]) #[]
def o144:O:=fun P=>.mk (.type "builtin_function_or_method") none (.fields #[.builtin "type.__prepare__", .type "type"]) #[]
def o145:O:=fun P=>.mk (.type "dict") none (.dict #[kE P "__module__" 365 (.str "treewells.errors" 194),kE P "__qualname__" 367 (.str "NoKind" 366),kE P "__firstlineno__" 369 (.int 25 368),kE P "__static_attributes__" 370 (.ref 150)] 4) #[]
def o146:O:=fun P=>.mk (.type "tuple") none (.seq #[]) #[]
def o147:O:=fun P=>.mk .none none (.fields #[]) #[]
def o148:O:=fun P=>.mk (.type "code") none (.fields #[.str "NoKind" 360,.str "NoKind" 361,.str "/claim/cut.py" 362,.int 25 0,.int 0 0,.int 0 0,.int 0 0,.int 0 0,.ref 146,.bool false,.int 181 0,.ref 147,.none,.none,.none,.none,.int 363 0,.int 25 0,.str "/claim/cut.py" 364]) #[]
def o149:O:=fun P=>.mk (.type "frame") none Data.plain #[some (.ref 148),some (.ref 3),some (.ref 145),none,some (.str "treewells.errors" 194),none,some (.ref 0)]
def o150:O:=fun P=>.mk (.type "tuple") none (.seq #[]) #[]
def o151:O:=fun P=>.mk (.type "dict") none (.dict #[kE P "__module__" 365 (.str "treewells.errors" 194),kE P "__firstlineno__" 369 (.int 25 368),kE P "__static_attributes__" 370 (.ref 150),kE P "__doc__" 371 .none] 2) #[]
def o152:O:=fun P=>.mk (.type "type") none (Data.cls (ClassData.mk "NoKind" [.ref 31] [.ref 152,.ref 31,.type "ValueError", .type "Exception", .type "BaseException", .type "object"] 151 "NoKind" true [] [] false none false)) #[some (.ref 143),none,some (.str "NoKind" 358),some (.str "NoKind" 366),some (.builtin "ValueError.__new__"),some (.bool true)]
def o153:O:=fun P=>.mk (.type "super") none (.fields #[.ref 152,.ref 152,.ref 152]) #[]
def o154:O:=fun P=>.mk (.type "builtin_function_or_method") none (.fields #[.builtin "object.__init_subclass__", .ref 152]) #[]
def o155:O:=fun P=>.mk (.type "tuple") none (.seq #[.ref 31]) #[]
def o156:O:=fun P=>.mk (.type "builtin_function_or_method") none (.fields #[.builtin "type.__prepare__", .type "type"]) #[]
def o157:O:=fun P=>.mk (.type "dict") none (.dict #[kE P "__module__" 381 (.str "treewells.errors" 194),kE P "__qualname__" 383 (.str "NoQuestion" 382),kE P "__firstlineno__" 385 (.int 27 384),kE P "__static_attributes__" 386 (.ref 162)] 4) #[]
def o158:O:=fun P=>.mk (.type "tuple") none (.seq #[]) #[]
def o159:O:=fun P=>.mk .none none (.fields #[]) #[]
def o160:O:=fun P=>.mk (.type "code") none (.fields #[.str "NoQuestion" 376,.str "NoQuestion" 377,.str "/claim/cut.py" 378,.int 27 0,.int 0 0,.int 0 0,.int 0 0,.int 0 0,.ref 158,.bool false,.int 181 0,.ref 159,.none,.none,.none,.none,.int 379 0,.int 27 0,.str "/claim/cut.py" 380]) #[]
def o161:O:=fun P=>.mk (.type "frame") none Data.plain #[some (.ref 160),some (.ref 3),some (.ref 157),none,some (.str "treewells.errors" 194),none,some (.ref 0)]
def o162:O:=fun P=>.mk (.type "tuple") none (.seq #[]) #[]
def o163:O:=fun P=>.mk (.type "dict") none (.dict #[kE P "__module__" 381 (.str "treewells.errors" 194),kE P "__firstlineno__" 385 (.int 27 384),kE P "__static_attributes__" 386 (.ref 162),kE P "__doc__" 387 .none] 2) #[]
def o164:O:=fun P=>.mk (.type "type") none (Data.cls (ClassData.mk "NoQuestion" [.ref 31] [.ref 164,.ref 31,.type "ValueError", .type "Exception", .type "BaseException", .type "object"] 163 "NoQuestion" true [] [] false none false)) #[some (.ref 155),none,some (.str "NoQuestion" 374),some (.str "NoQuestion" 382),some (.builtin "ValueError.__new__"),some (.bool true)]
def o165:O:=fun P=>.mk (.type "super") none (.fields #[.ref 164,.ref 164,.ref 164]) #[]
def o166:O:=fun P=>.mk (.type "builtin_function_or_method") none (.fields #[.builtin "object.__init_subclass__", .ref 164]) #[]
def o167:O:=fun P=>.mk (.type "tuple") none (.seq #[.ref 31]) #[]
def o168:O:=fun P=>.mk (.type "builtin_function_or_method") none (.fields #[.builtin "type.__prepare__", .type "type"]) #[]
def o169:O:=fun P=>.mk (.type "dict") none (.dict #[kE P "__module__" 397 (.str "treewells.errors" 194),kE P "__qualname__" 399 (.str "NoRow" 398),kE P "__firstlineno__" 401 (.int 29 400),kE P "__static_attributes__" 402 (.ref 174)] 4) #[]
def o170:O:=fun P=>.mk (.type "tuple") none (.seq #[]) #[]
def o171:O:=fun P=>.mk .none none (.fields #[]) #[]
def o172:O:=fun P=>.mk (.type "code") none (.fields #[.str "NoRow" 392,.str "NoRow" 393,.str "/claim/cut.py" 394,.int 29 0,.int 0 0,.int 0 0,.int 0 0,.int 0 0,.ref 170,.bool false,.int 181 0,.ref 171,.none,.none,.none,.none,.int 395 0,.int 29 0,.str "/claim/cut.py" 396]) #[]
def o173:O:=fun P=>.mk (.type "frame") none Data.plain #[some (.ref 172),some (.ref 3),some (.ref 169),none,some (.str "treewells.errors" 194),none,some (.ref 0)]
def o174:O:=fun P=>.mk (.type "tuple") none (.seq #[]) #[]
def o175:O:=fun P=>.mk (.type "dict") none (.dict #[kE P "__module__" 397 (.str "treewells.errors" 194),kE P "__firstlineno__" 401 (.int 29 400),kE P "__static_attributes__" 402 (.ref 174),kE P "__doc__" 403 .none] 2) #[]
def o176:O:=fun P=>.mk (.type "type") none (Data.cls (ClassData.mk "NoRow" [.ref 31] [.ref 176,.ref 31,.type "ValueError", .type "Exception", .type "BaseException", .type "object"] 175 "NoRow" true [] [] false none false)) #[some (.ref 167),none,some (.str "NoRow" 390),some (.str "NoRow" 398),some (.builtin "ValueError.__new__"),some (.bool true)]
def o177:O:=fun P=>.mk (.type "super") none (.fields #[.ref 176,.ref 176,.ref 176]) #[]
def o178:O:=fun P=>.mk (.type "builtin_function_or_method") none (.fields #[.builtin "object.__init_subclass__", .ref 176]) #[]
def o179:O:=fun P=>.mk (.type "tuple") none (.seq #[.ref 31]) #[]
def o180:O:=fun P=>.mk (.type "builtin_function_or_method") none (.fields #[.builtin "type.__prepare__", .type "type"]) #[]
def o181:O:=fun P=>.mk (.type "dict") none (.dict #[kE P "__module__" 413 (.str "treewells.errors" 194),kE P "__qualname__" 415 (.str "NoName" 414),kE P "__firstlineno__" 417 (.int 31 416),kE P "__static_attributes__" 418 (.ref 186)] 4) #[]
def o182:O:=fun P=>.mk (.type "tuple") none (.seq #[]) #[]
def o183:O:=fun P=>.mk .none none (.fields #[]) #[]
def o184:O:=fun P=>.mk (.type "code") none (.fields #[.str "NoName" 408,.str "NoName" 409,.str "/claim/cut.py" 410,.int 31 0,.int 0 0,.int 0 0,.int 0 0,.int 0 0,.ref 182,.bool false,.int 181 0,.ref 183,.none,.none,.none,.none,.int 411 0,.int 31 0,.str "/claim/cut.py" 412]) #[]
def o185:O:=fun P=>.mk (.type "frame") none Data.plain #[some (.ref 184),some (.ref 3),some (.ref 181),none,some (.str "treewells.errors" 194),none,some (.ref 0)]
def o186:O:=fun P=>.mk (.type "tuple") none (.seq #[]) #[]
def o187:O:=fun P=>.mk (.type "dict") none (.dict #[kE P "__module__" 413 (.str "treewells.errors" 194),kE P "__firstlineno__" 417 (.int 31 416),kE P "__static_attributes__" 418 (.ref 186),kE P "__doc__" 419 .none] 2) #[]
def o188:O:=fun P=>.mk (.type "type") none (Data.cls (ClassData.mk "NoName" [.ref 31] [.ref 188,.ref 31,.type "ValueError", .type "Exception", .type "BaseException", .type "object"] 187 "NoName" true [] [] false none false)) #[some (.ref 179),none,some (.str "NoName" 406),some (.str "NoName" 414),some (.builtin "ValueError.__new__"),some (.bool true)]
def o189:O:=fun P=>.mk (.type "super") none (.fields #[.ref 188,.ref 188,.ref 188]) #[]
def o190:O:=fun P=>.mk (.type "builtin_function_or_method") none (.fields #[.builtin "object.__init_subclass__", .ref 188]) #[]
def o191:O:=fun P=>.mk (.type "tuple") none (.seq #[]) #[]
def o192:O:=fun P=>.mk (.type "builtin_function_or_method") none (.fields #[.builtin "type.__prepare__", .type "type"]) #[]
def o193:O:=fun P=>.mk (.type "dict") none (.dict #[kE P "__module__" 431 (.str "treewells.questions" 422),kE P "__qualname__" 433 (.str "Question" 432),kE P "__firstlineno__" 435 (.int 34 434),kE P "word" 442 (.ref 204),kE P "fits" 452 (.ref 211),kE P "answer" 462 (.ref 218),kE P "paper" 472 (.ref 225),kE P "worth" 482 (.ref 232),kE P "answer_size" 493 (.ref 239),kE P "paper_size" 504 (.ref 246),kE P "shows_none" 515 (.ref 253),kE P "takes" 527 (.ref 260),kE P "shows" 539 (.ref 267),kE P "__static_attributes__" 540 (.ref 268)] 14) #[]
def o194:O:=fun P=>.mk (.type "tuple") none (.seq #[]) #[]
def o195:O:=fun P=>.mk .none none (.fields #[.int 36 0,.int 4 0,.ref 203,.int 39 0,.int 4 0,.ref 210,.int 42 0,.int 4 0,.ref 217,.int 45 0,.int 4 0,.ref 224,.int 48 0,.int 4 0,.ref 231,.int 51 0,.int 4 0,.ref 238,.int 54 0,.int 4 0,.ref 245,.int 57 0,.int 4 0,.ref 252,.int 60 0,.int 4 0,.ref 259,.int 63 0,.int 4 0,.ref 266]) #[]
def o196:O:=fun P=>.mk (.type "code") none (.fields #[.str "Question" 426,.str "Question" 427,.str "/claim/cut.py" 428,.int 34 0,.int 0 0,.int 0 0,.int 0 0,.int 0 0,.ref 194,.bool false,.int 181 0,.ref 195,.none,.none,.none,.none,.int 429 0,.int 34 0,.str "/claim/cut.py" 430]) #[]
def o197:O:=fun P=>.mk (.type "frame") none Data.plain #[some (.ref 196),some (.ref 3),some (.ref 193),none,some (.str "treewells.questions" 422),none,some (.ref 0)]
def o198:O:=fun P=>.mk (.type "tuple") none (.seq #[]) #[]
def o199:O:=fun P=>.mk .none none (.fields #[]) #[]
def o200:O:=fun P=>.mk (.type "tuple") none (.seq #[.str "self" 439]) #[]
def o201:O:=fun P=>.mk (.type "tuple") none (.seq #[]) #[]
def o202:O:=fun P=>.mk .none none (.func (.mk "word" "Question.word" (kA (kM (top 17) 0)) (.stmts (kB (kM (top 17) 0))) (kS (kM (top 17) 0)) 0 [] .none .none .none .none none .none .none 0)) #[]
def o203:O:=fun P=>.mk (.type "code") none (.fields #[.str "word" 436,.str "Question.word" 437,.str "/claim/cut.py" 438,.int 36 0,.int 1 0,.int 0 0,.int 0 0,.int 3 0,.ref 198,.bool true,.int 181 0,.ref 199,.none,.ref 200,.ref 201,.ref 202,.int 440 0,.int 36 0,.str "/claim/cut.py" 441]) #[]
def o204:O:=fun P=>.mk (.type "function") none (.func (.mk "word" "Question.word" (kA (kM (top 17) 0)) (.stmts (kB (kM (top 17) 0))) (kS (kM (top 17) 0)) 3 [] .none .none .none (.str "treewells.questions" 422) none (.ref 203) .none 0)) #[]
def o205:O:=fun P=>.mk (.type "tuple") none (.seq #[]) #[]
def o206:O:=fun P=>.mk .none none (.fields #[]) #[]
def o207:O:=fun P=>.mk (.type "tuple") none (.seq #[.str "self" 446,.str "many" 447,.str "roads" 448,.str "asked" 449]) #[]
def o208:O:=fun P=>.mk (.type "tuple") none (.seq #[]) #[]
def o209:O:=fun P=>.mk .none none (.func (.mk "fits" "Question.fits" (kA (kM (top 17) 1)) (.stmts (kB (kM (top 17) 1))) (kS (kM (top 17) 1)) 0 [] .none .none .none .none none .none .none 0)) #[]
def o210:O:=fun P=>.mk (.type "code") none (.fields #[.str "fits" 443,.str "Question.fits" 444,.str "/claim/cut.py" 445,.int 39 0,.int 4 0,.int 0 0,.int 0 0,.int 3 0,.ref 205,.bool true,.int 181 0,.ref 206,.none,.ref 207,.ref 208,.ref 209,.int 450 0,.int 39 0,.str "/claim/cut.py" 451]) #[]
def o211:O:=fun P=>.mk (.type "function") none (.func (.mk "fits" "Question.fits" (kA (kM (top 17) 1)) (.stmts (kB (kM (top 17) 1))) (kS (kM (top 17) 1)) 3 [] .none .none .none (.str "treewells.questions" 422) none (.ref 210) .none 0)) #[]
def o212:O:=fun P=>.mk (.type "tuple") none (.seq #[]) #[]
def o213:O:=fun P=>.mk .none none (.fields #[]) #[]
def o214:O:=fun P=>.mk (.type "tuple") none (.seq #[.str "self" 456,.str "many" 457,.str "roads" 458,.str "asked" 459]) #[]
def o215:O:=fun P=>.mk (.type "tuple") none (.seq #[]) #[]
def o216:O:=fun P=>.mk .none none (.func (.mk "answer" "Question.answer" (kA (kM (top 17) 2)) (.stmts (kB (kM (top 17) 2))) (kS (kM (top 17) 2)) 0 [] .none .none .none .none none .none .none 0)) #[]
def o217:O:=fun P=>.mk (.type "code") none (.fields #[.str "answer" 453,.str "Question.answer" 454,.str "/claim/cut.py" 455,.int 42 0,.int 4 0,.int 0 0,.int 0 0,.int 3 0,.ref 212,.bool true,.int 181 0,.ref 213,.none,.ref 214,.ref 215,.ref 216,.int 460 0,.int 42 0,.str "/claim/cut.py" 461]) #[]
def o218:O:=fun P=>.mk (.type "function") none (.func (.mk "answer" "Question.answer" (kA (kM (top 17) 2)) (.stmts (kB (kM (top 17) 2))) (kS (kM (top 17) 2)) 3 [] .none .none .none (.str "treewells.questions" 422) none (.ref 217) .none 0)) #[]
def o219:O:=fun P=>.mk (.type "tuple") none (.seq #[]) #[]
def o220:O:=fun P=>.mk .none none (.fields #[]) #[]
def o221:O:=fun P=>.mk (.type "tuple") none (.seq #[.str "self" 466,.str "many" 467,.str "roads" 468,.str "asked" 469]) #[]
def o222:O:=fun P=>.mk (.type "tuple") none (.seq #[]) #[]
def o223:O:=fun P=>.mk .none none (.func (.mk "paper" "Question.paper" (kA (kM (top 17) 3)) (.stmts (kB (kM (top 17) 3))) (kS (kM (top 17) 3)) 0 [] .none .none .none .none none .none .none 0)) #[]
def o224:O:=fun P=>.mk (.type "code") none (.fields #[.str "paper" 463,.str "Question.paper" 464,.str "/claim/cut.py" 465,.int 45 0,.int 4 0,.int 0 0,.int 0 0,.int 3 0,.ref 219,.bool true,.int 181 0,.ref 220,.none,.ref 221,.ref 222,.ref 223,.int 470 0,.int 45 0,.str "/claim/cut.py" 471]) #[]
def o225:O:=fun P=>.mk (.type "function") none (.func (.mk "paper" "Question.paper" (kA (kM (top 17) 3)) (.stmts (kB (kM (top 17) 3))) (kS (kM (top 17) 3)) 3 [] .none .none .none (.str "treewells.questions" 422) none (.ref 224) .none 0)) #[]
def o226:O:=fun P=>.mk (.type "tuple") none (.seq #[]) #[]
def o227:O:=fun P=>.mk .none none (.fields #[]) #[]
def o228:O:=fun P=>.mk (.type "tuple") none (.seq #[.str "self" 476,.str "many" 477,.str "roads" 478,.str "asked" 479]) #[]
def o229:O:=fun P=>.mk (.type "tuple") none (.seq #[]) #[]
def o230:O:=fun P=>.mk .none none (.func (.mk "worth" "Question.worth" (kA (kM (top 17) 4)) (.stmts (kB (kM (top 17) 4))) (kS (kM (top 17) 4)) 0 [] .none .none .none .none none .none .none 0)) #[]
def o231:O:=fun P=>.mk (.type "code") none (.fields #[.str "worth" 473,.str "Question.worth" 474,.str "/claim/cut.py" 475,.int 48 0,.int 4 0,.int 0 0,.int 0 0,.int 3 0,.ref 226,.bool true,.int 181 0,.ref 227,.none,.ref 228,.ref 229,.ref 230,.int 480 0,.int 48 0,.str "/claim/cut.py" 481]) #[]
def o232:O:=fun P=>.mk (.type "function") none (.func (.mk "worth" "Question.worth" (kA (kM (top 17) 4)) (.stmts (kB (kM (top 17) 4))) (kS (kM (top 17) 4)) 3 [] .none .none .none (.str "treewells.questions" 422) none (.ref 231) .none 0)) #[]
def o233:O:=fun P=>.mk (.type "tuple") none (.seq #[]) #[]
def o234:O:=fun P=>.mk .none none (.fields #[]) #[]
def o235:O:=fun P=>.mk (.type "tuple") none (.seq #[.str "self" 486,.str "many" 487,.str "roads" 488,.str "asked" 489,.str "rows" 490]) #[]
def o236:O:=fun P=>.mk (.type "tuple") none (.seq #[]) #[]
def o237:O:=fun P=>.mk .none none (.func (.mk "answer_size" "Question.answer_size" (kA (kM (top 17) 5)) (.stmts (kB (kM (top 17) 5))) (kS (kM (top 17) 5)) 0 [] .none .none .none .none none .none .none 0)) #[]
def o238:O:=fun P=>.mk (.type "code") none (.fields #[.str "answer_size" 483,.str "Question.answer_size" 484,.str "/claim/cut.py" 485,.int 51 0,.int 5 0,.int 0 0,.int 0 0,.int 3 0,.ref 233,.bool true,.int 181 0,.ref 234,.none,.ref 235,.ref 236,.ref 237,.int 491 0,.int 51 0,.str "/claim/cut.py" 492]) #[]
def o239:O:=fun P=>.mk (.type "function") none (.func (.mk "answer_size" "Question.answer_size" (kA (kM (top 17) 5)) (.stmts (kB (kM (top 17) 5))) (kS (kM (top 17) 5)) 3 [] .none .none .none (.str "treewells.questions" 422) none (.ref 238) .none 0)) #[]
def o240:O:=fun P=>.mk (.type "tuple") none (.seq #[]) #[]
def o241:O:=fun P=>.mk .none none (.fields #[]) #[]
def o242:O:=fun P=>.mk (.type "tuple") none (.seq #[.str "self" 497,.str "many" 498,.str "roads" 499,.str "asked" 500,.str "rows" 501]) #[]
def o243:O:=fun P=>.mk (.type "tuple") none (.seq #[]) #[]
def o244:O:=fun P=>.mk .none none (.func (.mk "paper_size" "Question.paper_size" (kA (kM (top 17) 6)) (.stmts (kB (kM (top 17) 6))) (kS (kM (top 17) 6)) 0 [] .none .none .none .none none .none .none 0)) #[]
def o245:O:=fun P=>.mk (.type "code") none (.fields #[.str "paper_size" 494,.str "Question.paper_size" 495,.str "/claim/cut.py" 496,.int 54 0,.int 5 0,.int 0 0,.int 0 0,.int 3 0,.ref 240,.bool true,.int 181 0,.ref 241,.none,.ref 242,.ref 243,.ref 244,.int 502 0,.int 54 0,.str "/claim/cut.py" 503]) #[]
def o246:O:=fun P=>.mk (.type "function") none (.func (.mk "paper_size" "Question.paper_size" (kA (kM (top 17) 6)) (.stmts (kB (kM (top 17) 6))) (kS (kM (top 17) 6)) 3 [] .none .none .none (.str "treewells.questions" 422) none (.ref 245) .none 0)) #[]
def o247:O:=fun P=>.mk (.type "tuple") none (.seq #[]) #[]
def o248:O:=fun P=>.mk .none none (.fields #[]) #[]
def o249:O:=fun P=>.mk (.type "tuple") none (.seq #[.str "self" 508,.str "many" 509,.str "roads" 510,.str "asked" 511,.str "rows" 512]) #[]
def o250:O:=fun P=>.mk (.type "tuple") none (.seq #[]) #[]
def o251:O:=fun P=>.mk .none none (.func (.mk "shows_none" "Question.shows_none" (kA (kM (top 17) 7)) (.stmts (kB (kM (top 17) 7))) (kS (kM (top 17) 7)) 0 [] .none .none .none .none none .none .none 0)) #[]
def o252:O:=fun P=>.mk (.type "code") none (.fields #[.str "shows_none" 505,.str "Question.shows_none" 506,.str "/claim/cut.py" 507,.int 57 0,.int 5 0,.int 0 0,.int 0 0,.int 3 0,.ref 247,.bool true,.int 181 0,.ref 248,.none,.ref 249,.ref 250,.ref 251,.int 513 0,.int 57 0,.str "/claim/cut.py" 514]) #[]
def o253:O:=fun P=>.mk (.type "function") none (.func (.mk "shows_none" "Question.shows_none" (kA (kM (top 17) 7)) (.stmts (kB (kM (top 17) 7))) (kS (kM (top 17) 7)) 3 [] .none .none .none (.str "treewells.questions" 422) none (.ref 252) .none 0)) #[]
def o254:O:=fun P=>.mk (.type "tuple") none (.seq #[]) #[]
def o255:O:=fun P=>.mk .none none (.fields #[]) #[]
def o256:O:=fun P=>.mk (.type "tuple") none (.seq #[.str "self" 519,.str "many" 520,.str "roads" 521,.str "asked" 522,.str "rows" 523,.str "worth" 524]) #[]
def o257:O:=fun P=>.mk (.type "tuple") none (.seq #[]) #[]
def o258:O:=fun P=>.mk .none none (.func (.mk "takes" "Question.takes" (kA (kM (top 17) 8)) (.stmts (kB (kM (top 17) 8))) (kS (kM (top 17) 8)) 0 [] .none .none .none .none none .none .none 0)) #[]
def o259:O:=fun P=>.mk (.type "code") none (.fields #[.str "takes" 516,.str "Question.takes" 517,.str "/claim/cut.py" 518,.int 60 0,.int 6 0,.int 0 0,.int 0 0,.int 3 0,.ref 254,.bool true,.int 181 0,.ref 255,.none,.ref 256,.ref 257,.ref 258,.int 525 0,.int 60 0,.str "/claim/cut.py" 526]) #[]
def o260:O:=fun P=>.mk (.type "function") none (.func (.mk "takes" "Question.takes" (kA (kM (top 17) 8)) (.stmts (kB (kM (top 17) 8))) (kS (kM (top 17) 8)) 3 [] .none .none .none (.str "treewells.questions" 422) none (.ref 259) .none 0)) #[]
def o261:O:=fun P=>.mk (.type "tuple") none (.seq #[]) #[]
def o262:O:=fun P=>.mk .none none (.fields #[]) #[]
def o263:O:=fun P=>.mk (.type "tuple") none (.seq #[.str "self" 531,.str "many" 532,.str "roads" 533,.str "asked" 534,.str "rows" 535,.str "worth" 536]) #[]
def o264:O:=fun P=>.mk (.type "tuple") none (.seq #[]) #[]
def o265:O:=fun P=>.mk .none none (.func (.mk "shows" "Question.shows" (kA (kM (top 17) 9)) (.stmts (kB (kM (top 17) 9))) (kS (kM (top 17) 9)) 0 [] .none .none .none .none none .none .none 0)) #[]
def o266:O:=fun P=>.mk (.type "code") none (.fields #[.str "shows" 528,.str "Question.shows" 529,.str "/claim/cut.py" 530,.int 63 0,.int 6 0,.int 0 0,.int 0 0,.int 3 0,.ref 261,.bool true,.int 181 0,.ref 262,.none,.ref 263,.ref 264,.ref 265,.int 537 0,.int 63 0,.str "/claim/cut.py" 538]) #[]
def o267:O:=fun P=>.mk (.type "function") none (.func (.mk "shows" "Question.shows" (kA (kM (top 17) 9)) (.stmts (kB (kM (top 17) 9))) (kS (kM (top 17) 9)) 3 [] .none .none .none (.str "treewells.questions" 422) none (.ref 266) .none 0)) #[]
def o268:O:=fun P=>.mk (.type "tuple") none (.seq #[]) #[]
def o269:O:=fun P=>.mk (.type "dict") none (.dict #[kE P "__module__" 431 (.str "treewells.questions" 422),kE P "__firstlineno__" 435 (.int 34 434),kE P "word" 442 (.ref 204),kE P "fits" 452 (.ref 211),kE P "answer" 462 (.ref 218),kE P "paper" 472 (.ref 225),kE P "worth" 482 (.ref 232),kE P "answer_size" 493 (.ref 239),kE P "paper_size" 504 (.ref 246),kE P "shows_none" 515 (.ref 253),kE P "takes" 527 (.ref 260),kE P "shows" 539 (.ref 267),kE P "__static_attributes__" 540 (.ref 268),kE P "__dict__" 542 (.ref 271),kE P "__weakref__" 544 (.ref 272),kE P "__doc__" 545 .none] 4) #[]
def o270:O:=fun P=>.mk (.type "type") none (Data.cls (ClassData.mk "Question" [.type "object"] [.ref 270,.type "object"] 269 "Question" true [] [.ref 333,.ref 394,.ref 427,.ref 617,.ref 643,.ref 866,.ref 1056] false none false)) #[none,none,some (.str "Question" 424),some (.str "Question" 432),some (.builtin "object.__new__"),some (.bool true)]
def o271:O:=fun P=>.mk (.type "getset_descriptor") none (.fields #[.str "__dict__" 541,.ref 270,.builtin "function.__dict__", .builtin "function.__dict__#set"]) #[]
def o272:O:=fun P=>.mk (.type "getset_descriptor") none (.fields #[.str "__weakref__" 543,.ref 270,.builtin "ExceptionGroup.__weakref__", .none]) #[]
def o273:O:=fun P=>.mk (.type "super") none (.fields #[.ref 270,.ref 270,.ref 270]) #[]
def o274:O:=fun P=>.mk (.type "builtin_function_or_method") none (.fields #[.builtin "object.__init_subclass__", .ref 270]) #[]
def o275:O:=fun P=>.mk (.type "tuple") none (.seq #[.ref 270]) #[]
def o276:O:=fun P=>.mk (.type "builtin_function_or_method") none (.fields #[.builtin "type.__prepare__", .type "type"]) #[]
def o277:O:=fun P=>.mk (.type "dict") none (.dict #[kE P "__module__" 555 (.str "treewells.questions" 422),kE P "__qualname__" 557 (.str "Middle" 556),kE P "__firstlineno__" 559 (.int 65 558),kE P "word" 566 (.ref 288),kE P "fits" 576 (.ref 295),kE P "answer" 586 (.ref 302),kE P "paper" 596 (.ref 309),kE P "worth" 606 (.ref 316),kE P "answer_size" 617 (.ref 323),kE P "paper_size" 628 (.ref 330),kE P "__static_attributes__" 629 (.ref 331)] 11) #[]
def o278:O:=fun P=>.mk (.type "tuple") none (.seq #[]) #[]
def o279:O:=fun P=>.mk .none none (.fields #[.int 67 0,.int 4 0,.ref 287,.int 70 0,.int 4 0,.ref 294,.int 73 0,.int 4 0,.ref 301,.int 76 0,.int 4 0,.ref 308,.int 79 0,.int 4 0,.ref 315,.int 82 0,.int 4 0,.ref 322,.int 85 0,.int 4 0,.ref 329]) #[]
def o280:O:=fun P=>.mk (.type "code") none (.fields #[.str "Middle" 550,.str "Middle" 551,.str "/claim/cut.py" 552,.int 65 0,.int 0 0,.int 0 0,.int 0 0,.int 0 0,.ref 278,.bool false,.int 181 0,.ref 279,.none,.none,.none,.none,.int 553 0,.int 65 0,.str "/claim/cut.py" 554]) #[]
def o281:O:=fun P=>.mk (.type "frame") none Data.plain #[some (.ref 280),some (.ref 3),some (.ref 277),none,some (.str "treewells.questions" 422),none,some (.ref 0)]
def o282:O:=fun P=>.mk (.type "tuple") none (.seq #[]) #[]
def o283:O:=fun P=>.mk .none none (.fields #[]) #[]
def o284:O:=fun P=>.mk (.type "tuple") none (.seq #[.str "self" 563]) #[]
def o285:O:=fun P=>.mk (.type "tuple") none (.seq #[]) #[]
def o286:O:=fun P=>.mk .none none (.func (.mk "word" "Middle.word" (kA (kM (top 18) 0)) (.stmts (kB (kM (top 18) 0))) (kS (kM (top 18) 0)) 0 [] .none .none .none .none none .none .none 0)) #[]
def o287:O:=fun P=>.mk (.type "code") none (.fields #[.str "word" 560,.str "Middle.word" 561,.str "/claim/cut.py" 562,.int 67 0,.int 1 0,.int 0 0,.int 0 0,.int 3 0,.ref 282,.bool true,.int 181 0,.ref 283,.none,.ref 284,.ref 285,.ref 286,.int 564 0,.int 67 0,.str "/claim/cut.py" 565]) #[]
def o288:O:=fun P=>.mk (.type "function") none (.func (.mk "word" "Middle.word" (kA (kM (top 18) 0)) (.stmts (kB (kM (top 18) 0))) (kS (kM (top 18) 0)) 3 [] .none .none .none (.str "treewells.questions" 422) none (.ref 287) .none 0)) #[]
def o289:O:=fun P=>.mk (.type "tuple") none (.seq #[]) #[]
def o290:O:=fun P=>.mk .none none (.fields #[]) #[]
def o291:O:=fun P=>.mk (.type "tuple") none (.seq #[.str "self" 570,.str "many" 571,.str "roads" 572,.str "asked" 573]) #[]
def o292:O:=fun P=>.mk (.type "tuple") none (.seq #[]) #[]
def o293:O:=fun P=>.mk .none none (.func (.mk "fits" "Middle.fits" (kA (kM (top 18) 1)) (.stmts (kB (kM (top 18) 1))) (kS (kM (top 18) 1)) 0 [] .none .none .none .none none .none .none 0)) #[]
def o294:O:=fun P=>.mk (.type "code") none (.fields #[.str "fits" 567,.str "Middle.fits" 568,.str "/claim/cut.py" 569,.int 70 0,.int 4 0,.int 0 0,.int 0 0,.int 3 0,.ref 289,.bool true,.int 181 0,.ref 290,.none,.ref 291,.ref 292,.ref 293,.int 574 0,.int 70 0,.str "/claim/cut.py" 575]) #[]
def o295:O:=fun P=>.mk (.type "function") none (.func (.mk "fits" "Middle.fits" (kA (kM (top 18) 1)) (.stmts (kB (kM (top 18) 1))) (kS (kM (top 18) 1)) 3 [] .none .none .none (.str "treewells.questions" 422) none (.ref 294) .none 0)) #[]
def o296:O:=fun P=>.mk (.type "tuple") none (.seq #[]) #[]
def o297:O:=fun P=>.mk .none none (.fields #[]) #[]
def o298:O:=fun P=>.mk (.type "tuple") none (.seq #[.str "self" 580,.str "many" 581,.str "roads" 582,.str "asked" 583]) #[]
def o299:O:=fun P=>.mk (.type "tuple") none (.seq #[]) #[]
def o300:O:=fun P=>.mk .none none (.func (.mk "answer" "Middle.answer" (kA (kM (top 18) 2)) (.stmts (kB (kM (top 18) 2))) (kS (kM (top 18) 2)) 0 [] .none .none .none .none none .none .none 0)) #[]
def o301:O:=fun P=>.mk (.type "code") none (.fields #[.str "answer" 577,.str "Middle.answer" 578,.str "/claim/cut.py" 579,.int 73 0,.int 4 0,.int 0 0,.int 0 0,.int 3 0,.ref 296,.bool true,.int 181 0,.ref 297,.none,.ref 298,.ref 299,.ref 300,.int 584 0,.int 73 0,.str "/claim/cut.py" 585]) #[]
def o302:O:=fun P=>.mk (.type "function") none (.func (.mk "answer" "Middle.answer" (kA (kM (top 18) 2)) (.stmts (kB (kM (top 18) 2))) (kS (kM (top 18) 2)) 3 [] .none .none .none (.str "treewells.questions" 422) none (.ref 301) .none 0)) #[]
def o303:O:=fun P=>.mk (.type "tuple") none (.seq #[]) #[]
def o304:O:=fun P=>.mk .none none (.fields #[]) #[]
def o305:O:=fun P=>.mk (.type "tuple") none (.seq #[.str "self" 590,.str "many" 591,.str "roads" 592,.str "asked" 593]) #[]
def o306:O:=fun P=>.mk (.type "tuple") none (.seq #[]) #[]
def o307:O:=fun P=>.mk .none none (.func (.mk "paper" "Middle.paper" (kA (kM (top 18) 3)) (.stmts (kB (kM (top 18) 3))) (kS (kM (top 18) 3)) 0 [] .none .none .none .none none .none .none 0)) #[]
def o308:O:=fun P=>.mk (.type "code") none (.fields #[.str "paper" 587,.str "Middle.paper" 588,.str "/claim/cut.py" 589,.int 76 0,.int 4 0,.int 0 0,.int 0 0,.int 3 0,.ref 303,.bool true,.int 181 0,.ref 304,.none,.ref 305,.ref 306,.ref 307,.int 594 0,.int 76 0,.str "/claim/cut.py" 595]) #[]
def o309:O:=fun P=>.mk (.type "function") none (.func (.mk "paper" "Middle.paper" (kA (kM (top 18) 3)) (.stmts (kB (kM (top 18) 3))) (kS (kM (top 18) 3)) 3 [] .none .none .none (.str "treewells.questions" 422) none (.ref 308) .none 0)) #[]
def o310:O:=fun P=>.mk (.type "tuple") none (.seq #[]) #[]
def o311:O:=fun P=>.mk .none none (.fields #[]) #[]
def o312:O:=fun P=>.mk (.type "tuple") none (.seq #[.str "self" 600,.str "many" 601,.str "roads" 602,.str "asked" 603]) #[]
def o313:O:=fun P=>.mk (.type "tuple") none (.seq #[]) #[]
def o314:O:=fun P=>.mk .none none (.func (.mk "worth" "Middle.worth" (kA (kM (top 18) 4)) (.stmts (kB (kM (top 18) 4))) (kS (kM (top 18) 4)) 0 [] .none .none .none .none none .none .none 0)) #[]
def o315:O:=fun P=>.mk (.type "code") none (.fields #[.str "worth" 597,.str "Middle.worth" 598,.str "/claim/cut.py" 599,.int 79 0,.int 4 0,.int 0 0,.int 0 0,.int 3 0,.ref 310,.bool true,.int 181 0,.ref 311,.none,.ref 312,.ref 313,.ref 314,.int 604 0,.int 79 0,.str "/claim/cut.py" 605]) #[]
def o316:O:=fun P=>.mk (.type "function") none (.func (.mk "worth" "Middle.worth" (kA (kM (top 18) 4)) (.stmts (kB (kM (top 18) 4))) (kS (kM (top 18) 4)) 3 [] .none .none .none (.str "treewells.questions" 422) none (.ref 315) .none 0)) #[]
def o317:O:=fun P=>.mk (.type "tuple") none (.seq #[]) #[]
def o318:O:=fun P=>.mk .none none (.fields #[]) #[]
def o319:O:=fun P=>.mk (.type "tuple") none (.seq #[.str "self" 610,.str "many" 611,.str "roads" 612,.str "asked" 613,.str "rows" 614]) #[]
def o320:O:=fun P=>.mk (.type "tuple") none (.seq #[]) #[]
def o321:O:=fun P=>.mk .none none (.func (.mk "answer_size" "Middle.answer_size" (kA (kM (top 18) 5)) (.stmts (kB (kM (top 18) 5))) (kS (kM (top 18) 5)) 0 [] .none .none .none .none none .none .none 0)) #[]
def o322:O:=fun P=>.mk (.type "code") none (.fields #[.str "answer_size" 607,.str "Middle.answer_size" 608,.str "/claim/cut.py" 609,.int 82 0,.int 5 0,.int 0 0,.int 0 0,.int 3 0,.ref 317,.bool true,.int 181 0,.ref 318,.none,.ref 319,.ref 320,.ref 321,.int 615 0,.int 82 0,.str "/claim/cut.py" 616]) #[]
def o323:O:=fun P=>.mk (.type "function") none (.func (.mk "answer_size" "Middle.answer_size" (kA (kM (top 18) 5)) (.stmts (kB (kM (top 18) 5))) (kS (kM (top 18) 5)) 3 [] .none .none .none (.str "treewells.questions" 422) none (.ref 322) .none 0)) #[]
def o324:O:=fun P=>.mk (.type "tuple") none (.seq #[]) #[]
def o325:O:=fun P=>.mk .none none (.fields #[]) #[]
def o326:O:=fun P=>.mk (.type "tuple") none (.seq #[.str "self" 621,.str "many" 622,.str "roads" 623,.str "asked" 624,.str "rows" 625]) #[]
def o327:O:=fun P=>.mk (.type "tuple") none (.seq #[]) #[]
def o328:O:=fun P=>.mk .none none (.func (.mk "paper_size" "Middle.paper_size" (kA (kM (top 18) 6)) (.stmts (kB (kM (top 18) 6))) (kS (kM (top 18) 6)) 0 [] .none .none .none .none none .none .none 0)) #[]
def o329:O:=fun P=>.mk (.type "code") none (.fields #[.str "paper_size" 618,.str "Middle.paper_size" 619,.str "/claim/cut.py" 620,.int 85 0,.int 5 0,.int 0 0,.int 0 0,.int 3 0,.ref 324,.bool true,.int 181 0,.ref 325,.none,.ref 326,.ref 327,.ref 328,.int 626 0,.int 85 0,.str "/claim/cut.py" 627]) #[]
def o330:O:=fun P=>.mk (.type "function") none (.func (.mk "paper_size" "Middle.paper_size" (kA (kM (top 18) 6)) (.stmts (kB (kM (top 18) 6))) (kS (kM (top 18) 6)) 3 [] .none .none .none (.str "treewells.questions" 422) none (.ref 329) .none 0)) #[]
def o331:O:=fun P=>.mk (.type "tuple") none (.seq #[]) #[]
def o332:O:=fun P=>.mk (.type "dict") none (.dict #[kE P "__module__" 555 (.str "treewells.questions" 422),kE P "__firstlineno__" 559 (.int 65 558),kE P "word" 566 (.ref 288),kE P "fits" 576 (.ref 295),kE P "answer" 586 (.ref 302),kE P "paper" 596 (.ref 309),kE P "worth" 606 (.ref 316),kE P "answer_size" 617 (.ref 323),kE P "paper_size" 628 (.ref 330),kE P "__static_attributes__" 629 (.ref 331),kE P "__doc__" 630 .none] 2) #[]
def o333:O:=fun P=>.mk (.type "type") none (Data.cls (ClassData.mk "Middle" [.ref 270] [.ref 333,.ref 270,.type "object"] 332 "Middle" true [] [] false none false)) #[some (.ref 275),none,some (.str "Middle" 548),some (.str "Middle" 556),some (.builtin "object.__new__"),some (.bool true)]
def o334:O:=fun P=>.mk (.type "super") none (.fields #[.ref 333,.ref 333,.ref 333]) #[]
def o335:O:=fun P=>.mk (.type "builtin_function_or_method") none (.fields #[.builtin "object.__init_subclass__", .ref 333]) #[]
def o336:O:=fun P=>.mk (.type "tuple") none (.seq #[.ref 270]) #[]
def o337:O:=fun P=>.mk (.type "builtin_function_or_method") none (.fields #[.builtin "type.__prepare__", .type "type"]) #[]
def o338:O:=fun P=>.mk (.type "dict") none (.dict #[kE P "__module__" 640 (.str "treewells.questions" 422),kE P "__qualname__" 642 (.str "Balance" 641),kE P "__firstlineno__" 644 (.int 87 643),kE P "word" 651 (.ref 349),kE P "fits" 661 (.ref 356),kE P "answer" 671 (.ref 363),kE P "paper" 681 (.ref 370),kE P "worth" 691 (.ref 377),kE P "answer_size" 702 (.ref 384),kE P "paper_size" 713 (.ref 391),kE P "__static_attributes__" 714 (.ref 392)] 11) #[]
def o339:O:=fun P=>.mk (.type "tuple") none (.seq #[]) #[]
def o340:O:=fun P=>.mk .none none (.fields #[.int 89 0,.int 4 0,.ref 348,.int 92 0,.int 4 0,.ref 355,.int 95 0,.int 4 0,.ref 362,.int 98 0,.int 4 0,.ref 369,.int 101 0,.int 4 0,.ref 376,.int 104 0,.int 4 0,.ref 383,.int 107 0,.int 4 0,.ref 390]) #[]
def o341:O:=fun P=>.mk (.type "code") none (.fields #[.str "Balance" 635,.str "Balance" 636,.str "/claim/cut.py" 637,.int 87 0,.int 0 0,.int 0 0,.int 0 0,.int 0 0,.ref 339,.bool false,.int 181 0,.ref 340,.none,.none,.none,.none,.int 638 0,.int 87 0,.str "/claim/cut.py" 639]) #[]
def o342:O:=fun P=>.mk (.type "frame") none Data.plain #[some (.ref 341),some (.ref 3),some (.ref 338),none,some (.str "treewells.questions" 422),none,some (.ref 0)]
def o343:O:=fun P=>.mk (.type "tuple") none (.seq #[]) #[]
def o344:O:=fun P=>.mk .none none (.fields #[]) #[]
def o345:O:=fun P=>.mk (.type "tuple") none (.seq #[.str "self" 648]) #[]
def o346:O:=fun P=>.mk (.type "tuple") none (.seq #[]) #[]
def o347:O:=fun P=>.mk .none none (.func (.mk "word" "Balance.word" (kA (kM (top 19) 0)) (.stmts (kB (kM (top 19) 0))) (kS (kM (top 19) 0)) 0 [] .none .none .none .none none .none .none 0)) #[]
def o348:O:=fun P=>.mk (.type "code") none (.fields #[.str "word" 645,.str "Balance.word" 646,.str "/claim/cut.py" 647,.int 89 0,.int 1 0,.int 0 0,.int 0 0,.int 3 0,.ref 343,.bool true,.int 181 0,.ref 344,.none,.ref 345,.ref 346,.ref 347,.int 649 0,.int 89 0,.str "/claim/cut.py" 650]) #[]
def o349:O:=fun P=>.mk (.type "function") none (.func (.mk "word" "Balance.word" (kA (kM (top 19) 0)) (.stmts (kB (kM (top 19) 0))) (kS (kM (top 19) 0)) 3 [] .none .none .none (.str "treewells.questions" 422) none (.ref 348) .none 0)) #[]
def o350:O:=fun P=>.mk (.type "tuple") none (.seq #[]) #[]
def o351:O:=fun P=>.mk .none none (.fields #[]) #[]
def o352:O:=fun P=>.mk (.type "tuple") none (.seq #[.str "self" 655,.str "many" 656,.str "roads" 657,.str "asked" 658]) #[]
def o353:O:=fun P=>.mk (.type "tuple") none (.seq #[]) #[]
def o354:O:=fun P=>.mk .none none (.func (.mk "fits" "Balance.fits" (kA (kM (top 19) 1)) (.stmts (kB (kM (top 19) 1))) (kS (kM (top 19) 1)) 0 [] .none .none .none .none none .none .none 0)) #[]
def o355:O:=fun P=>.mk (.type "code") none (.fields #[.str "fits" 652,.str "Balance.fits" 653,.str "/claim/cut.py" 654,.int 92 0,.int 4 0,.int 0 0,.int 0 0,.int 3 0,.ref 350,.bool true,.int 181 0,.ref 351,.none,.ref 352,.ref 353,.ref 354,.int 659 0,.int 92 0,.str "/claim/cut.py" 660]) #[]
def o356:O:=fun P=>.mk (.type "function") none (.func (.mk "fits" "Balance.fits" (kA (kM (top 19) 1)) (.stmts (kB (kM (top 19) 1))) (kS (kM (top 19) 1)) 3 [] .none .none .none (.str "treewells.questions" 422) none (.ref 355) .none 0)) #[]
def o357:O:=fun P=>.mk (.type "tuple") none (.seq #[]) #[]
def o358:O:=fun P=>.mk .none none (.fields #[]) #[]
def o359:O:=fun P=>.mk (.type "tuple") none (.seq #[.str "self" 665,.str "many" 666,.str "roads" 667,.str "asked" 668]) #[]
def o360:O:=fun P=>.mk (.type "tuple") none (.seq #[]) #[]
def o361:O:=fun P=>.mk .none none (.func (.mk "answer" "Balance.answer" (kA (kM (top 19) 2)) (.stmts (kB (kM (top 19) 2))) (kS (kM (top 19) 2)) 0 [] .none .none .none .none none .none .none 0)) #[]
def o362:O:=fun P=>.mk (.type "code") none (.fields #[.str "answer" 662,.str "Balance.answer" 663,.str "/claim/cut.py" 664,.int 95 0,.int 4 0,.int 0 0,.int 0 0,.int 3 0,.ref 357,.bool true,.int 181 0,.ref 358,.none,.ref 359,.ref 360,.ref 361,.int 669 0,.int 95 0,.str "/claim/cut.py" 670]) #[]
def o363:O:=fun P=>.mk (.type "function") none (.func (.mk "answer" "Balance.answer" (kA (kM (top 19) 2)) (.stmts (kB (kM (top 19) 2))) (kS (kM (top 19) 2)) 3 [] .none .none .none (.str "treewells.questions" 422) none (.ref 362) .none 0)) #[]
def o364:O:=fun P=>.mk (.type "tuple") none (.seq #[]) #[]
def o365:O:=fun P=>.mk .none none (.fields #[]) #[]
def o366:O:=fun P=>.mk (.type "tuple") none (.seq #[.str "self" 675,.str "many" 676,.str "roads" 677,.str "asked" 678]) #[]
def o367:O:=fun P=>.mk (.type "tuple") none (.seq #[]) #[]
def o368:O:=fun P=>.mk .none none (.func (.mk "paper" "Balance.paper" (kA (kM (top 19) 3)) (.stmts (kB (kM (top 19) 3))) (kS (kM (top 19) 3)) 0 [] .none .none .none .none none .none .none 0)) #[]
def o369:O:=fun P=>.mk (.type "code") none (.fields #[.str "paper" 672,.str "Balance.paper" 673,.str "/claim/cut.py" 674,.int 98 0,.int 4 0,.int 0 0,.int 0 0,.int 3 0,.ref 364,.bool true,.int 181 0,.ref 365,.none,.ref 366,.ref 367,.ref 368,.int 679 0,.int 98 0,.str "/claim/cut.py" 680]) #[]
def o370:O:=fun P=>.mk (.type "function") none (.func (.mk "paper" "Balance.paper" (kA (kM (top 19) 3)) (.stmts (kB (kM (top 19) 3))) (kS (kM (top 19) 3)) 3 [] .none .none .none (.str "treewells.questions" 422) none (.ref 369) .none 0)) #[]
def o371:O:=fun P=>.mk (.type "tuple") none (.seq #[]) #[]
def o372:O:=fun P=>.mk .none none (.fields #[]) #[]
def o373:O:=fun P=>.mk (.type "tuple") none (.seq #[.str "self" 685,.str "many" 686,.str "roads" 687,.str "asked" 688]) #[]
def o374:O:=fun P=>.mk (.type "tuple") none (.seq #[]) #[]
def o375:O:=fun P=>.mk .none none (.func (.mk "worth" "Balance.worth" (kA (kM (top 19) 4)) (.stmts (kB (kM (top 19) 4))) (kS (kM (top 19) 4)) 0 [] .none .none .none .none none .none .none 0)) #[]
def o376:O:=fun P=>.mk (.type "code") none (.fields #[.str "worth" 682,.str "Balance.worth" 683,.str "/claim/cut.py" 684,.int 101 0,.int 4 0,.int 0 0,.int 0 0,.int 3 0,.ref 371,.bool true,.int 181 0,.ref 372,.none,.ref 373,.ref 374,.ref 375,.int 689 0,.int 101 0,.str "/claim/cut.py" 690]) #[]
def o377:O:=fun P=>.mk (.type "function") none (.func (.mk "worth" "Balance.worth" (kA (kM (top 19) 4)) (.stmts (kB (kM (top 19) 4))) (kS (kM (top 19) 4)) 3 [] .none .none .none (.str "treewells.questions" 422) none (.ref 376) .none 0)) #[]
def o378:O:=fun P=>.mk (.type "tuple") none (.seq #[]) #[]
def o379:O:=fun P=>.mk .none none (.fields #[]) #[]
def o380:O:=fun P=>.mk (.type "tuple") none (.seq #[.str "self" 695,.str "many" 696,.str "roads" 697,.str "asked" 698,.str "rows" 699]) #[]
def o381:O:=fun P=>.mk (.type "tuple") none (.seq #[]) #[]
def o382:O:=fun P=>.mk .none none (.func (.mk "answer_size" "Balance.answer_size" (kA (kM (top 19) 5)) (.stmts (kB (kM (top 19) 5))) (kS (kM (top 19) 5)) 0 [] .none .none .none .none none .none .none 0)) #[]
def o383:O:=fun P=>.mk (.type "code") none (.fields #[.str "answer_size" 692,.str "Balance.answer_size" 693,.str "/claim/cut.py" 694,.int 104 0,.int 5 0,.int 0 0,.int 0 0,.int 3 0,.ref 378,.bool true,.int 181 0,.ref 379,.none,.ref 380,.ref 381,.ref 382,.int 700 0,.int 104 0,.str "/claim/cut.py" 701]) #[]
def o384:O:=fun P=>.mk (.type "function") none (.func (.mk "answer_size" "Balance.answer_size" (kA (kM (top 19) 5)) (.stmts (kB (kM (top 19) 5))) (kS (kM (top 19) 5)) 3 [] .none .none .none (.str "treewells.questions" 422) none (.ref 383) .none 0)) #[]
def o385:O:=fun P=>.mk (.type "tuple") none (.seq #[]) #[]
def o386:O:=fun P=>.mk .none none (.fields #[]) #[]
def o387:O:=fun P=>.mk (.type "tuple") none (.seq #[.str "self" 706,.str "many" 707,.str "roads" 708,.str "asked" 709,.str "rows" 710]) #[]
def o388:O:=fun P=>.mk (.type "tuple") none (.seq #[]) #[]
def o389:O:=fun P=>.mk .none none (.func (.mk "paper_size" "Balance.paper_size" (kA (kM (top 19) 6)) (.stmts (kB (kM (top 19) 6))) (kS (kM (top 19) 6)) 0 [] .none .none .none .none none .none .none 0)) #[]
def o390:O:=fun P=>.mk (.type "code") none (.fields #[.str "paper_size" 703,.str "Balance.paper_size" 704,.str "/claim/cut.py" 705,.int 107 0,.int 5 0,.int 0 0,.int 0 0,.int 3 0,.ref 385,.bool true,.int 181 0,.ref 386,.none,.ref 387,.ref 388,.ref 389,.int 711 0,.int 107 0,.str "/claim/cut.py" 712]) #[]
def o391:O:=fun P=>.mk (.type "function") none (.func (.mk "paper_size" "Balance.paper_size" (kA (kM (top 19) 6)) (.stmts (kB (kM (top 19) 6))) (kS (kM (top 19) 6)) 3 [] .none .none .none (.str "treewells.questions" 422) none (.ref 390) .none 0)) #[]
def o392:O:=fun P=>.mk (.type "tuple") none (.seq #[]) #[]
def o393:O:=fun P=>.mk (.type "dict") none (.dict #[kE P "__module__" 640 (.str "treewells.questions" 422),kE P "__firstlineno__" 644 (.int 87 643),kE P "word" 651 (.ref 349),kE P "fits" 661 (.ref 356),kE P "answer" 671 (.ref 363),kE P "paper" 681 (.ref 370),kE P "worth" 691 (.ref 377),kE P "answer_size" 702 (.ref 384),kE P "paper_size" 713 (.ref 391),kE P "__static_attributes__" 714 (.ref 392),kE P "__doc__" 715 .none] 2) #[]
def o394:O:=fun P=>.mk (.type "type") none (Data.cls (ClassData.mk "Balance" [.ref 270] [.ref 394,.ref 270,.type "object"] 393 "Balance" true [] [] false none false)) #[some (.ref 336),none,some (.str "Balance" 633),some (.str "Balance" 641),some (.builtin "object.__new__"),some (.bool true)]
def o395:O:=fun P=>.mk (.type "super") none (.fields #[.ref 394,.ref 394,.ref 394]) #[]
def o396:O:=fun P=>.mk (.type "builtin_function_or_method") none (.fields #[.builtin "object.__init_subclass__", .ref 394]) #[]
def o397:O:=fun P=>.mk (.type "tuple") none (.seq #[.ref 270]) #[]
def o398:O:=fun P=>.mk (.type "builtin_function_or_method") none (.fields #[.builtin "type.__prepare__", .type "type"]) #[]
def o399:O:=fun P=>.mk (.type "dict") none (.dict #[kE P "__module__" 725 (.str "treewells.questions" 422),kE P "__qualname__" 727 (.str "Digging" 726),kE P "__firstlineno__" 729 (.int 109 728),kE P "are_wells" 741 (.ref 410),kE P "are_shy" 753 (.ref 417),kE P "are_missed" 765 (.ref 424),kE P "__static_attributes__" 766 (.ref 425)] 7) #[]
def o400:O:=fun P=>.mk (.type "tuple") none (.seq #[]) #[]
def o401:O:=fun P=>.mk .none none (.fields #[.int 111 0,.int 4 0,.ref 409,.int 114 0,.int 4 0,.ref 416,.int 117 0,.int 4 0,.ref 423]) #[]
def o402:O:=fun P=>.mk (.type "code") none (.fields #[.str "Digging" 720,.str "Digging" 721,.str "/claim/cut.py" 722,.int 109 0,.int 0 0,.int 0 0,.int 0 0,.int 0 0,.ref 400,.bool false,.int 181 0,.ref 401,.none,.none,.none,.none,.int 723 0,.int 109 0,.str "/claim/cut.py" 724]) #[]
def o403:O:=fun P=>.mk (.type "frame") none Data.plain #[some (.ref 402),some (.ref 3),some (.ref 399),none,some (.str "treewells.questions" 422),none,some (.ref 0)]
def o404:O:=fun P=>.mk (.type "tuple") none (.seq #[]) #[]
def o405:O:=fun P=>.mk .none none (.fields #[]) #[]
def o406:O:=fun P=>.mk (.type "tuple") none (.seq #[.str "self" 733,.str "many" 734,.str "roads" 735,.str "houses" 736,.str "sites" 737,.str "rows" 738]) #[]
def o407:O:=fun P=>.mk (.type "tuple") none (.seq #[]) #[]
def o408:O:=fun P=>.mk .none none (.func (.mk "are_wells" "Digging.are_wells" (kA (kM (top 20) 0)) (.stmts (kB (kM (top 20) 0))) (kS (kM (top 20) 0)) 0 [] .none .none .none .none none .none .none 0)) #[]
def o409:O:=fun P=>.mk (.type "code") none (.fields #[.str "are_wells" 730,.str "Digging.are_wells" 731,.str "/claim/cut.py" 732,.int 111 0,.int 6 0,.int 0 0,.int 0 0,.int 3 0,.ref 404,.bool true,.int 181 0,.ref 405,.none,.ref 406,.ref 407,.ref 408,.int 739 0,.int 111 0,.str "/claim/cut.py" 740]) #[]
def o410:O:=fun P=>.mk (.type "function") none (.func (.mk "are_wells" "Digging.are_wells" (kA (kM (top 20) 0)) (.stmts (kB (kM (top 20) 0))) (kS (kM (top 20) 0)) 3 [] .none .none .none (.str "treewells.questions" 422) none (.ref 409) .none 0)) #[]
def o411:O:=fun P=>.mk (.type "tuple") none (.seq #[]) #[]
def o412:O:=fun P=>.mk .none none (.fields #[]) #[]
def o413:O:=fun P=>.mk (.type "tuple") none (.seq #[.str "self" 745,.str "many" 746,.str "roads" 747,.str "houses" 748,.str "sites" 749,.str "rows" 750]) #[]
def o414:O:=fun P=>.mk (.type "tuple") none (.seq #[]) #[]
def o415:O:=fun P=>.mk .none none (.func (.mk "are_shy" "Digging.are_shy" (kA (kM (top 20) 1)) (.stmts (kB (kM (top 20) 1))) (kS (kM (top 20) 1)) 0 [] .none .none .none .none none .none .none 0)) #[]
def o416:O:=fun P=>.mk (.type "code") none (.fields #[.str "are_shy" 742,.str "Digging.are_shy" 743,.str "/claim/cut.py" 744,.int 114 0,.int 6 0,.int 0 0,.int 0 0,.int 3 0,.ref 411,.bool true,.int 181 0,.ref 412,.none,.ref 413,.ref 414,.ref 415,.int 751 0,.int 114 0,.str "/claim/cut.py" 752]) #[]
def o417:O:=fun P=>.mk (.type "function") none (.func (.mk "are_shy" "Digging.are_shy" (kA (kM (top 20) 1)) (.stmts (kB (kM (top 20) 1))) (kS (kM (top 20) 1)) 3 [] .none .none .none (.str "treewells.questions" 422) none (.ref 416) .none 0)) #[]
def o418:O:=fun P=>.mk (.type "tuple") none (.seq #[]) #[]
def o419:O:=fun P=>.mk .none none (.fields #[]) #[]
def o420:O:=fun P=>.mk (.type "tuple") none (.seq #[.str "self" 757,.str "many" 758,.str "roads" 759,.str "houses" 760,.str "sites" 761,.str "rows" 762]) #[]
def o421:O:=fun P=>.mk (.type "tuple") none (.seq #[]) #[]
def o422:O:=fun P=>.mk .none none (.func (.mk "are_missed" "Digging.are_missed" (kA (kM (top 20) 2)) (.stmts (kB (kM (top 20) 2))) (kS (kM (top 20) 2)) 0 [] .none .none .none .none none .none .none 0)) #[]
def o423:O:=fun P=>.mk (.type "code") none (.fields #[.str "are_missed" 754,.str "Digging.are_missed" 755,.str "/claim/cut.py" 756,.int 117 0,.int 6 0,.int 0 0,.int 0 0,.int 3 0,.ref 418,.bool true,.int 181 0,.ref 419,.none,.ref 420,.ref 421,.ref 422,.int 763 0,.int 117 0,.str "/claim/cut.py" 764]) #[]
def o424:O:=fun P=>.mk (.type "function") none (.func (.mk "are_missed" "Digging.are_missed" (kA (kM (top 20) 2)) (.stmts (kB (kM (top 20) 2))) (kS (kM (top 20) 2)) 3 [] .none .none .none (.str "treewells.questions" 422) none (.ref 423) .none 0)) #[]
def o425:O:=fun P=>.mk (.type "tuple") none (.seq #[]) #[]
def o426:O:=fun P=>.mk (.type "dict") none (.dict #[kE P "__module__" 725 (.str "treewells.questions" 422),kE P "__firstlineno__" 729 (.int 109 728),kE P "are_wells" 741 (.ref 410),kE P "are_shy" 753 (.ref 417),kE P "are_missed" 765 (.ref 424),kE P "__static_attributes__" 766 (.ref 425),kE P "__doc__" 767 .none] 2) #[]
def o427:O:=fun P=>.mk (.type "type") none (Data.cls (ClassData.mk "Digging" [.ref 270] [.ref 427,.ref 270,.type "object"] 426 "Digging" true [] [.ref 495,.ref 556] false none false)) #[some (.ref 397),none,some (.str "Digging" 718),some (.str "Digging" 726),some (.builtin "object.__new__"),some (.bool true)]
def o428:O:=fun P=>.mk (.type "super") none (.fields #[.ref 427,.ref 427,.ref 427]) #[]
def o429:O:=fun P=>.mk (.type "builtin_function_or_method") none (.fields #[.builtin "object.__init_subclass__", .ref 427]) #[]
def o430:O:=fun P=>.mk (.type "tuple") none (.seq #[.ref 427]) #[]
def o431:O:=fun P=>.mk (.type "builtin_function_or_method") none (.fields #[.builtin "type.__prepare__", .type "type"]) #[]
def o432:O:=fun P=>.mk (.type "dict") none (.dict #[kE P "__module__" 777 (.str "treewells.questions" 422),kE P "__qualname__" 779 (.str "Wells" 778),kE P "__firstlineno__" 781 (.int 119 780),kE P "word" 788 (.ref 443),kE P "fits" 798 (.ref 450),kE P "answer" 808 (.ref 457),kE P "paper" 818 (.ref 464),kE P "worth" 828 (.ref 471),kE P "answer_size" 839 (.ref 478),kE P "paper_size" 850 (.ref 485),kE P "shows_none" 861 (.ref 492),kE P "__static_attributes__" 862 (.ref 493)] 12) #[]
def o433:O:=fun P=>.mk (.type "tuple") none (.seq #[]) #[]
def o434:O:=fun P=>.mk .none none (.fields #[.int 121 0,.int 4 0,.ref 442,.int 124 0,.int 4 0,.ref 449,.int 127 0,.int 4 0,.ref 456,.int 130 0,.int 4 0,.ref 463,.int 133 0,.int 4 0,.ref 470,.int 136 0,.int 4 0,.ref 477,.int 139 0,.int 4 0,.ref 484,.int 142 0,.int 4 0,.ref 491]) #[]
def o435:O:=fun P=>.mk (.type "code") none (.fields #[.str "Wells" 772,.str "Wells" 773,.str "/claim/cut.py" 774,.int 119 0,.int 0 0,.int 0 0,.int 0 0,.int 0 0,.ref 433,.bool false,.int 181 0,.ref 434,.none,.none,.none,.none,.int 775 0,.int 119 0,.str "/claim/cut.py" 776]) #[]
def o436:O:=fun P=>.mk (.type "frame") none Data.plain #[some (.ref 435),some (.ref 3),some (.ref 432),none,some (.str "treewells.questions" 422),none,some (.ref 0)]
def o437:O:=fun P=>.mk (.type "tuple") none (.seq #[]) #[]
def o438:O:=fun P=>.mk .none none (.fields #[]) #[]
def o439:O:=fun P=>.mk (.type "tuple") none (.seq #[.str "self" 785]) #[]
def o440:O:=fun P=>.mk (.type "tuple") none (.seq #[]) #[]
def o441:O:=fun P=>.mk .none none (.func (.mk "word" "Wells.word" (kA (kM (top 21) 0)) (.stmts (kB (kM (top 21) 0))) (kS (kM (top 21) 0)) 0 [] .none .none .none .none none .none .none 0)) #[]
def o442:O:=fun P=>.mk (.type "code") none (.fields #[.str "word" 782,.str "Wells.word" 783,.str "/claim/cut.py" 784,.int 121 0,.int 1 0,.int 0 0,.int 0 0,.int 3 0,.ref 437,.bool true,.int 181 0,.ref 438,.none,.ref 439,.ref 440,.ref 441,.int 786 0,.int 121 0,.str "/claim/cut.py" 787]) #[]
def o443:O:=fun P=>.mk (.type "function") none (.func (.mk "word" "Wells.word" (kA (kM (top 21) 0)) (.stmts (kB (kM (top 21) 0))) (kS (kM (top 21) 0)) 3 [] .none .none .none (.str "treewells.questions" 422) none (.ref 442) .none 0)) #[]
def o444:O:=fun P=>.mk (.type "tuple") none (.seq #[]) #[]
def o445:O:=fun P=>.mk .none none (.fields #[]) #[]
def o446:O:=fun P=>.mk (.type "tuple") none (.seq #[.str "self" 792,.str "many" 793,.str "roads" 794,.str "asked" 795]) #[]
def o447:O:=fun P=>.mk (.type "tuple") none (.seq #[]) #[]
def o448:O:=fun P=>.mk .none none (.func (.mk "fits" "Wells.fits" (kA (kM (top 21) 1)) (.stmts (kB (kM (top 21) 1))) (kS (kM (top 21) 1)) 0 [] .none .none .none .none none .none .none 0)) #[]
def o449:O:=fun P=>.mk (.type "code") none (.fields #[.str "fits" 789,.str "Wells.fits" 790,.str "/claim/cut.py" 791,.int 124 0,.int 4 0,.int 0 0,.int 0 0,.int 3 0,.ref 444,.bool true,.int 181 0,.ref 445,.none,.ref 446,.ref 447,.ref 448,.int 796 0,.int 124 0,.str "/claim/cut.py" 797]) #[]
def o450:O:=fun P=>.mk (.type "function") none (.func (.mk "fits" "Wells.fits" (kA (kM (top 21) 1)) (.stmts (kB (kM (top 21) 1))) (kS (kM (top 21) 1)) 3 [] .none .none .none (.str "treewells.questions" 422) none (.ref 449) .none 0)) #[]
def o451:O:=fun P=>.mk (.type "tuple") none (.seq #[]) #[]
def o452:O:=fun P=>.mk .none none (.fields #[]) #[]
def o453:O:=fun P=>.mk (.type "tuple") none (.seq #[.str "self" 802,.str "many" 803,.str "roads" 804,.str "asked" 805]) #[]
def o454:O:=fun P=>.mk (.type "tuple") none (.seq #[]) #[]
def o455:O:=fun P=>.mk .none none (.func (.mk "answer" "Wells.answer" (kA (kM (top 21) 2)) (.stmts (kB (kM (top 21) 2))) (kS (kM (top 21) 2)) 0 [] .none .none .none .none none .none .none 0)) #[]
def o456:O:=fun P=>.mk (.type "code") none (.fields #[.str "answer" 799,.str "Wells.answer" 800,.str "/claim/cut.py" 801,.int 127 0,.int 4 0,.int 0 0,.int 0 0,.int 3 0,.ref 451,.bool true,.int 181 0,.ref 452,.none,.ref 453,.ref 454,.ref 455,.int 806 0,.int 127 0,.str "/claim/cut.py" 807]) #[]
def o457:O:=fun P=>.mk (.type "function") none (.func (.mk "answer" "Wells.answer" (kA (kM (top 21) 2)) (.stmts (kB (kM (top 21) 2))) (kS (kM (top 21) 2)) 3 [] .none .none .none (.str "treewells.questions" 422) none (.ref 456) .none 0)) #[]
def o458:O:=fun P=>.mk (.type "tuple") none (.seq #[]) #[]
def o459:O:=fun P=>.mk .none none (.fields #[]) #[]
def o460:O:=fun P=>.mk (.type "tuple") none (.seq #[.str "self" 812,.str "many" 813,.str "roads" 814,.str "asked" 815]) #[]
def o461:O:=fun P=>.mk (.type "tuple") none (.seq #[]) #[]
def o462:O:=fun P=>.mk .none none (.func (.mk "paper" "Wells.paper" (kA (kM (top 21) 3)) (.stmts (kB (kM (top 21) 3))) (kS (kM (top 21) 3)) 0 [] .none .none .none .none none .none .none 0)) #[]
def o463:O:=fun P=>.mk (.type "code") none (.fields #[.str "paper" 809,.str "Wells.paper" 810,.str "/claim/cut.py" 811,.int 130 0,.int 4 0,.int 0 0,.int 0 0,.int 3 0,.ref 458,.bool true,.int 181 0,.ref 459,.none,.ref 460,.ref 461,.ref 462,.int 816 0,.int 130 0,.str "/claim/cut.py" 817]) #[]
def o464:O:=fun P=>.mk (.type "function") none (.func (.mk "paper" "Wells.paper" (kA (kM (top 21) 3)) (.stmts (kB (kM (top 21) 3))) (kS (kM (top 21) 3)) 3 [] .none .none .none (.str "treewells.questions" 422) none (.ref 463) .none 0)) #[]
def o465:O:=fun P=>.mk (.type "tuple") none (.seq #[]) #[]
def o466:O:=fun P=>.mk .none none (.fields #[]) #[]
def o467:O:=fun P=>.mk (.type "tuple") none (.seq #[.str "self" 822,.str "many" 823,.str "roads" 824,.str "asked" 825]) #[]
def o468:O:=fun P=>.mk (.type "tuple") none (.seq #[]) #[]
def o469:O:=fun P=>.mk .none none (.func (.mk "worth" "Wells.worth" (kA (kM (top 21) 4)) (.stmts (kB (kM (top 21) 4))) (kS (kM (top 21) 4)) 0 [] .none .none .none .none none .none .none 0)) #[]
def o470:O:=fun P=>.mk (.type "code") none (.fields #[.str "worth" 819,.str "Wells.worth" 820,.str "/claim/cut.py" 821,.int 133 0,.int 4 0,.int 0 0,.int 0 0,.int 3 0,.ref 465,.bool true,.int 181 0,.ref 466,.none,.ref 467,.ref 468,.ref 469,.int 826 0,.int 133 0,.str "/claim/cut.py" 827]) #[]
def o471:O:=fun P=>.mk (.type "function") none (.func (.mk "worth" "Wells.worth" (kA (kM (top 21) 4)) (.stmts (kB (kM (top 21) 4))) (kS (kM (top 21) 4)) 3 [] .none .none .none (.str "treewells.questions" 422) none (.ref 470) .none 0)) #[]
def o472:O:=fun P=>.mk (.type "tuple") none (.seq #[]) #[]
def o473:O:=fun P=>.mk .none none (.fields #[]) #[]
def o474:O:=fun P=>.mk (.type "tuple") none (.seq #[.str "self" 832,.str "many" 833,.str "roads" 834,.str "asked" 835,.str "rows" 836]) #[]
def o475:O:=fun P=>.mk (.type "tuple") none (.seq #[]) #[]
def o476:O:=fun P=>.mk .none none (.func (.mk "answer_size" "Wells.answer_size" (kA (kM (top 21) 5)) (.stmts (kB (kM (top 21) 5))) (kS (kM (top 21) 5)) 0 [] .none .none .none .none none .none .none 0)) #[]
def o477:O:=fun P=>.mk (.type "code") none (.fields #[.str "answer_size" 829,.str "Wells.answer_size" 830,.str "/claim/cut.py" 831,.int 136 0,.int 5 0,.int 0 0,.int 0 0,.int 3 0,.ref 472,.bool true,.int 181 0,.ref 473,.none,.ref 474,.ref 475,.ref 476,.int 837 0,.int 136 0,.str "/claim/cut.py" 838]) #[]
def o478:O:=fun P=>.mk (.type "function") none (.func (.mk "answer_size" "Wells.answer_size" (kA (kM (top 21) 5)) (.stmts (kB (kM (top 21) 5))) (kS (kM (top 21) 5)) 3 [] .none .none .none (.str "treewells.questions" 422) none (.ref 477) .none 0)) #[]
def o479:O:=fun P=>.mk (.type "tuple") none (.seq #[]) #[]
def o480:O:=fun P=>.mk .none none (.fields #[]) #[]
def o481:O:=fun P=>.mk (.type "tuple") none (.seq #[.str "self" 843,.str "many" 844,.str "roads" 845,.str "asked" 846,.str "rows" 847]) #[]
def o482:O:=fun P=>.mk (.type "tuple") none (.seq #[]) #[]
def o483:O:=fun P=>.mk .none none (.func (.mk "paper_size" "Wells.paper_size" (kA (kM (top 21) 6)) (.stmts (kB (kM (top 21) 6))) (kS (kM (top 21) 6)) 0 [] .none .none .none .none none .none .none 0)) #[]
def o484:O:=fun P=>.mk (.type "code") none (.fields #[.str "paper_size" 840,.str "Wells.paper_size" 841,.str "/claim/cut.py" 842,.int 139 0,.int 5 0,.int 0 0,.int 0 0,.int 3 0,.ref 479,.bool true,.int 181 0,.ref 480,.none,.ref 481,.ref 482,.ref 483,.int 848 0,.int 139 0,.str "/claim/cut.py" 849]) #[]
def o485:O:=fun P=>.mk (.type "function") none (.func (.mk "paper_size" "Wells.paper_size" (kA (kM (top 21) 6)) (.stmts (kB (kM (top 21) 6))) (kS (kM (top 21) 6)) 3 [] .none .none .none (.str "treewells.questions" 422) none (.ref 484) .none 0)) #[]
def o486:O:=fun P=>.mk (.type "tuple") none (.seq #[]) #[]
def o487:O:=fun P=>.mk .none none (.fields #[]) #[]
def o488:O:=fun P=>.mk (.type "tuple") none (.seq #[.str "self" 854,.str "many" 855,.str "roads" 856,.str "asked" 857,.str "rows" 858]) #[]
def o489:O:=fun P=>.mk (.type "tuple") none (.seq #[]) #[]
def o490:O:=fun P=>.mk .none none (.func (.mk "shows_none" "Wells.shows_none" (kA (kM (top 21) 7)) (.stmts (kB (kM (top 21) 7))) (kS (kM (top 21) 7)) 0 [] .none .none .none .none none .none .none 0)) #[]
def o491:O:=fun P=>.mk (.type "code") none (.fields #[.str "shows_none" 851,.str "Wells.shows_none" 852,.str "/claim/cut.py" 853,.int 142 0,.int 5 0,.int 0 0,.int 0 0,.int 3 0,.ref 486,.bool true,.int 181 0,.ref 487,.none,.ref 488,.ref 489,.ref 490,.int 859 0,.int 142 0,.str "/claim/cut.py" 860]) #[]
def o492:O:=fun P=>.mk (.type "function") none (.func (.mk "shows_none" "Wells.shows_none" (kA (kM (top 21) 7)) (.stmts (kB (kM (top 21) 7))) (kS (kM (top 21) 7)) 3 [] .none .none .none (.str "treewells.questions" 422) none (.ref 491) .none 0)) #[]
def o493:O:=fun P=>.mk (.type "tuple") none (.seq #[]) #[]
def o494:O:=fun P=>.mk (.type "dict") none (.dict #[kE P "__module__" 777 (.str "treewells.questions" 422),kE P "__firstlineno__" 781 (.int 119 780),kE P "word" 788 (.ref 443),kE P "fits" 798 (.ref 450),kE P "answer" 808 (.ref 457),kE P "paper" 818 (.ref 464),kE P "worth" 828 (.ref 471),kE P "answer_size" 839 (.ref 478),kE P "paper_size" 850 (.ref 485),kE P "shows_none" 861 (.ref 492),kE P "__static_attributes__" 862 (.ref 493),kE P "__doc__" 863 .none] 2) #[]
def o495:O:=fun P=>.mk (.type "type") none (Data.cls (ClassData.mk "Wells" [.ref 427] [.ref 495,.ref 427,.ref 270,.type "object"] 494 "Wells" true [] [] false none false)) #[some (.ref 430),none,some (.str "Wells" 770),some (.str "Wells" 778),some (.builtin "object.__new__"),some (.bool true)]
def o496:O:=fun P=>.mk (.type "super") none (.fields #[.ref 495,.ref 495,.ref 495]) #[]
def o497:O:=fun P=>.mk (.type "builtin_function_or_method") none (.fields #[.builtin "object.__init_subclass__", .ref 495]) #[]
def o498:O:=fun P=>.mk (.type "tuple") none (.seq #[.ref 427]) #[]
def o499:O:=fun P=>.mk (.type "builtin_function_or_method") none (.fields #[.builtin "type.__prepare__", .type "type"]) #[]
def o500:O:=fun P=>.mk (.type "dict") none (.dict #[kE P "__module__" 873 (.str "treewells.questions" 422),kE P "__qualname__" 875 (.str "Reach" 874),kE P "__firstlineno__" 877 (.int 144 876),kE P "word" 884 (.ref 511),kE P "fits" 894 (.ref 518),kE P "answer" 904 (.ref 525),kE P "paper" 914 (.ref 532),kE P "worth" 924 (.ref 539),kE P "takes" 936 (.ref 546),kE P "shows" 948 (.ref 553),kE P "__static_attributes__" 949 (.ref 554)] 11) #[]
def o501:O:=fun P=>.mk (.type "tuple") none (.seq #[]) #[]
def o502:O:=fun P=>.mk .none none (.fields #[.int 146 0,.int 4 0,.ref 510,.int 149 0,.int 4 0,.ref 517,.int 152 0,.int 4 0,.ref 524,.int 155 0,.int 4 0,.ref 531,.int 158 0,.int 4 0,.ref 538,.int 161 0,.int 4 0,.ref 545,.int 164 0,.int 4 0,.ref 552]) #[]
def o503:O:=fun P=>.mk (.type "code") none (.fields #[.str "Reach" 868,.str "Reach" 869,.str "/claim/cut.py" 870,.int 144 0,.int 0 0,.int 0 0,.int 0 0,.int 0 0,.ref 501,.bool false,.int 181 0,.ref 502,.none,.none,.none,.none,.int 871 0,.int 144 0,.str "/claim/cut.py" 872]) #[]
def o504:O:=fun P=>.mk (.type "frame") none Data.plain #[some (.ref 503),some (.ref 3),some (.ref 500),none,some (.str "treewells.questions" 422),none,some (.ref 0)]
def o505:O:=fun P=>.mk (.type "tuple") none (.seq #[]) #[]
def o506:O:=fun P=>.mk .none none (.fields #[]) #[]
def o507:O:=fun P=>.mk (.type "tuple") none (.seq #[.str "self" 881]) #[]
def o508:O:=fun P=>.mk (.type "tuple") none (.seq #[]) #[]
def o509:O:=fun P=>.mk .none none (.func (.mk "word" "Reach.word" (kA (kM (top 22) 0)) (.stmts (kB (kM (top 22) 0))) (kS (kM (top 22) 0)) 0 [] .none .none .none .none none .none .none 0)) #[]
def o510:O:=fun P=>.mk (.type "code") none (.fields #[.str "word" 878,.str "Reach.word" 879,.str "/claim/cut.py" 880,.int 146 0,.int 1 0,.int 0 0,.int 0 0,.int 3 0,.ref 505,.bool true,.int 181 0,.ref 506,.none,.ref 507,.ref 508,.ref 509,.int 882 0,.int 146 0,.str "/claim/cut.py" 883]) #[]
def o511:O:=fun P=>.mk (.type "function") none (.func (.mk "word" "Reach.word" (kA (kM (top 22) 0)) (.stmts (kB (kM (top 22) 0))) (kS (kM (top 22) 0)) 3 [] .none .none .none (.str "treewells.questions" 422) none (.ref 510) .none 0)) #[]
def o512:O:=fun P=>.mk (.type "tuple") none (.seq #[]) #[]
def o513:O:=fun P=>.mk .none none (.fields #[]) #[]
def o514:O:=fun P=>.mk (.type "tuple") none (.seq #[.str "self" 888,.str "many" 889,.str "roads" 890,.str "asked" 891]) #[]
def o515:O:=fun P=>.mk (.type "tuple") none (.seq #[]) #[]
def o516:O:=fun P=>.mk .none none (.func (.mk "fits" "Reach.fits" (kA (kM (top 22) 1)) (.stmts (kB (kM (top 22) 1))) (kS (kM (top 22) 1)) 0 [] .none .none .none .none none .none .none 0)) #[]
def o517:O:=fun P=>.mk (.type "code") none (.fields #[.str "fits" 885,.str "Reach.fits" 886,.str "/claim/cut.py" 887,.int 149 0,.int 4 0,.int 0 0,.int 0 0,.int 3 0,.ref 512,.bool true,.int 181 0,.ref 513,.none,.ref 514,.ref 515,.ref 516,.int 892 0,.int 149 0,.str "/claim/cut.py" 893]) #[]
def o518:O:=fun P=>.mk (.type "function") none (.func (.mk "fits" "Reach.fits" (kA (kM (top 22) 1)) (.stmts (kB (kM (top 22) 1))) (kS (kM (top 22) 1)) 3 [] .none .none .none (.str "treewells.questions" 422) none (.ref 517) .none 0)) #[]
def o519:O:=fun P=>.mk (.type "tuple") none (.seq #[]) #[]
def o520:O:=fun P=>.mk .none none (.fields #[]) #[]
def o521:O:=fun P=>.mk (.type "tuple") none (.seq #[.str "self" 898,.str "many" 899,.str "roads" 900,.str "asked" 901]) #[]
def o522:O:=fun P=>.mk (.type "tuple") none (.seq #[]) #[]
def o523:O:=fun P=>.mk .none none (.func (.mk "answer" "Reach.answer" (kA (kM (top 22) 2)) (.stmts (kB (kM (top 22) 2))) (kS (kM (top 22) 2)) 0 [] .none .none .none .none none .none .none 0)) #[]
def o524:O:=fun P=>.mk (.type "code") none (.fields #[.str "answer" 895,.str "Reach.answer" 896,.str "/claim/cut.py" 897,.int 152 0,.int 4 0,.int 0 0,.int 0 0,.int 3 0,.ref 519,.bool true,.int 181 0,.ref 520,.none,.ref 521,.ref 522,.ref 523,.int 902 0,.int 152 0,.str "/claim/cut.py" 903]) #[]
def o525:O:=fun P=>.mk (.type "function") none (.func (.mk "answer" "Reach.answer" (kA (kM (top 22) 2)) (.stmts (kB (kM (top 22) 2))) (kS (kM (top 22) 2)) 3 [] .none .none .none (.str "treewells.questions" 422) none (.ref 524) .none 0)) #[]
def o526:O:=fun P=>.mk (.type "tuple") none (.seq #[]) #[]
def o527:O:=fun P=>.mk .none none (.fields #[]) #[]
def o528:O:=fun P=>.mk (.type "tuple") none (.seq #[.str "self" 908,.str "many" 909,.str "roads" 910,.str "asked" 911]) #[]
def o529:O:=fun P=>.mk (.type "tuple") none (.seq #[]) #[]
def o530:O:=fun P=>.mk .none none (.func (.mk "paper" "Reach.paper" (kA (kM (top 22) 3)) (.stmts (kB (kM (top 22) 3))) (kS (kM (top 22) 3)) 0 [] .none .none .none .none none .none .none 0)) #[]
def o531:O:=fun P=>.mk (.type "code") none (.fields #[.str "paper" 905,.str "Reach.paper" 906,.str "/claim/cut.py" 907,.int 155 0,.int 4 0,.int 0 0,.int 0 0,.int 3 0,.ref 526,.bool true,.int 181 0,.ref 527,.none,.ref 528,.ref 529,.ref 530,.int 912 0,.int 155 0,.str "/claim/cut.py" 913]) #[]
def o532:O:=fun P=>.mk (.type "function") none (.func (.mk "paper" "Reach.paper" (kA (kM (top 22) 3)) (.stmts (kB (kM (top 22) 3))) (kS (kM (top 22) 3)) 3 [] .none .none .none (.str "treewells.questions" 422) none (.ref 531) .none 0)) #[]
def o533:O:=fun P=>.mk (.type "tuple") none (.seq #[]) #[]
def o534:O:=fun P=>.mk .none none (.fields #[]) #[]
def o535:O:=fun P=>.mk (.type "tuple") none (.seq #[.str "self" 918,.str "many" 919,.str "roads" 920,.str "asked" 921]) #[]
def o536:O:=fun P=>.mk (.type "tuple") none (.seq #[]) #[]
def o537:O:=fun P=>.mk .none none (.func (.mk "worth" "Reach.worth" (kA (kM (top 22) 4)) (.stmts (kB (kM (top 22) 4))) (kS (kM (top 22) 4)) 0 [] .none .none .none .none none .none .none 0)) #[]
def o538:O:=fun P=>.mk (.type "code") none (.fields #[.str "worth" 915,.str "Reach.worth" 916,.str "/claim/cut.py" 917,.int 158 0,.int 4 0,.int 0 0,.int 0 0,.int 3 0,.ref 533,.bool true,.int 181 0,.ref 534,.none,.ref 535,.ref 536,.ref 537,.int 922 0,.int 158 0,.str "/claim/cut.py" 923]) #[]
def o539:O:=fun P=>.mk (.type "function") none (.func (.mk "worth" "Reach.worth" (kA (kM (top 22) 4)) (.stmts (kB (kM (top 22) 4))) (kS (kM (top 22) 4)) 3 [] .none .none .none (.str "treewells.questions" 422) none (.ref 538) .none 0)) #[]
def o540:O:=fun P=>.mk (.type "tuple") none (.seq #[]) #[]
def o541:O:=fun P=>.mk .none none (.fields #[]) #[]
def o542:O:=fun P=>.mk (.type "tuple") none (.seq #[.str "self" 928,.str "many" 929,.str "roads" 930,.str "asked" 931,.str "rows" 932,.str "worth" 933]) #[]
def o543:O:=fun P=>.mk (.type "tuple") none (.seq #[]) #[]
def o544:O:=fun P=>.mk .none none (.func (.mk "takes" "Reach.takes" (kA (kM (top 22) 5)) (.stmts (kB (kM (top 22) 5))) (kS (kM (top 22) 5)) 0 [] .none .none .none .none none .none .none 0)) #[]
def o545:O:=fun P=>.mk (.type "code") none (.fields #[.str "takes" 925,.str "Reach.takes" 926,.str "/claim/cut.py" 927,.int 161 0,.int 6 0,.int 0 0,.int 0 0,.int 3 0,.ref 540,.bool true,.int 181 0,.ref 541,.none,.ref 542,.ref 543,.ref 544,.int 934 0,.int 161 0,.str "/claim/cut.py" 935]) #[]
def o546:O:=fun P=>.mk (.type "function") none (.func (.mk "takes" "Reach.takes" (kA (kM (top 22) 5)) (.stmts (kB (kM (top 22) 5))) (kS (kM (top 22) 5)) 3 [] .none .none .none (.str "treewells.questions" 422) none (.ref 545) .none 0)) #[]
def o547:O:=fun P=>.mk (.type "tuple") none (.seq #[]) #[]
def o548:O:=fun P=>.mk .none none (.fields #[]) #[]
def o549:O:=fun P=>.mk (.type "tuple") none (.seq #[.str "self" 940,.str "many" 941,.str "roads" 942,.str "asked" 943,.str "rows" 944,.str "worth" 945]) #[]
def o550:O:=fun P=>.mk (.type "tuple") none (.seq #[]) #[]
def o551:O:=fun P=>.mk .none none (.func (.mk "shows" "Reach.shows" (kA (kM (top 22) 6)) (.stmts (kB (kM (top 22) 6))) (kS (kM (top 22) 6)) 0 [] .none .none .none .none none .none .none 0)) #[]
def o552:O:=fun P=>.mk (.type "code") none (.fields #[.str "shows" 937,.str "Reach.shows" 938,.str "/claim/cut.py" 939,.int 164 0,.int 6 0,.int 0 0,.int 0 0,.int 3 0,.ref 547,.bool true,.int 181 0,.ref 548,.none,.ref 549,.ref 550,.ref 551,.int 946 0,.int 164 0,.str "/claim/cut.py" 947]) #[]
def o553:O:=fun P=>.mk (.type "function") none (.func (.mk "shows" "Reach.shows" (kA (kM (top 22) 6)) (.stmts (kB (kM (top 22) 6))) (kS (kM (top 22) 6)) 3 [] .none .none .none (.str "treewells.questions" 422) none (.ref 552) .none 0)) #[]
def o554:O:=fun P=>.mk (.type "tuple") none (.seq #[]) #[]
def o555:O:=fun P=>.mk (.type "dict") none (.dict #[kE P "__module__" 873 (.str "treewells.questions" 422),kE P "__firstlineno__" 877 (.int 144 876),kE P "word" 884 (.ref 511),kE P "fits" 894 (.ref 518),kE P "answer" 904 (.ref 525),kE P "paper" 914 (.ref 532),kE P "worth" 924 (.ref 539),kE P "takes" 936 (.ref 546),kE P "shows" 948 (.ref 553),kE P "__static_attributes__" 949 (.ref 554),kE P "__doc__" 950 .none] 2) #[]
def o556:O:=fun P=>.mk (.type "type") none (Data.cls (ClassData.mk "Reach" [.ref 427] [.ref 556,.ref 427,.ref 270,.type "object"] 555 "Reach" true [] [] false none false)) #[some (.ref 498),none,some (.str "Reach" 866),some (.str "Reach" 874),some (.builtin "object.__new__"),some (.bool true)]
def o557:O:=fun P=>.mk (.type "super") none (.fields #[.ref 556,.ref 556,.ref 556]) #[]
def o558:O:=fun P=>.mk (.type "builtin_function_or_method") none (.fields #[.builtin "object.__init_subclass__", .ref 556]) #[]
def o559:O:=fun P=>.mk (.type "tuple") none (.seq #[.ref 270]) #[]
def o560:O:=fun P=>.mk (.type "builtin_function_or_method") none (.fields #[.builtin "type.__prepare__", .type "type"]) #[]
def o561:O:=fun P=>.mk (.type "dict") none (.dict #[kE P "__module__" 960 (.str "treewells.questions" 422),kE P "__qualname__" 962 (.str "Goods" 961),kE P "__firstlineno__" 964 (.int 166 963),kE P "word" 971 (.ref 572),kE P "fits" 981 (.ref 579),kE P "answer" 991 (.ref 586),kE P "paper" 1001 (.ref 593),kE P "worth" 1011 (.ref 600),kE P "answer_size" 1022 (.ref 607),kE P "paper_size" 1033 (.ref 614),kE P "__static_attributes__" 1034 (.ref 615)] 11) #[]
def o562:O:=fun P=>.mk (.type "tuple") none (.seq #[]) #[]
def o563:O:=fun P=>.mk .none none (.fields #[.int 168 0,.int 4 0,.ref 571,.int 171 0,.int 4 0,.ref 578,.int 174 0,.int 4 0,.ref 585,.int 177 0,.int 4 0,.ref 592,.int 180 0,.int 4 0,.ref 599,.int 183 0,.int 4 0,.ref 606,.int 186 0,.int 4 0,.ref 613]) #[]
def o564:O:=fun P=>.mk (.type "code") none (.fields #[.str "Goods" 955,.str "Goods" 956,.str "/claim/cut.py" 957,.int 166 0,.int 0 0,.int 0 0,.int 0 0,.int 0 0,.ref 562,.bool false,.int 181 0,.ref 563,.none,.none,.none,.none,.int 958 0,.int 166 0,.str "/claim/cut.py" 959]) #[]
def o565:O:=fun P=>.mk (.type "frame") none Data.plain #[some (.ref 564),some (.ref 3),some (.ref 561),none,some (.str "treewells.questions" 422),none,some (.ref 0)]
def o566:O:=fun P=>.mk (.type "tuple") none (.seq #[]) #[]
def o567:O:=fun P=>.mk .none none (.fields #[]) #[]
def o568:O:=fun P=>.mk (.type "tuple") none (.seq #[.str "self" 968]) #[]
def o569:O:=fun P=>.mk (.type "tuple") none (.seq #[]) #[]
def o570:O:=fun P=>.mk .none none (.func (.mk "word" "Goods.word" (kA (kM (top 23) 0)) (.stmts (kB (kM (top 23) 0))) (kS (kM (top 23) 0)) 0 [] .none .none .none .none none .none .none 0)) #[]
def o571:O:=fun P=>.mk (.type "code") none (.fields #[.str "word" 965,.str "Goods.word" 966,.str "/claim/cut.py" 967,.int 168 0,.int 1 0,.int 0 0,.int 0 0,.int 3 0,.ref 566,.bool true,.int 181 0,.ref 567,.none,.ref 568,.ref 569,.ref 570,.int 969 0,.int 168 0,.str "/claim/cut.py" 970]) #[]
def o572:O:=fun P=>.mk (.type "function") none (.func (.mk "word" "Goods.word" (kA (kM (top 23) 0)) (.stmts (kB (kM (top 23) 0))) (kS (kM (top 23) 0)) 3 [] .none .none .none (.str "treewells.questions" 422) none (.ref 571) .none 0)) #[]
def o573:O:=fun P=>.mk (.type "tuple") none (.seq #[]) #[]
def o574:O:=fun P=>.mk .none none (.fields #[]) #[]
def o575:O:=fun P=>.mk (.type "tuple") none (.seq #[.str "self" 975,.str "many" 976,.str "roads" 977,.str "asked" 978]) #[]
def o576:O:=fun P=>.mk (.type "tuple") none (.seq #[]) #[]
def o577:O:=fun P=>.mk .none none (.func (.mk "fits" "Goods.fits" (kA (kM (top 23) 1)) (.stmts (kB (kM (top 23) 1))) (kS (kM (top 23) 1)) 0 [] .none .none .none .none none .none .none 0)) #[]
def o578:O:=fun P=>.mk (.type "code") none (.fields #[.str "fits" 972,.str "Goods.fits" 973,.str "/claim/cut.py" 974,.int 171 0,.int 4 0,.int 0 0,.int 0 0,.int 3 0,.ref 573,.bool true,.int 181 0,.ref 574,.none,.ref 575,.ref 576,.ref 577,.int 979 0,.int 171 0,.str "/claim/cut.py" 980]) #[]
def o579:O:=fun P=>.mk (.type "function") none (.func (.mk "fits" "Goods.fits" (kA (kM (top 23) 1)) (.stmts (kB (kM (top 23) 1))) (kS (kM (top 23) 1)) 3 [] .none .none .none (.str "treewells.questions" 422) none (.ref 578) .none 0)) #[]
def o580:O:=fun P=>.mk (.type "tuple") none (.seq #[]) #[]
def o581:O:=fun P=>.mk .none none (.fields #[]) #[]
def o582:O:=fun P=>.mk (.type "tuple") none (.seq #[.str "self" 985,.str "many" 986,.str "roads" 987,.str "asked" 988]) #[]
def o583:O:=fun P=>.mk (.type "tuple") none (.seq #[]) #[]
def o584:O:=fun P=>.mk .none none (.func (.mk "answer" "Goods.answer" (kA (kM (top 23) 2)) (.stmts (kB (kM (top 23) 2))) (kS (kM (top 23) 2)) 0 [] .none .none .none .none none .none .none 0)) #[]
def o585:O:=fun P=>.mk (.type "code") none (.fields #[.str "answer" 982,.str "Goods.answer" 983,.str "/claim/cut.py" 984,.int 174 0,.int 4 0,.int 0 0,.int 0 0,.int 3 0,.ref 580,.bool true,.int 181 0,.ref 581,.none,.ref 582,.ref 583,.ref 584,.int 989 0,.int 174 0,.str "/claim/cut.py" 990]) #[]
def o586:O:=fun P=>.mk (.type "function") none (.func (.mk "answer" "Goods.answer" (kA (kM (top 23) 2)) (.stmts (kB (kM (top 23) 2))) (kS (kM (top 23) 2)) 3 [] .none .none .none (.str "treewells.questions" 422) none (.ref 585) .none 0)) #[]
def o587:O:=fun P=>.mk (.type "tuple") none (.seq #[]) #[]
def o588:O:=fun P=>.mk .none none (.fields #[]) #[]
def o589:O:=fun P=>.mk (.type "tuple") none (.seq #[.str "self" 995,.str "many" 996,.str "roads" 997,.str "asked" 998]) #[]
def o590:O:=fun P=>.mk (.type "tuple") none (.seq #[]) #[]
def o591:O:=fun P=>.mk .none none (.func (.mk "paper" "Goods.paper" (kA (kM (top 23) 3)) (.stmts (kB (kM (top 23) 3))) (kS (kM (top 23) 3)) 0 [] .none .none .none .none none .none .none 0)) #[]
def o592:O:=fun P=>.mk (.type "code") none (.fields #[.str "paper" 992,.str "Goods.paper" 993,.str "/claim/cut.py" 994,.int 177 0,.int 4 0,.int 0 0,.int 0 0,.int 3 0,.ref 587,.bool true,.int 181 0,.ref 588,.none,.ref 589,.ref 590,.ref 591,.int 999 0,.int 177 0,.str "/claim/cut.py" 1000]) #[]
def o593:O:=fun P=>.mk (.type "function") none (.func (.mk "paper" "Goods.paper" (kA (kM (top 23) 3)) (.stmts (kB (kM (top 23) 3))) (kS (kM (top 23) 3)) 3 [] .none .none .none (.str "treewells.questions" 422) none (.ref 592) .none 0)) #[]
def o594:O:=fun P=>.mk (.type "tuple") none (.seq #[]) #[]
def o595:O:=fun P=>.mk .none none (.fields #[]) #[]
def o596:O:=fun P=>.mk (.type "tuple") none (.seq #[.str "self" 1005,.str "many" 1006,.str "roads" 1007,.str "asked" 1008]) #[]
def o597:O:=fun P=>.mk (.type "tuple") none (.seq #[]) #[]
def o598:O:=fun P=>.mk .none none (.func (.mk "worth" "Goods.worth" (kA (kM (top 23) 4)) (.stmts (kB (kM (top 23) 4))) (kS (kM (top 23) 4)) 0 [] .none .none .none .none none .none .none 0)) #[]
def o599:O:=fun P=>.mk (.type "code") none (.fields #[.str "worth" 1002,.str "Goods.worth" 1003,.str "/claim/cut.py" 1004,.int 180 0,.int 4 0,.int 0 0,.int 0 0,.int 3 0,.ref 594,.bool true,.int 181 0,.ref 595,.none,.ref 596,.ref 597,.ref 598,.int 1009 0,.int 180 0,.str "/claim/cut.py" 1010]) #[]
def o600:O:=fun P=>.mk (.type "function") none (.func (.mk "worth" "Goods.worth" (kA (kM (top 23) 4)) (.stmts (kB (kM (top 23) 4))) (kS (kM (top 23) 4)) 3 [] .none .none .none (.str "treewells.questions" 422) none (.ref 599) .none 0)) #[]
def o601:O:=fun P=>.mk (.type "tuple") none (.seq #[]) #[]
def o602:O:=fun P=>.mk .none none (.fields #[]) #[]
def o603:O:=fun P=>.mk (.type "tuple") none (.seq #[.str "self" 1015,.str "many" 1016,.str "roads" 1017,.str "asked" 1018,.str "rows" 1019]) #[]
def o604:O:=fun P=>.mk (.type "tuple") none (.seq #[]) #[]
def o605:O:=fun P=>.mk .none none (.func (.mk "answer_size" "Goods.answer_size" (kA (kM (top 23) 5)) (.stmts (kB (kM (top 23) 5))) (kS (kM (top 23) 5)) 0 [] .none .none .none .none none .none .none 0)) #[]
def o606:O:=fun P=>.mk (.type "code") none (.fields #[.str "answer_size" 1012,.str "Goods.answer_size" 1013,.str "/claim/cut.py" 1014,.int 183 0,.int 5 0,.int 0 0,.int 0 0,.int 3 0,.ref 601,.bool true,.int 181 0,.ref 602,.none,.ref 603,.ref 604,.ref 605,.int 1020 0,.int 183 0,.str "/claim/cut.py" 1021]) #[]
def o607:O:=fun P=>.mk (.type "function") none (.func (.mk "answer_size" "Goods.answer_size" (kA (kM (top 23) 5)) (.stmts (kB (kM (top 23) 5))) (kS (kM (top 23) 5)) 3 [] .none .none .none (.str "treewells.questions" 422) none (.ref 606) .none 0)) #[]
def o608:O:=fun P=>.mk (.type "tuple") none (.seq #[]) #[]
def o609:O:=fun P=>.mk .none none (.fields #[]) #[]
def o610:O:=fun P=>.mk (.type "tuple") none (.seq #[.str "self" 1026,.str "many" 1027,.str "roads" 1028,.str "asked" 1029,.str "rows" 1030]) #[]
def o611:O:=fun P=>.mk (.type "tuple") none (.seq #[]) #[]
def o612:O:=fun P=>.mk .none none (.func (.mk "paper_size" "Goods.paper_size" (kA (kM (top 23) 6)) (.stmts (kB (kM (top 23) 6))) (kS (kM (top 23) 6)) 0 [] .none .none .none .none none .none .none 0)) #[]
def o613:O:=fun P=>.mk (.type "code") none (.fields #[.str "paper_size" 1023,.str "Goods.paper_size" 1024,.str "/claim/cut.py" 1025,.int 186 0,.int 5 0,.int 0 0,.int 0 0,.int 3 0,.ref 608,.bool true,.int 181 0,.ref 609,.none,.ref 610,.ref 611,.ref 612,.int 1031 0,.int 186 0,.str "/claim/cut.py" 1032]) #[]
def o614:O:=fun P=>.mk (.type "function") none (.func (.mk "paper_size" "Goods.paper_size" (kA (kM (top 23) 6)) (.stmts (kB (kM (top 23) 6))) (kS (kM (top 23) 6)) 3 [] .none .none .none (.str "treewells.questions" 422) none (.ref 613) .none 0)) #[]
def o615:O:=fun P=>.mk (.type "tuple") none (.seq #[]) #[]
def o616:O:=fun P=>.mk (.type "dict") none (.dict #[kE P "__module__" 960 (.str "treewells.questions" 422),kE P "__firstlineno__" 964 (.int 166 963),kE P "word" 971 (.ref 572),kE P "fits" 981 (.ref 579),kE P "answer" 991 (.ref 586),kE P "paper" 1001 (.ref 593),kE P "worth" 1011 (.ref 600),kE P "answer_size" 1022 (.ref 607),kE P "paper_size" 1033 (.ref 614),kE P "__static_attributes__" 1034 (.ref 615),kE P "__doc__" 1035 .none] 2) #[]
def o617:O:=fun P=>.mk (.type "type") none (Data.cls (ClassData.mk "Goods" [.ref 270] [.ref 617,.ref 270,.type "object"] 616 "Goods" true [] [] false none false)) #[some (.ref 559),none,some (.str "Goods" 953),some (.str "Goods" 961),some (.builtin "object.__new__"),some (.bool true)]
def o618:O:=fun P=>.mk (.type "super") none (.fields #[.ref 617,.ref 617,.ref 617]) #[]
def o619:O:=fun P=>.mk (.type "builtin_function_or_method") none (.fields #[.builtin "object.__init_subclass__", .ref 617]) #[]
def o620:O:=fun P=>.mk (.type "tuple") none (.seq #[.ref 270]) #[]
def o621:O:=fun P=>.mk (.type "builtin_function_or_method") none (.fields #[.builtin "type.__prepare__", .type "type"]) #[]
def o622:O:=fun P=>.mk (.type "dict") none (.dict #[kE P "__module__" 1047 (.str "treewells.gatherings" 1038),kE P "__qualname__" 1049 (.str "Yards" 1048),kE P "__firstlineno__" 1051 (.int 189 1050),kE P "are_yards" 1061 (.ref 633),kE P "are_apart" 1070 (.ref 640),kE P "__static_attributes__" 1071 (.ref 641)] 6) #[]
def o623:O:=fun P=>.mk (.type "tuple") none (.seq #[]) #[]
def o624:O:=fun P=>.mk .none none (.fields #[.int 191 0,.int 4 0,.ref 632,.int 194 0,.int 4 0,.ref 639]) #[]
def o625:O:=fun P=>.mk (.type "code") none (.fields #[.str "Yards" 1042,.str "Yards" 1043,.str "/claim/cut.py" 1044,.int 189 0,.int 0 0,.int 0 0,.int 0 0,.int 0 0,.ref 623,.bool false,.int 181 0,.ref 624,.none,.none,.none,.none,.int 1045 0,.int 189 0,.str "/claim/cut.py" 1046]) #[]
def o626:O:=fun P=>.mk (.type "frame") none Data.plain #[some (.ref 625),some (.ref 3),some (.ref 622),none,some (.str "treewells.gatherings" 1038),none,some (.ref 0)]
def o627:O:=fun P=>.mk (.type "tuple") none (.seq #[]) #[]
def o628:O:=fun P=>.mk .none none (.fields #[]) #[]
def o629:O:=fun P=>.mk (.type "tuple") none (.seq #[.str "self" 1055,.str "many" 1056,.str "roads" 1057,.str "rows" 1058]) #[]
def o630:O:=fun P=>.mk (.type "tuple") none (.seq #[]) #[]
def o631:O:=fun P=>.mk .none none (.func (.mk "are_yards" "Yards.are_yards" (kA (kM (top 25) 0)) (.stmts (kB (kM (top 25) 0))) (kS (kM (top 25) 0)) 0 [] .none .none .none .none none .none .none 0)) #[]
def o632:O:=fun P=>.mk (.type "code") none (.fields #[.str "are_yards" 1052,.str "Yards.are_yards" 1053,.str "/claim/cut.py" 1054,.int 191 0,.int 4 0,.int 0 0,.int 0 0,.int 3 0,.ref 627,.bool true,.int 181 0,.ref 628,.none,.ref 629,.ref 630,.ref 631,.int 1059 0,.int 191 0,.str "/claim/cut.py" 1060]) #[]
def o633:O:=fun P=>.mk (.type "function") none (.func (.mk "are_yards" "Yards.are_yards" (kA (kM (top 25) 0)) (.stmts (kB (kM (top 25) 0))) (kS (kM (top 25) 0)) 3 [] .none .none .none (.str "treewells.gatherings" 1038) none (.ref 632) .none 0)) #[]
def o634:O:=fun P=>.mk (.type "tuple") none (.seq #[]) #[]
def o635:O:=fun P=>.mk .none none (.fields #[]) #[]
def o636:O:=fun P=>.mk (.type "tuple") none (.seq #[.str "self" 1065,.str "yards" 1066,.str "rows" 1067]) #[]
def o637:O:=fun P=>.mk (.type "tuple") none (.seq #[]) #[]
def o638:O:=fun P=>.mk .none none (.func (.mk "are_apart" "Yards.are_apart" (kA (kM (top 25) 1)) (.stmts (kB (kM (top 25) 1))) (kS (kM (top 25) 1)) 0 [] .none .none .none .none none .none .none 0)) #[]
def o639:O:=fun P=>.mk (.type "code") none (.fields #[.str "are_apart" 1062,.str "Yards.are_apart" 1063,.str "/claim/cut.py" 1064,.int 194 0,.int 3 0,.int 0 0,.int 0 0,.int 3 0,.ref 634,.bool true,.int 181 0,.ref 635,.none,.ref 636,.ref 637,.ref 638,.int 1068 0,.int 194 0,.str "/claim/cut.py" 1069]) #[]
def o640:O:=fun P=>.mk (.type "function") none (.func (.mk "are_apart" "Yards.are_apart" (kA (kM (top 25) 1)) (.stmts (kB (kM (top 25) 1))) (kS (kM (top 25) 1)) 3 [] .none .none .none (.str "treewells.gatherings" 1038) none (.ref 639) .none 0)) #[]
def o641:O:=fun P=>.mk (.type "tuple") none (.seq #[]) #[]
def o642:O:=fun P=>.mk (.type "dict") none (.dict #[kE P "__module__" 1047 (.str "treewells.gatherings" 1038),kE P "__firstlineno__" 1051 (.int 189 1050),kE P "are_yards" 1061 (.ref 633),kE P "are_apart" 1070 (.ref 640),kE P "__static_attributes__" 1071 (.ref 641),kE P "__doc__" 1072 .none] 2) #[]
def o643:O:=fun P=>.mk (.type "type") none (Data.cls (ClassData.mk "Yards" [.ref 270] [.ref 643,.ref 270,.type "object"] 642 "Yards" true [] [.ref 704,.ref 765,.ref 840] false none false)) #[some (.ref 620),none,some (.str "Yards" 1040),some (.str "Yards" 1048),some (.builtin "object.__new__"),some (.bool true)]
def o644:O:=fun P=>.mk (.type "super") none (.fields #[.ref 643,.ref 643,.ref 643]) #[]
def o645:O:=fun P=>.mk (.type "builtin_function_or_method") none (.fields #[.builtin "object.__init_subclass__", .ref 643]) #[]
def o646:O:=fun P=>.mk (.type "tuple") none (.seq #[.ref 643]) #[]
def o647:O:=fun P=>.mk (.type "builtin_function_or_method") none (.fields #[.builtin "type.__prepare__", .type "type"]) #[]
def o648:O:=fun P=>.mk (.type "dict") none (.dict #[kE P "__module__" 1082 (.str "treewells.gatherings" 1038),kE P "__qualname__" 1084 (.str "Spots" 1083),kE P "__firstlineno__" 1086 (.int 196 1085),kE P "word" 1093 (.ref 659),kE P "fits" 1103 (.ref 666),kE P "answer" 1113 (.ref 673),kE P "paper" 1123 (.ref 680),kE P "worth" 1133 (.ref 687),kE P "answer_size" 1144 (.ref 694),kE P "paper_size" 1155 (.ref 701),kE P "__static_attributes__" 1156 (.ref 702)] 11) #[]
def o649:O:=fun P=>.mk (.type "tuple") none (.seq #[]) #[]
def o650:O:=fun P=>.mk .none none (.fields #[.int 198 0,.int 4 0,.ref 658,.int 201 0,.int 4 0,.ref 665,.int 204 0,.int 4 0,.ref 672,.int 207 0,.int 4 0,.ref 679,.int 210 0,.int 4 0,.ref 686,.int 213 0,.int 4 0,.ref 693,.int 216 0,.int 4 0,.ref 700]) #[]
def o651:O:=fun P=>.mk (.type "code") none (.fields #[.str "Spots" 1077,.str "Spots" 1078,.str "/claim/cut.py" 1079,.int 196 0,.int 0 0,.int 0 0,.int 0 0,.int 0 0,.ref 649,.bool false,.int 181 0,.ref 650,.none,.none,.none,.none,.int 1080 0,.int 196 0,.str "/claim/cut.py" 1081]) #[]
def o652:O:=fun P=>.mk (.type "frame") none Data.plain #[some (.ref 651),some (.ref 3),some (.ref 648),none,some (.str "treewells.gatherings" 1038),none,some (.ref 0)]
def o653:O:=fun P=>.mk (.type "tuple") none (.seq #[]) #[]
def o654:O:=fun P=>.mk .none none (.fields #[]) #[]
def o655:O:=fun P=>.mk (.type "tuple") none (.seq #[.str "self" 1090]) #[]
def o656:O:=fun P=>.mk (.type "tuple") none (.seq #[]) #[]
def o657:O:=fun P=>.mk .none none (.func (.mk "word" "Spots.word" (kA (kM (top 26) 0)) (.stmts (kB (kM (top 26) 0))) (kS (kM (top 26) 0)) 0 [] .none .none .none .none none .none .none 0)) #[]
def o658:O:=fun P=>.mk (.type "code") none (.fields #[.str "word" 1087,.str "Spots.word" 1088,.str "/claim/cut.py" 1089,.int 198 0,.int 1 0,.int 0 0,.int 0 0,.int 3 0,.ref 653,.bool true,.int 181 0,.ref 654,.none,.ref 655,.ref 656,.ref 657,.int 1091 0,.int 198 0,.str "/claim/cut.py" 1092]) #[]
def o659:O:=fun P=>.mk (.type "function") none (.func (.mk "word" "Spots.word" (kA (kM (top 26) 0)) (.stmts (kB (kM (top 26) 0))) (kS (kM (top 26) 0)) 3 [] .none .none .none (.str "treewells.gatherings" 1038) none (.ref 658) .none 0)) #[]
def o660:O:=fun P=>.mk (.type "tuple") none (.seq #[]) #[]
def o661:O:=fun P=>.mk .none none (.fields #[]) #[]
def o662:O:=fun P=>.mk (.type "tuple") none (.seq #[.str "self" 1097,.str "many" 1098,.str "roads" 1099,.str "asked" 1100]) #[]
def o663:O:=fun P=>.mk (.type "tuple") none (.seq #[]) #[]
def o664:O:=fun P=>.mk .none none (.func (.mk "fits" "Spots.fits" (kA (kM (top 26) 1)) (.stmts (kB (kM (top 26) 1))) (kS (kM (top 26) 1)) 0 [] .none .none .none .none none .none .none 0)) #[]
def o665:O:=fun P=>.mk (.type "code") none (.fields #[.str "fits" 1094,.str "Spots.fits" 1095,.str "/claim/cut.py" 1096,.int 201 0,.int 4 0,.int 0 0,.int 0 0,.int 3 0,.ref 660,.bool true,.int 181 0,.ref 661,.none,.ref 662,.ref 663,.ref 664,.int 1101 0,.int 201 0,.str "/claim/cut.py" 1102]) #[]
def o666:O:=fun P=>.mk (.type "function") none (.func (.mk "fits" "Spots.fits" (kA (kM (top 26) 1)) (.stmts (kB (kM (top 26) 1))) (kS (kM (top 26) 1)) 3 [] .none .none .none (.str "treewells.gatherings" 1038) none (.ref 665) .none 0)) #[]
def o667:O:=fun P=>.mk (.type "tuple") none (.seq #[]) #[]
def o668:O:=fun P=>.mk .none none (.fields #[]) #[]
def o669:O:=fun P=>.mk (.type "tuple") none (.seq #[.str "self" 1107,.str "many" 1108,.str "roads" 1109,.str "asked" 1110]) #[]
def o670:O:=fun P=>.mk (.type "tuple") none (.seq #[]) #[]
def o671:O:=fun P=>.mk .none none (.func (.mk "answer" "Spots.answer" (kA (kM (top 26) 2)) (.stmts (kB (kM (top 26) 2))) (kS (kM (top 26) 2)) 0 [] .none .none .none .none none .none .none 0)) #[]
def o672:O:=fun P=>.mk (.type "code") none (.fields #[.str "answer" 1104,.str "Spots.answer" 1105,.str "/claim/cut.py" 1106,.int 204 0,.int 4 0,.int 0 0,.int 0 0,.int 3 0,.ref 667,.bool true,.int 181 0,.ref 668,.none,.ref 669,.ref 670,.ref 671,.int 1111 0,.int 204 0,.str "/claim/cut.py" 1112]) #[]
def o673:O:=fun P=>.mk (.type "function") none (.func (.mk "answer" "Spots.answer" (kA (kM (top 26) 2)) (.stmts (kB (kM (top 26) 2))) (kS (kM (top 26) 2)) 3 [] .none .none .none (.str "treewells.gatherings" 1038) none (.ref 672) .none 0)) #[]
def o674:O:=fun P=>.mk (.type "tuple") none (.seq #[]) #[]
def o675:O:=fun P=>.mk .none none (.fields #[]) #[]
def o676:O:=fun P=>.mk (.type "tuple") none (.seq #[.str "self" 1117,.str "many" 1118,.str "roads" 1119,.str "asked" 1120]) #[]
def o677:O:=fun P=>.mk (.type "tuple") none (.seq #[]) #[]
def o678:O:=fun P=>.mk .none none (.func (.mk "paper" "Spots.paper" (kA (kM (top 26) 3)) (.stmts (kB (kM (top 26) 3))) (kS (kM (top 26) 3)) 0 [] .none .none .none .none none .none .none 0)) #[]
def o679:O:=fun P=>.mk (.type "code") none (.fields #[.str "paper" 1114,.str "Spots.paper" 1115,.str "/claim/cut.py" 1116,.int 207 0,.int 4 0,.int 0 0,.int 0 0,.int 3 0,.ref 674,.bool true,.int 181 0,.ref 675,.none,.ref 676,.ref 677,.ref 678,.int 1121 0,.int 207 0,.str "/claim/cut.py" 1122]) #[]
def o680:O:=fun P=>.mk (.type "function") none (.func (.mk "paper" "Spots.paper" (kA (kM (top 26) 3)) (.stmts (kB (kM (top 26) 3))) (kS (kM (top 26) 3)) 3 [] .none .none .none (.str "treewells.gatherings" 1038) none (.ref 679) .none 0)) #[]
def o681:O:=fun P=>.mk (.type "tuple") none (.seq #[]) #[]
def o682:O:=fun P=>.mk .none none (.fields #[]) #[]
def o683:O:=fun P=>.mk (.type "tuple") none (.seq #[.str "self" 1127,.str "many" 1128,.str "roads" 1129,.str "asked" 1130]) #[]
def o684:O:=fun P=>.mk (.type "tuple") none (.seq #[]) #[]
def o685:O:=fun P=>.mk .none none (.func (.mk "worth" "Spots.worth" (kA (kM (top 26) 4)) (.stmts (kB (kM (top 26) 4))) (kS (kM (top 26) 4)) 0 [] .none .none .none .none none .none .none 0)) #[]
def o686:O:=fun P=>.mk (.type "code") none (.fields #[.str "worth" 1124,.str "Spots.worth" 1125,.str "/claim/cut.py" 1126,.int 210 0,.int 4 0,.int 0 0,.int 0 0,.int 3 0,.ref 681,.bool true,.int 181 0,.ref 682,.none,.ref 683,.ref 684,.ref 685,.int 1131 0,.int 210 0,.str "/claim/cut.py" 1132]) #[]
def o687:O:=fun P=>.mk (.type "function") none (.func (.mk "worth" "Spots.worth" (kA (kM (top 26) 4)) (.stmts (kB (kM (top 26) 4))) (kS (kM (top 26) 4)) 3 [] .none .none .none (.str "treewells.gatherings" 1038) none (.ref 686) .none 0)) #[]
def o688:O:=fun P=>.mk (.type "tuple") none (.seq #[]) #[]
def o689:O:=fun P=>.mk .none none (.fields #[]) #[]
def o690:O:=fun P=>.mk (.type "tuple") none (.seq #[.str "self" 1137,.str "many" 1138,.str "roads" 1139,.str "asked" 1140,.str "rows" 1141]) #[]
def o691:O:=fun P=>.mk (.type "tuple") none (.seq #[]) #[]
def o692:O:=fun P=>.mk .none none (.func (.mk "answer_size" "Spots.answer_size" (kA (kM (top 26) 5)) (.stmts (kB (kM (top 26) 5))) (kS (kM (top 26) 5)) 0 [] .none .none .none .none none .none .none 0)) #[]
def o693:O:=fun P=>.mk (.type "code") none (.fields #[.str "answer_size" 1134,.str "Spots.answer_size" 1135,.str "/claim/cut.py" 1136,.int 213 0,.int 5 0,.int 0 0,.int 0 0,.int 3 0,.ref 688,.bool true,.int 181 0,.ref 689,.none,.ref 690,.ref 691,.ref 692,.int 1142 0,.int 213 0,.str "/claim/cut.py" 1143]) #[]
def o694:O:=fun P=>.mk (.type "function") none (.func (.mk "answer_size" "Spots.answer_size" (kA (kM (top 26) 5)) (.stmts (kB (kM (top 26) 5))) (kS (kM (top 26) 5)) 3 [] .none .none .none (.str "treewells.gatherings" 1038) none (.ref 693) .none 0)) #[]
def o695:O:=fun P=>.mk (.type "tuple") none (.seq #[]) #[]
def o696:O:=fun P=>.mk .none none (.fields #[]) #[]
def o697:O:=fun P=>.mk (.type "tuple") none (.seq #[.str "self" 1148,.str "many" 1149,.str "roads" 1150,.str "asked" 1151,.str "rows" 1152]) #[]
def o698:O:=fun P=>.mk (.type "tuple") none (.seq #[]) #[]
def o699:O:=fun P=>.mk .none none (.func (.mk "paper_size" "Spots.paper_size" (kA (kM (top 26) 6)) (.stmts (kB (kM (top 26) 6))) (kS (kM (top 26) 6)) 0 [] .none .none .none .none none .none .none 0)) #[]
def o700:O:=fun P=>.mk (.type "code") none (.fields #[.str "paper_size" 1145,.str "Spots.paper_size" 1146,.str "/claim/cut.py" 1147,.int 216 0,.int 5 0,.int 0 0,.int 0 0,.int 3 0,.ref 695,.bool true,.int 181 0,.ref 696,.none,.ref 697,.ref 698,.ref 699,.int 1153 0,.int 216 0,.str "/claim/cut.py" 1154]) #[]
def o701:O:=fun P=>.mk (.type "function") none (.func (.mk "paper_size" "Spots.paper_size" (kA (kM (top 26) 6)) (.stmts (kB (kM (top 26) 6))) (kS (kM (top 26) 6)) 3 [] .none .none .none (.str "treewells.gatherings" 1038) none (.ref 700) .none 0)) #[]
def o702:O:=fun P=>.mk (.type "tuple") none (.seq #[]) #[]
def o703:O:=fun P=>.mk (.type "dict") none (.dict #[kE P "__module__" 1082 (.str "treewells.gatherings" 1038),kE P "__firstlineno__" 1086 (.int 196 1085),kE P "word" 1093 (.ref 659),kE P "fits" 1103 (.ref 666),kE P "answer" 1113 (.ref 673),kE P "paper" 1123 (.ref 680),kE P "worth" 1133 (.ref 687),kE P "answer_size" 1144 (.ref 694),kE P "paper_size" 1155 (.ref 701),kE P "__static_attributes__" 1156 (.ref 702),kE P "__doc__" 1157 .none] 2) #[]
def o704:O:=fun P=>.mk (.type "type") none (Data.cls (ClassData.mk "Spots" [.ref 643] [.ref 704,.ref 643,.ref 270,.type "object"] 703 "Spots" true [] [] false none false)) #[some (.ref 646),none,some (.str "Spots" 1075),some (.str "Spots" 1083),some (.builtin "object.__new__"),some (.bool true)]
def o705:O:=fun P=>.mk (.type "super") none (.fields #[.ref 704,.ref 704,.ref 704]) #[]
def o706:O:=fun P=>.mk (.type "builtin_function_or_method") none (.fields #[.builtin "object.__init_subclass__", .ref 704]) #[]
def o707:O:=fun P=>.mk (.type "tuple") none (.seq #[.ref 643]) #[]
def o708:O:=fun P=>.mk (.type "builtin_function_or_method") none (.fields #[.builtin "type.__prepare__", .type "type"]) #[]
def o709:O:=fun P=>.mk (.type "dict") none (.dict #[kE P "__module__" 1167 (.str "treewells.gatherings" 1038),kE P "__qualname__" 1169 (.str "Colours" 1168),kE P "__firstlineno__" 1171 (.int 218 1170),kE P "word" 1178 (.ref 720),kE P "fits" 1188 (.ref 727),kE P "answer" 1198 (.ref 734),kE P "paper" 1208 (.ref 741),kE P "worth" 1218 (.ref 748),kE P "answer_size" 1229 (.ref 755),kE P "paper_size" 1240 (.ref 762),kE P "__static_attributes__" 1241 (.ref 763)] 11) #[]
def o710:O:=fun P=>.mk (.type "tuple") none (.seq #[]) #[]
def o711:O:=fun P=>.mk .none none (.fields #[.int 220 0,.int 4 0,.ref 719,.int 223 0,.int 4 0,.ref 726,.int 226 0,.int 4 0,.ref 733,.int 229 0,.int 4 0,.ref 740,.int 232 0,.int 4 0,.ref 747,.int 235 0,.int 4 0,.ref 754,.int 238 0,.int 4 0,.ref 761]) #[]
def o712:O:=fun P=>.mk (.type "code") none (.fields #[.str "Colours" 1162,.str "Colours" 1163,.str "/claim/cut.py" 1164,.int 218 0,.int 0 0,.int 0 0,.int 0 0,.int 0 0,.ref 710,.bool false,.int 181 0,.ref 711,.none,.none,.none,.none,.int 1165 0,.int 218 0,.str "/claim/cut.py" 1166]) #[]
def o713:O:=fun P=>.mk (.type "frame") none Data.plain #[some (.ref 712),some (.ref 3),some (.ref 709),none,some (.str "treewells.gatherings" 1038),none,some (.ref 0)]
def o714:O:=fun P=>.mk (.type "tuple") none (.seq #[]) #[]
def o715:O:=fun P=>.mk .none none (.fields #[]) #[]
def o716:O:=fun P=>.mk (.type "tuple") none (.seq #[.str "self" 1175]) #[]
def o717:O:=fun P=>.mk (.type "tuple") none (.seq #[]) #[]
def o718:O:=fun P=>.mk .none none (.func (.mk "word" "Colours.word" (kA (kM (top 27) 0)) (.stmts (kB (kM (top 27) 0))) (kS (kM (top 27) 0)) 0 [] .none .none .none .none none .none .none 0)) #[]
def o719:O:=fun P=>.mk (.type "code") none (.fields #[.str "word" 1172,.str "Colours.word" 1173,.str "/claim/cut.py" 1174,.int 220 0,.int 1 0,.int 0 0,.int 0 0,.int 3 0,.ref 714,.bool true,.int 181 0,.ref 715,.none,.ref 716,.ref 717,.ref 718,.int 1176 0,.int 220 0,.str "/claim/cut.py" 1177]) #[]
def o720:O:=fun P=>.mk (.type "function") none (.func (.mk "word" "Colours.word" (kA (kM (top 27) 0)) (.stmts (kB (kM (top 27) 0))) (kS (kM (top 27) 0)) 3 [] .none .none .none (.str "treewells.gatherings" 1038) none (.ref 719) .none 0)) #[]
def o721:O:=fun P=>.mk (.type "tuple") none (.seq #[]) #[]
def o722:O:=fun P=>.mk .none none (.fields #[]) #[]
def o723:O:=fun P=>.mk (.type "tuple") none (.seq #[.str "self" 1182,.str "many" 1183,.str "roads" 1184,.str "asked" 1185]) #[]
def o724:O:=fun P=>.mk (.type "tuple") none (.seq #[]) #[]
def o725:O:=fun P=>.mk .none none (.func (.mk "fits" "Colours.fits" (kA (kM (top 27) 1)) (.stmts (kB (kM (top 27) 1))) (kS (kM (top 27) 1)) 0 [] .none .none .none .none none .none .none 0)) #[]
def o726:O:=fun P=>.mk (.type "code") none (.fields #[.str "fits" 1179,.str "Colours.fits" 1180,.str "/claim/cut.py" 1181,.int 223 0,.int 4 0,.int 0 0,.int 0 0,.int 3 0,.ref 721,.bool true,.int 181 0,.ref 722,.none,.ref 723,.ref 724,.ref 725,.int 1186 0,.int 223 0,.str "/claim/cut.py" 1187]) #[]
def o727:O:=fun P=>.mk (.type "function") none (.func (.mk "fits" "Colours.fits" (kA (kM (top 27) 1)) (.stmts (kB (kM (top 27) 1))) (kS (kM (top 27) 1)) 3 [] .none .none .none (.str "treewells.gatherings" 1038) none (.ref 726) .none 0)) #[]
def o728:O:=fun P=>.mk (.type "tuple") none (.seq #[]) #[]
def o729:O:=fun P=>.mk .none none (.fields #[]) #[]
def o730:O:=fun P=>.mk (.type "tuple") none (.seq #[.str "self" 1192,.str "many" 1193,.str "roads" 1194,.str "asked" 1195]) #[]
def o731:O:=fun P=>.mk (.type "tuple") none (.seq #[]) #[]
def o732:O:=fun P=>.mk .none none (.func (.mk "answer" "Colours.answer" (kA (kM (top 27) 2)) (.stmts (kB (kM (top 27) 2))) (kS (kM (top 27) 2)) 0 [] .none .none .none .none none .none .none 0)) #[]
def o733:O:=fun P=>.mk (.type "code") none (.fields #[.str "answer" 1189,.str "Colours.answer" 1190,.str "/claim/cut.py" 1191,.int 226 0,.int 4 0,.int 0 0,.int 0 0,.int 3 0,.ref 728,.bool true,.int 181 0,.ref 729,.none,.ref 730,.ref 731,.ref 732,.int 1196 0,.int 226 0,.str "/claim/cut.py" 1197]) #[]
def o734:O:=fun P=>.mk (.type "function") none (.func (.mk "answer" "Colours.answer" (kA (kM (top 27) 2)) (.stmts (kB (kM (top 27) 2))) (kS (kM (top 27) 2)) 3 [] .none .none .none (.str "treewells.gatherings" 1038) none (.ref 733) .none 0)) #[]
def o735:O:=fun P=>.mk (.type "tuple") none (.seq #[]) #[]
def o736:O:=fun P=>.mk .none none (.fields #[]) #[]
def o737:O:=fun P=>.mk (.type "tuple") none (.seq #[.str "self" 1202,.str "many" 1203,.str "roads" 1204,.str "asked" 1205]) #[]
def o738:O:=fun P=>.mk (.type "tuple") none (.seq #[]) #[]
def o739:O:=fun P=>.mk .none none (.func (.mk "paper" "Colours.paper" (kA (kM (top 27) 3)) (.stmts (kB (kM (top 27) 3))) (kS (kM (top 27) 3)) 0 [] .none .none .none .none none .none .none 0)) #[]
def o740:O:=fun P=>.mk (.type "code") none (.fields #[.str "paper" 1199,.str "Colours.paper" 1200,.str "/claim/cut.py" 1201,.int 229 0,.int 4 0,.int 0 0,.int 0 0,.int 3 0,.ref 735,.bool true,.int 181 0,.ref 736,.none,.ref 737,.ref 738,.ref 739,.int 1206 0,.int 229 0,.str "/claim/cut.py" 1207]) #[]
def o741:O:=fun P=>.mk (.type "function") none (.func (.mk "paper" "Colours.paper" (kA (kM (top 27) 3)) (.stmts (kB (kM (top 27) 3))) (kS (kM (top 27) 3)) 3 [] .none .none .none (.str "treewells.gatherings" 1038) none (.ref 740) .none 0)) #[]
def o742:O:=fun P=>.mk (.type "tuple") none (.seq #[]) #[]
def o743:O:=fun P=>.mk .none none (.fields #[]) #[]
def o744:O:=fun P=>.mk (.type "tuple") none (.seq #[.str "self" 1212,.str "many" 1213,.str "roads" 1214,.str "asked" 1215]) #[]
def o745:O:=fun P=>.mk (.type "tuple") none (.seq #[]) #[]
def o746:O:=fun P=>.mk .none none (.func (.mk "worth" "Colours.worth" (kA (kM (top 27) 4)) (.stmts (kB (kM (top 27) 4))) (kS (kM (top 27) 4)) 0 [] .none .none .none .none none .none .none 0)) #[]
def o747:O:=fun P=>.mk (.type "code") none (.fields #[.str "worth" 1209,.str "Colours.worth" 1210,.str "/claim/cut.py" 1211,.int 232 0,.int 4 0,.int 0 0,.int 0 0,.int 3 0,.ref 742,.bool true,.int 181 0,.ref 743,.none,.ref 744,.ref 745,.ref 746,.int 1216 0,.int 232 0,.str "/claim/cut.py" 1217]) #[]
def o748:O:=fun P=>.mk (.type "function") none (.func (.mk "worth" "Colours.worth" (kA (kM (top 27) 4)) (.stmts (kB (kM (top 27) 4))) (kS (kM (top 27) 4)) 3 [] .none .none .none (.str "treewells.gatherings" 1038) none (.ref 747) .none 0)) #[]
def o749:O:=fun P=>.mk (.type "tuple") none (.seq #[]) #[]
def o750:O:=fun P=>.mk .none none (.fields #[]) #[]
def o751:O:=fun P=>.mk (.type "tuple") none (.seq #[.str "self" 1222,.str "many" 1223,.str "roads" 1224,.str "asked" 1225,.str "rows" 1226]) #[]
def o752:O:=fun P=>.mk (.type "tuple") none (.seq #[]) #[]
def o753:O:=fun P=>.mk .none none (.func (.mk "answer_size" "Colours.answer_size" (kA (kM (top 27) 5)) (.stmts (kB (kM (top 27) 5))) (kS (kM (top 27) 5)) 0 [] .none .none .none .none none .none .none 0)) #[]
def o754:O:=fun P=>.mk (.type "code") none (.fields #[.str "answer_size" 1219,.str "Colours.answer_size" 1220,.str "/claim/cut.py" 1221,.int 235 0,.int 5 0,.int 0 0,.int 0 0,.int 3 0,.ref 749,.bool true,.int 181 0,.ref 750,.none,.ref 751,.ref 752,.ref 753,.int 1227 0,.int 235 0,.str "/claim/cut.py" 1228]) #[]
def o755:O:=fun P=>.mk (.type "function") none (.func (.mk "answer_size" "Colours.answer_size" (kA (kM (top 27) 5)) (.stmts (kB (kM (top 27) 5))) (kS (kM (top 27) 5)) 3 [] .none .none .none (.str "treewells.gatherings" 1038) none (.ref 754) .none 0)) #[]
def o756:O:=fun P=>.mk (.type "tuple") none (.seq #[]) #[]
def o757:O:=fun P=>.mk .none none (.fields #[]) #[]
def o758:O:=fun P=>.mk (.type "tuple") none (.seq #[.str "self" 1233,.str "many" 1234,.str "roads" 1235,.str "asked" 1236,.str "rows" 1237]) #[]
def o759:O:=fun P=>.mk (.type "tuple") none (.seq #[]) #[]
def o760:O:=fun P=>.mk .none none (.func (.mk "paper_size" "Colours.paper_size" (kA (kM (top 27) 6)) (.stmts (kB (kM (top 27) 6))) (kS (kM (top 27) 6)) 0 [] .none .none .none .none none .none .none 0)) #[]
def o761:O:=fun P=>.mk (.type "code") none (.fields #[.str "paper_size" 1230,.str "Colours.paper_size" 1231,.str "/claim/cut.py" 1232,.int 238 0,.int 5 0,.int 0 0,.int 0 0,.int 3 0,.ref 756,.bool true,.int 181 0,.ref 757,.none,.ref 758,.ref 759,.ref 760,.int 1238 0,.int 238 0,.str "/claim/cut.py" 1239]) #[]
def o762:O:=fun P=>.mk (.type "function") none (.func (.mk "paper_size" "Colours.paper_size" (kA (kM (top 27) 6)) (.stmts (kB (kM (top 27) 6))) (kS (kM (top 27) 6)) 3 [] .none .none .none (.str "treewells.gatherings" 1038) none (.ref 761) .none 0)) #[]
def o763:O:=fun P=>.mk (.type "tuple") none (.seq #[]) #[]
def o764:O:=fun P=>.mk (.type "dict") none (.dict #[kE P "__module__" 1167 (.str "treewells.gatherings" 1038),kE P "__firstlineno__" 1171 (.int 218 1170),kE P "word" 1178 (.ref 720),kE P "fits" 1188 (.ref 727),kE P "answer" 1198 (.ref 734),kE P "paper" 1208 (.ref 741),kE P "worth" 1218 (.ref 748),kE P "answer_size" 1229 (.ref 755),kE P "paper_size" 1240 (.ref 762),kE P "__static_attributes__" 1241 (.ref 763),kE P "__doc__" 1242 .none] 2) #[]
def o765:O:=fun P=>.mk (.type "type") none (Data.cls (ClassData.mk "Colours" [.ref 643] [.ref 765,.ref 643,.ref 270,.type "object"] 764 "Colours" true [] [] false none false)) #[some (.ref 707),none,some (.str "Colours" 1160),some (.str "Colours" 1168),some (.builtin "object.__new__"),some (.bool true)]
def o766:O:=fun P=>.mk (.type "super") none (.fields #[.ref 765,.ref 765,.ref 765]) #[]
def o767:O:=fun P=>.mk (.type "builtin_function_or_method") none (.fields #[.builtin "object.__init_subclass__", .ref 765]) #[]
def o768:O:=fun P=>.mk (.type "tuple") none (.seq #[.ref 643]) #[]
def o769:O:=fun P=>.mk (.type "builtin_function_or_method") none (.fields #[.builtin "type.__prepare__", .type "type"]) #[]
def o770:O:=fun P=>.mk (.type "dict") none (.dict #[kE P "__module__" 1252 (.str "treewells.gatherings" 1038),kE P "__qualname__" 1254 (.str "Worths" 1253),kE P "__firstlineno__" 1256 (.int 240 1255),kE P "word" 1263 (.ref 781),kE P "fits" 1273 (.ref 788),kE P "answer" 1283 (.ref 795),kE P "paper" 1293 (.ref 802),kE P "worth" 1303 (.ref 809),kE P "answer_size" 1314 (.ref 816),kE P "paper_size" 1325 (.ref 823),kE P "takes" 1337 (.ref 830),kE P "shows" 1349 (.ref 837),kE P "__static_attributes__" 1350 (.ref 838)] 13) #[]
def o771:O:=fun P=>.mk (.type "tuple") none (.seq #[]) #[]
def o772:O:=fun P=>.mk .none none (.fields #[.int 242 0,.int 4 0,.ref 780,.int 245 0,.int 4 0,.ref 787,.int 248 0,.int 4 0,.ref 794,.int 251 0,.int 4 0,.ref 801,.int 254 0,.int 4 0,.ref 808,.int 257 0,.int 4 0,.ref 815,.int 260 0,.int 4 0,.ref 822,.int 263 0,.int 4 0,.ref 829,.int 266 0,.int 4 0,.ref 836]) #[]
def o773:O:=fun P=>.mk (.type "code") none (.fields #[.str "Worths" 1247,.str "Worths" 1248,.str "/claim/cut.py" 1249,.int 240 0,.int 0 0,.int 0 0,.int 0 0,.int 0 0,.ref 771,.bool false,.int 181 0,.ref 772,.none,.none,.none,.none,.int 1250 0,.int 240 0,.str "/claim/cut.py" 1251]) #[]
def o774:O:=fun P=>.mk (.type "frame") none Data.plain #[some (.ref 773),some (.ref 3),some (.ref 770),none,some (.str "treewells.gatherings" 1038),none,some (.ref 0)]
def o775:O:=fun P=>.mk (.type "tuple") none (.seq #[]) #[]
def o776:O:=fun P=>.mk .none none (.fields #[]) #[]
def o777:O:=fun P=>.mk (.type "tuple") none (.seq #[.str "self" 1260]) #[]
def o778:O:=fun P=>.mk (.type "tuple") none (.seq #[]) #[]
def o779:O:=fun P=>.mk .none none (.func (.mk "word" "Worths.word" (kA (kM (top 28) 0)) (.stmts (kB (kM (top 28) 0))) (kS (kM (top 28) 0)) 0 [] .none .none .none .none none .none .none 0)) #[]
def o780:O:=fun P=>.mk (.type "code") none (.fields #[.str "word" 1257,.str "Worths.word" 1258,.str "/claim/cut.py" 1259,.int 242 0,.int 1 0,.int 0 0,.int 0 0,.int 3 0,.ref 775,.bool true,.int 181 0,.ref 776,.none,.ref 777,.ref 778,.ref 779,.int 1261 0,.int 242 0,.str "/claim/cut.py" 1262]) #[]
def o781:O:=fun P=>.mk (.type "function") none (.func (.mk "word" "Worths.word" (kA (kM (top 28) 0)) (.stmts (kB (kM (top 28) 0))) (kS (kM (top 28) 0)) 3 [] .none .none .none (.str "treewells.gatherings" 1038) none (.ref 780) .none 0)) #[]
def o782:O:=fun P=>.mk (.type "tuple") none (.seq #[]) #[]
def o783:O:=fun P=>.mk .none none (.fields #[]) #[]
def o784:O:=fun P=>.mk (.type "tuple") none (.seq #[.str "self" 1267,.str "many" 1268,.str "roads" 1269,.str "asked" 1270]) #[]
def o785:O:=fun P=>.mk (.type "tuple") none (.seq #[]) #[]
def o786:O:=fun P=>.mk .none none (.func (.mk "fits" "Worths.fits" (kA (kM (top 28) 1)) (.stmts (kB (kM (top 28) 1))) (kS (kM (top 28) 1)) 0 [] .none .none .none .none none .none .none 0)) #[]
def o787:O:=fun P=>.mk (.type "code") none (.fields #[.str "fits" 1264,.str "Worths.fits" 1265,.str "/claim/cut.py" 1266,.int 245 0,.int 4 0,.int 0 0,.int 0 0,.int 3 0,.ref 782,.bool true,.int 181 0,.ref 783,.none,.ref 784,.ref 785,.ref 786,.int 1271 0,.int 245 0,.str "/claim/cut.py" 1272]) #[]
def o788:O:=fun P=>.mk (.type "function") none (.func (.mk "fits" "Worths.fits" (kA (kM (top 28) 1)) (.stmts (kB (kM (top 28) 1))) (kS (kM (top 28) 1)) 3 [] .none .none .none (.str "treewells.gatherings" 1038) none (.ref 787) .none 0)) #[]
def o789:O:=fun P=>.mk (.type "tuple") none (.seq #[]) #[]
def o790:O:=fun P=>.mk .none none (.fields #[]) #[]
def o791:O:=fun P=>.mk (.type "tuple") none (.seq #[.str "self" 1277,.str "many" 1278,.str "roads" 1279,.str "asked" 1280]) #[]
def o792:O:=fun P=>.mk (.type "tuple") none (.seq #[]) #[]
def o793:O:=fun P=>.mk .none none (.func (.mk "answer" "Worths.answer" (kA (kM (top 28) 2)) (.stmts (kB (kM (top 28) 2))) (kS (kM (top 28) 2)) 0 [] .none .none .none .none none .none .none 0)) #[]
def o794:O:=fun P=>.mk (.type "code") none (.fields #[.str "answer" 1274,.str "Worths.answer" 1275,.str "/claim/cut.py" 1276,.int 248 0,.int 4 0,.int 0 0,.int 0 0,.int 3 0,.ref 789,.bool true,.int 181 0,.ref 790,.none,.ref 791,.ref 792,.ref 793,.int 1281 0,.int 248 0,.str "/claim/cut.py" 1282]) #[]
def o795:O:=fun P=>.mk (.type "function") none (.func (.mk "answer" "Worths.answer" (kA (kM (top 28) 2)) (.stmts (kB (kM (top 28) 2))) (kS (kM (top 28) 2)) 3 [] .none .none .none (.str "treewells.gatherings" 1038) none (.ref 794) .none 0)) #[]
def o796:O:=fun P=>.mk (.type "tuple") none (.seq #[]) #[]
def o797:O:=fun P=>.mk .none none (.fields #[]) #[]
def o798:O:=fun P=>.mk (.type "tuple") none (.seq #[.str "self" 1287,.str "many" 1288,.str "roads" 1289,.str "asked" 1290]) #[]
def o799:O:=fun P=>.mk (.type "tuple") none (.seq #[]) #[]
def o800:O:=fun P=>.mk .none none (.func (.mk "paper" "Worths.paper" (kA (kM (top 28) 3)) (.stmts (kB (kM (top 28) 3))) (kS (kM (top 28) 3)) 0 [] .none .none .none .none none .none .none 0)) #[]
def o801:O:=fun P=>.mk (.type "code") none (.fields #[.str "paper" 1284,.str "Worths.paper" 1285,.str "/claim/cut.py" 1286,.int 251 0,.int 4 0,.int 0 0,.int 0 0,.int 3 0,.ref 796,.bool true,.int 181 0,.ref 797,.none,.ref 798,.ref 799,.ref 800,.int 1291 0,.int 251 0,.str "/claim/cut.py" 1292]) #[]
def o802:O:=fun P=>.mk (.type "function") none (.func (.mk "paper" "Worths.paper" (kA (kM (top 28) 3)) (.stmts (kB (kM (top 28) 3))) (kS (kM (top 28) 3)) 3 [] .none .none .none (.str "treewells.gatherings" 1038) none (.ref 801) .none 0)) #[]
def o803:O:=fun P=>.mk (.type "tuple") none (.seq #[]) #[]
def o804:O:=fun P=>.mk .none none (.fields #[]) #[]
def o805:O:=fun P=>.mk (.type "tuple") none (.seq #[.str "self" 1297,.str "many" 1298,.str "roads" 1299,.str "asked" 1300]) #[]
def o806:O:=fun P=>.mk (.type "tuple") none (.seq #[]) #[]
def o807:O:=fun P=>.mk .none none (.func (.mk "worth" "Worths.worth" (kA (kM (top 28) 4)) (.stmts (kB (kM (top 28) 4))) (kS (kM (top 28) 4)) 0 [] .none .none .none .none none .none .none 0)) #[]
def o808:O:=fun P=>.mk (.type "code") none (.fields #[.str "worth" 1294,.str "Worths.worth" 1295,.str "/claim/cut.py" 1296,.int 254 0,.int 4 0,.int 0 0,.int 0 0,.int 3 0,.ref 803,.bool true,.int 181 0,.ref 804,.none,.ref 805,.ref 806,.ref 807,.int 1301 0,.int 254 0,.str "/claim/cut.py" 1302]) #[]
def o809:O:=fun P=>.mk (.type "function") none (.func (.mk "worth" "Worths.worth" (kA (kM (top 28) 4)) (.stmts (kB (kM (top 28) 4))) (kS (kM (top 28) 4)) 3 [] .none .none .none (.str "treewells.gatherings" 1038) none (.ref 808) .none 0)) #[]
def o810:O:=fun P=>.mk (.type "tuple") none (.seq #[]) #[]
def o811:O:=fun P=>.mk .none none (.fields #[]) #[]
def o812:O:=fun P=>.mk (.type "tuple") none (.seq #[.str "self" 1307,.str "many" 1308,.str "roads" 1309,.str "asked" 1310,.str "rows" 1311]) #[]
def o813:O:=fun P=>.mk (.type "tuple") none (.seq #[]) #[]
def o814:O:=fun P=>.mk .none none (.func (.mk "answer_size" "Worths.answer_size" (kA (kM (top 28) 5)) (.stmts (kB (kM (top 28) 5))) (kS (kM (top 28) 5)) 0 [] .none .none .none .none none .none .none 0)) #[]
def o815:O:=fun P=>.mk (.type "code") none (.fields #[.str "answer_size" 1304,.str "Worths.answer_size" 1305,.str "/claim/cut.py" 1306,.int 257 0,.int 5 0,.int 0 0,.int 0 0,.int 3 0,.ref 810,.bool true,.int 181 0,.ref 811,.none,.ref 812,.ref 813,.ref 814,.int 1312 0,.int 257 0,.str "/claim/cut.py" 1313]) #[]
def o816:O:=fun P=>.mk (.type "function") none (.func (.mk "answer_size" "Worths.answer_size" (kA (kM (top 28) 5)) (.stmts (kB (kM (top 28) 5))) (kS (kM (top 28) 5)) 3 [] .none .none .none (.str "treewells.gatherings" 1038) none (.ref 815) .none 0)) #[]
def o817:O:=fun P=>.mk (.type "tuple") none (.seq #[]) #[]
def o818:O:=fun P=>.mk .none none (.fields #[]) #[]
def o819:O:=fun P=>.mk (.type "tuple") none (.seq #[.str "self" 1318,.str "many" 1319,.str "roads" 1320,.str "asked" 1321,.str "rows" 1322]) #[]
def o820:O:=fun P=>.mk (.type "tuple") none (.seq #[]) #[]
def o821:O:=fun P=>.mk .none none (.func (.mk "paper_size" "Worths.paper_size" (kA (kM (top 28) 6)) (.stmts (kB (kM (top 28) 6))) (kS (kM (top 28) 6)) 0 [] .none .none .none .none none .none .none 0)) #[]
def o822:O:=fun P=>.mk (.type "code") none (.fields #[.str "paper_size" 1315,.str "Worths.paper_size" 1316,.str "/claim/cut.py" 1317,.int 260 0,.int 5 0,.int 0 0,.int 0 0,.int 3 0,.ref 817,.bool true,.int 181 0,.ref 818,.none,.ref 819,.ref 820,.ref 821,.int 1323 0,.int 260 0,.str "/claim/cut.py" 1324]) #[]
def o823:O:=fun P=>.mk (.type "function") none (.func (.mk "paper_size" "Worths.paper_size" (kA (kM (top 28) 6)) (.stmts (kB (kM (top 28) 6))) (kS (kM (top 28) 6)) 3 [] .none .none .none (.str "treewells.gatherings" 1038) none (.ref 822) .none 0)) #[]
def o824:O:=fun P=>.mk (.type "tuple") none (.seq #[]) #[]
def o825:O:=fun P=>.mk .none none (.fields #[]) #[]
def o826:O:=fun P=>.mk (.type "tuple") none (.seq #[.str "self" 1329,.str "many" 1330,.str "roads" 1331,.str "asked" 1332,.str "rows" 1333,.str "worth" 1334]) #[]
def o827:O:=fun P=>.mk (.type "tuple") none (.seq #[]) #[]
def o828:O:=fun P=>.mk .none none (.func (.mk "takes" "Worths.takes" (kA (kM (top 28) 7)) (.stmts (kB (kM (top 28) 7))) (kS (kM (top 28) 7)) 0 [] .none .none .none .none none .none .none 0)) #[]
def o829:O:=fun P=>.mk (.type "code") none (.fields #[.str "takes" 1326,.str "Worths.takes" 1327,.str "/claim/cut.py" 1328,.int 263 0,.int 6 0,.int 0 0,.int 0 0,.int 3 0,.ref 824,.bool true,.int 181 0,.ref 825,.none,.ref 826,.ref 827,.ref 828,.int 1335 0,.int 263 0,.str "/claim/cut.py" 1336]) #[]
def o830:O:=fun P=>.mk (.type "function") none (.func (.mk "takes" "Worths.takes" (kA (kM (top 28) 7)) (.stmts (kB (kM (top 28) 7))) (kS (kM (top 28) 7)) 3 [] .none .none .none (.str "treewells.gatherings" 1038) none (.ref 829) .none 0)) #[]
def o831:O:=fun P=>.mk (.type "tuple") none (.seq #[]) #[]
def o832:O:=fun P=>.mk .none none (.fields #[]) #[]
def o833:O:=fun P=>.mk (.type "tuple") none (.seq #[.str "self" 1341,.str "many" 1342,.str "roads" 1343,.str "asked" 1344,.str "rows" 1345,.str "worth" 1346]) #[]
def o834:O:=fun P=>.mk (.type "tuple") none (.seq #[]) #[]
def o835:O:=fun P=>.mk .none none (.func (.mk "shows" "Worths.shows" (kA (kM (top 28) 8)) (.stmts (kB (kM (top 28) 8))) (kS (kM (top 28) 8)) 0 [] .none .none .none .none none .none .none 0)) #[]
def o836:O:=fun P=>.mk (.type "code") none (.fields #[.str "shows" 1338,.str "Worths.shows" 1339,.str "/claim/cut.py" 1340,.int 266 0,.int 6 0,.int 0 0,.int 0 0,.int 3 0,.ref 831,.bool true,.int 181 0,.ref 832,.none,.ref 833,.ref 834,.ref 835,.int 1347 0,.int 266 0,.str "/claim/cut.py" 1348]) #[]
def o837:O:=fun P=>.mk (.type "function") none (.func (.mk "shows" "Worths.shows" (kA (kM (top 28) 8)) (.stmts (kB (kM (top 28) 8))) (kS (kM (top 28) 8)) 3 [] .none .none .none (.str "treewells.gatherings" 1038) none (.ref 836) .none 0)) #[]
def o838:O:=fun P=>.mk (.type "tuple") none (.seq #[]) #[]
def o839:O:=fun P=>.mk (.type "dict") none (.dict #[kE P "__module__" 1252 (.str "treewells.gatherings" 1038),kE P "__firstlineno__" 1256 (.int 240 1255),kE P "word" 1263 (.ref 781),kE P "fits" 1273 (.ref 788),kE P "answer" 1283 (.ref 795),kE P "paper" 1293 (.ref 802),kE P "worth" 1303 (.ref 809),kE P "answer_size" 1314 (.ref 816),kE P "paper_size" 1325 (.ref 823),kE P "takes" 1337 (.ref 830),kE P "shows" 1349 (.ref 837),kE P "__static_attributes__" 1350 (.ref 838),kE P "__doc__" 1351 .none] 2) #[]
def o840:O:=fun P=>.mk (.type "type") none (Data.cls (ClassData.mk "Worths" [.ref 643] [.ref 840,.ref 643,.ref 270,.type "object"] 839 "Worths" true [] [] false none false)) #[some (.ref 768),none,some (.str "Worths" 1245),some (.str "Worths" 1253),some (.builtin "object.__new__"),some (.bool true)]
def o841:O:=fun P=>.mk (.type "super") none (.fields #[.ref 840,.ref 840,.ref 840]) #[]
def o842:O:=fun P=>.mk (.type "builtin_function_or_method") none (.fields #[.builtin "object.__init_subclass__", .ref 840]) #[]
def o843:O:=fun P=>.mk (.type "tuple") none (.seq #[.ref 270]) #[]
def o844:O:=fun P=>.mk (.type "builtin_function_or_method") none (.fields #[.builtin "type.__prepare__", .type "type"]) #[]
def o845:O:=fun P=>.mk (.type "dict") none (.dict #[kE P "__module__" 1361 (.str "treewells.gatherings" 1038),kE P "__qualname__" 1363 (.str "Sweeping" 1362),kE P "__firstlineno__" 1365 (.int 268 1364),kE P "times_swept" 1375 (.ref 856),kE P "half_of" 1384 (.ref 863),kE P "__static_attributes__" 1385 (.ref 864)] 6) #[]
def o846:O:=fun P=>.mk (.type "tuple") none (.seq #[]) #[]
def o847:O:=fun P=>.mk .none none (.fields #[.int 270 0,.int 4 0,.ref 855,.int 273 0,.int 4 0,.ref 862]) #[]
def o848:O:=fun P=>.mk (.type "code") none (.fields #[.str "Sweeping" 1356,.str "Sweeping" 1357,.str "/claim/cut.py" 1358,.int 268 0,.int 0 0,.int 0 0,.int 0 0,.int 0 0,.ref 846,.bool false,.int 181 0,.ref 847,.none,.none,.none,.none,.int 1359 0,.int 268 0,.str "/claim/cut.py" 1360]) #[]
def o849:O:=fun P=>.mk (.type "frame") none Data.plain #[some (.ref 848),some (.ref 3),some (.ref 845),none,some (.str "treewells.gatherings" 1038),none,some (.ref 0)]
def o850:O:=fun P=>.mk (.type "tuple") none (.seq #[]) #[]
def o851:O:=fun P=>.mk .none none (.fields #[]) #[]
def o852:O:=fun P=>.mk (.type "tuple") none (.seq #[.str "self" 1369,.str "many" 1370,.str "roads" 1371,.str "rows" 1372]) #[]
def o853:O:=fun P=>.mk (.type "tuple") none (.seq #[]) #[]
def o854:O:=fun P=>.mk .none none (.func (.mk "times_swept" "Sweeping.times_swept" (kA (kM (top 29) 0)) (.stmts (kB (kM (top 29) 0))) (kS (kM (top 29) 0)) 0 [] .none .none .none .none none .none .none 0)) #[]
def o855:O:=fun P=>.mk (.type "code") none (.fields #[.str "times_swept" 1366,.str "Sweeping.times_swept" 1367,.str "/claim/cut.py" 1368,.int 270 0,.int 4 0,.int 0 0,.int 0 0,.int 3 0,.ref 850,.bool true,.int 181 0,.ref 851,.none,.ref 852,.ref 853,.ref 854,.int 1373 0,.int 270 0,.str "/claim/cut.py" 1374]) #[]
def o856:O:=fun P=>.mk (.type "function") none (.func (.mk "times_swept" "Sweeping.times_swept" (kA (kM (top 29) 0)) (.stmts (kB (kM (top 29) 0))) (kS (kM (top 29) 0)) 3 [] .none .none .none (.str "treewells.gatherings" 1038) none (.ref 855) .none 0)) #[]
def o857:O:=fun P=>.mk (.type "tuple") none (.seq #[]) #[]
def o858:O:=fun P=>.mk .none none (.fields #[]) #[]
def o859:O:=fun P=>.mk (.type "tuple") none (.seq #[.str "self" 1379,.str "stops" 1380,.str "rows" 1381]) #[]
def o860:O:=fun P=>.mk (.type "tuple") none (.seq #[]) #[]
def o861:O:=fun P=>.mk .none none (.func (.mk "half_of" "Sweeping.half_of" (kA (kM (top 29) 1)) (.stmts (kB (kM (top 29) 1))) (kS (kM (top 29) 1)) 0 [] .none .none .none .none none .none .none 0)) #[]
def o862:O:=fun P=>.mk (.type "code") none (.fields #[.str "half_of" 1376,.str "Sweeping.half_of" 1377,.str "/claim/cut.py" 1378,.int 273 0,.int 3 0,.int 0 0,.int 0 0,.int 3 0,.ref 857,.bool true,.int 181 0,.ref 858,.none,.ref 859,.ref 860,.ref 861,.int 1382 0,.int 273 0,.str "/claim/cut.py" 1383]) #[]
def o863:O:=fun P=>.mk (.type "function") none (.func (.mk "half_of" "Sweeping.half_of" (kA (kM (top 29) 1)) (.stmts (kB (kM (top 29) 1))) (kS (kM (top 29) 1)) 3 [] .none .none .none (.str "treewells.gatherings" 1038) none (.ref 862) .none 0)) #[]
def o864:O:=fun P=>.mk (.type "tuple") none (.seq #[]) #[]
def o865:O:=fun P=>.mk (.type "dict") none (.dict #[kE P "__module__" 1361 (.str "treewells.gatherings" 1038),kE P "__firstlineno__" 1365 (.int 268 1364),kE P "times_swept" 1375 (.ref 856),kE P "half_of" 1384 (.ref 863),kE P "__static_attributes__" 1385 (.ref 864),kE P "__doc__" 1386 .none] 2) #[]
def o866:O:=fun P=>.mk (.type "type") none (Data.cls (ClassData.mk "Sweeping" [.ref 270] [.ref 866,.ref 270,.type "object"] 865 "Sweeping" true [] [.ref 927,.ref 988] false none false)) #[some (.ref 843),none,some (.str "Sweeping" 1354),some (.str "Sweeping" 1362),some (.builtin "object.__new__"),some (.bool true)]
def o867:O:=fun P=>.mk (.type "super") none (.fields #[.ref 866,.ref 866,.ref 866]) #[]
def o868:O:=fun P=>.mk (.type "builtin_function_or_method") none (.fields #[.builtin "object.__init_subclass__", .ref 866]) #[]
def o869:O:=fun P=>.mk (.type "tuple") none (.seq #[.ref 866]) #[]
def o870:O:=fun P=>.mk (.type "builtin_function_or_method") none (.fields #[.builtin "type.__prepare__", .type "type"]) #[]
def o871:O:=fun P=>.mk (.type "dict") none (.dict #[kE P "__module__" 1396 (.str "treewells.gatherings" 1038),kE P "__qualname__" 1398 (.str "Walks" 1397),kE P "__firstlineno__" 1400 (.int 275 1399),kE P "word" 1407 (.ref 882),kE P "fits" 1417 (.ref 889),kE P "answer" 1427 (.ref 896),kE P "paper" 1437 (.ref 903),kE P "worth" 1447 (.ref 910),kE P "answer_size" 1458 (.ref 917),kE P "paper_size" 1469 (.ref 924),kE P "__static_attributes__" 1470 (.ref 925)] 11) #[]
def o872:O:=fun P=>.mk (.type "tuple") none (.seq #[]) #[]
def o873:O:=fun P=>.mk .none none (.fields #[.int 277 0,.int 4 0,.ref 881,.int 280 0,.int 4 0,.ref 888,.int 283 0,.int 4 0,.ref 895,.int 286 0,.int 4 0,.ref 902,.int 289 0,.int 4 0,.ref 909,.int 292 0,.int 4 0,.ref 916,.int 295 0,.int 4 0,.ref 923]) #[]
def o874:O:=fun P=>.mk (.type "code") none (.fields #[.str "Walks" 1391,.str "Walks" 1392,.str "/claim/cut.py" 1393,.int 275 0,.int 0 0,.int 0 0,.int 0 0,.int 0 0,.ref 872,.bool false,.int 181 0,.ref 873,.none,.none,.none,.none,.int 1394 0,.int 275 0,.str "/claim/cut.py" 1395]) #[]
def o875:O:=fun P=>.mk (.type "frame") none Data.plain #[some (.ref 874),some (.ref 3),some (.ref 871),none,some (.str "treewells.gatherings" 1038),none,some (.ref 0)]
def o876:O:=fun P=>.mk (.type "tuple") none (.seq #[]) #[]
def o877:O:=fun P=>.mk .none none (.fields #[]) #[]
def o878:O:=fun P=>.mk (.type "tuple") none (.seq #[.str "self" 1404]) #[]
def o879:O:=fun P=>.mk (.type "tuple") none (.seq #[]) #[]
def o880:O:=fun P=>.mk .none none (.func (.mk "word" "Walks.word" (kA (kM (top 30) 0)) (.stmts (kB (kM (top 30) 0))) (kS (kM (top 30) 0)) 0 [] .none .none .none .none none .none .none 0)) #[]
def o881:O:=fun P=>.mk (.type "code") none (.fields #[.str "word" 1401,.str "Walks.word" 1402,.str "/claim/cut.py" 1403,.int 277 0,.int 1 0,.int 0 0,.int 0 0,.int 3 0,.ref 876,.bool true,.int 181 0,.ref 877,.none,.ref 878,.ref 879,.ref 880,.int 1405 0,.int 277 0,.str "/claim/cut.py" 1406]) #[]
def o882:O:=fun P=>.mk (.type "function") none (.func (.mk "word" "Walks.word" (kA (kM (top 30) 0)) (.stmts (kB (kM (top 30) 0))) (kS (kM (top 30) 0)) 3 [] .none .none .none (.str "treewells.gatherings" 1038) none (.ref 881) .none 0)) #[]
def o883:O:=fun P=>.mk (.type "tuple") none (.seq #[]) #[]
def o884:O:=fun P=>.mk .none none (.fields #[]) #[]
def o885:O:=fun P=>.mk (.type "tuple") none (.seq #[.str "self" 1411,.str "many" 1412,.str "roads" 1413,.str "asked" 1414]) #[]
def o886:O:=fun P=>.mk (.type "tuple") none (.seq #[]) #[]
def o887:O:=fun P=>.mk .none none (.func (.mk "fits" "Walks.fits" (kA (kM (top 30) 1)) (.stmts (kB (kM (top 30) 1))) (kS (kM (top 30) 1)) 0 [] .none .none .none .none none .none .none 0)) #[]
def o888:O:=fun P=>.mk (.type "code") none (.fields #[.str "fits" 1408,.str "Walks.fits" 1409,.str "/claim/cut.py" 1410,.int 280 0,.int 4 0,.int 0 0,.int 0 0,.int 3 0,.ref 883,.bool true,.int 181 0,.ref 884,.none,.ref 885,.ref 886,.ref 887,.int 1415 0,.int 280 0,.str "/claim/cut.py" 1416]) #[]
def o889:O:=fun P=>.mk (.type "function") none (.func (.mk "fits" "Walks.fits" (kA (kM (top 30) 1)) (.stmts (kB (kM (top 30) 1))) (kS (kM (top 30) 1)) 3 [] .none .none .none (.str "treewells.gatherings" 1038) none (.ref 888) .none 0)) #[]
def o890:O:=fun P=>.mk (.type "tuple") none (.seq #[]) #[]
def o891:O:=fun P=>.mk .none none (.fields #[]) #[]
def o892:O:=fun P=>.mk (.type "tuple") none (.seq #[.str "self" 1421,.str "many" 1422,.str "roads" 1423,.str "asked" 1424]) #[]
def o893:O:=fun P=>.mk (.type "tuple") none (.seq #[]) #[]
def o894:O:=fun P=>.mk .none none (.func (.mk "answer" "Walks.answer" (kA (kM (top 30) 2)) (.stmts (kB (kM (top 30) 2))) (kS (kM (top 30) 2)) 0 [] .none .none .none .none none .none .none 0)) #[]
def o895:O:=fun P=>.mk (.type "code") none (.fields #[.str "answer" 1418,.str "Walks.answer" 1419,.str "/claim/cut.py" 1420,.int 283 0,.int 4 0,.int 0 0,.int 0 0,.int 3 0,.ref 890,.bool true,.int 181 0,.ref 891,.none,.ref 892,.ref 893,.ref 894,.int 1425 0,.int 283 0,.str "/claim/cut.py" 1426]) #[]
def o896:O:=fun P=>.mk (.type "function") none (.func (.mk "answer" "Walks.answer" (kA (kM (top 30) 2)) (.stmts (kB (kM (top 30) 2))) (kS (kM (top 30) 2)) 3 [] .none .none .none (.str "treewells.gatherings" 1038) none (.ref 895) .none 0)) #[]
def o897:O:=fun P=>.mk (.type "tuple") none (.seq #[]) #[]
def o898:O:=fun P=>.mk .none none (.fields #[]) #[]
def o899:O:=fun P=>.mk (.type "tuple") none (.seq #[.str "self" 1431,.str "many" 1432,.str "roads" 1433,.str "asked" 1434]) #[]
def o900:O:=fun P=>.mk (.type "tuple") none (.seq #[]) #[]
def o901:O:=fun P=>.mk .none none (.func (.mk "paper" "Walks.paper" (kA (kM (top 30) 3)) (.stmts (kB (kM (top 30) 3))) (kS (kM (top 30) 3)) 0 [] .none .none .none .none none .none .none 0)) #[]
def o902:O:=fun P=>.mk (.type "code") none (.fields #[.str "paper" 1428,.str "Walks.paper" 1429,.str "/claim/cut.py" 1430,.int 286 0,.int 4 0,.int 0 0,.int 0 0,.int 3 0,.ref 897,.bool true,.int 181 0,.ref 898,.none,.ref 899,.ref 900,.ref 901,.int 1435 0,.int 286 0,.str "/claim/cut.py" 1436]) #[]
def o903:O:=fun P=>.mk (.type "function") none (.func (.mk "paper" "Walks.paper" (kA (kM (top 30) 3)) (.stmts (kB (kM (top 30) 3))) (kS (kM (top 30) 3)) 3 [] .none .none .none (.str "treewells.gatherings" 1038) none (.ref 902) .none 0)) #[]
def o904:O:=fun P=>.mk (.type "tuple") none (.seq #[]) #[]
def o905:O:=fun P=>.mk .none none (.fields #[]) #[]
def o906:O:=fun P=>.mk (.type "tuple") none (.seq #[.str "self" 1441,.str "many" 1442,.str "roads" 1443,.str "asked" 1444]) #[]
def o907:O:=fun P=>.mk (.type "tuple") none (.seq #[]) #[]
def o908:O:=fun P=>.mk .none none (.func (.mk "worth" "Walks.worth" (kA (kM (top 30) 4)) (.stmts (kB (kM (top 30) 4))) (kS (kM (top 30) 4)) 0 [] .none .none .none .none none .none .none 0)) #[]
def o909:O:=fun P=>.mk (.type "code") none (.fields #[.str "worth" 1438,.str "Walks.worth" 1439,.str "/claim/cut.py" 1440,.int 289 0,.int 4 0,.int 0 0,.int 0 0,.int 3 0,.ref 904,.bool true,.int 181 0,.ref 905,.none,.ref 906,.ref 907,.ref 908,.int 1445 0,.int 289 0,.str "/claim/cut.py" 1446]) #[]
def o910:O:=fun P=>.mk (.type "function") none (.func (.mk "worth" "Walks.worth" (kA (kM (top 30) 4)) (.stmts (kB (kM (top 30) 4))) (kS (kM (top 30) 4)) 3 [] .none .none .none (.str "treewells.gatherings" 1038) none (.ref 909) .none 0)) #[]
def o911:O:=fun P=>.mk (.type "tuple") none (.seq #[]) #[]
def o912:O:=fun P=>.mk .none none (.fields #[]) #[]
def o913:O:=fun P=>.mk (.type "tuple") none (.seq #[.str "self" 1451,.str "many" 1452,.str "roads" 1453,.str "asked" 1454,.str "rows" 1455]) #[]
def o914:O:=fun P=>.mk (.type "tuple") none (.seq #[]) #[]
def o915:O:=fun P=>.mk .none none (.func (.mk "answer_size" "Walks.answer_size" (kA (kM (top 30) 5)) (.stmts (kB (kM (top 30) 5))) (kS (kM (top 30) 5)) 0 [] .none .none .none .none none .none .none 0)) #[]
def o916:O:=fun P=>.mk (.type "code") none (.fields #[.str "answer_size" 1448,.str "Walks.answer_size" 1449,.str "/claim/cut.py" 1450,.int 292 0,.int 5 0,.int 0 0,.int 0 0,.int 3 0,.ref 911,.bool true,.int 181 0,.ref 912,.none,.ref 913,.ref 914,.ref 915,.int 1456 0,.int 292 0,.str "/claim/cut.py" 1457]) #[]
def o917:O:=fun P=>.mk (.type "function") none (.func (.mk "answer_size" "Walks.answer_size" (kA (kM (top 30) 5)) (.stmts (kB (kM (top 30) 5))) (kS (kM (top 30) 5)) 3 [] .none .none .none (.str "treewells.gatherings" 1038) none (.ref 916) .none 0)) #[]
def o918:O:=fun P=>.mk (.type "tuple") none (.seq #[]) #[]
def o919:O:=fun P=>.mk .none none (.fields #[]) #[]
def o920:O:=fun P=>.mk (.type "tuple") none (.seq #[.str "self" 1462,.str "many" 1463,.str "roads" 1464,.str "asked" 1465,.str "rows" 1466]) #[]
def o921:O:=fun P=>.mk (.type "tuple") none (.seq #[]) #[]
def o922:O:=fun P=>.mk .none none (.func (.mk "paper_size" "Walks.paper_size" (kA (kM (top 30) 6)) (.stmts (kB (kM (top 30) 6))) (kS (kM (top 30) 6)) 0 [] .none .none .none .none none .none .none 0)) #[]
def o923:O:=fun P=>.mk (.type "code") none (.fields #[.str "paper_size" 1459,.str "Walks.paper_size" 1460,.str "/claim/cut.py" 1461,.int 295 0,.int 5 0,.int 0 0,.int 0 0,.int 3 0,.ref 918,.bool true,.int 181 0,.ref 919,.none,.ref 920,.ref 921,.ref 922,.int 1467 0,.int 295 0,.str "/claim/cut.py" 1468]) #[]
def o924:O:=fun P=>.mk (.type "function") none (.func (.mk "paper_size" "Walks.paper_size" (kA (kM (top 30) 6)) (.stmts (kB (kM (top 30) 6))) (kS (kM (top 30) 6)) 3 [] .none .none .none (.str "treewells.gatherings" 1038) none (.ref 923) .none 0)) #[]
def o925:O:=fun P=>.mk (.type "tuple") none (.seq #[]) #[]
def o926:O:=fun P=>.mk (.type "dict") none (.dict #[kE P "__module__" 1396 (.str "treewells.gatherings" 1038),kE P "__firstlineno__" 1400 (.int 275 1399),kE P "word" 1407 (.ref 882),kE P "fits" 1417 (.ref 889),kE P "answer" 1427 (.ref 896),kE P "paper" 1437 (.ref 903),kE P "worth" 1447 (.ref 910),kE P "answer_size" 1458 (.ref 917),kE P "paper_size" 1469 (.ref 924),kE P "__static_attributes__" 1470 (.ref 925),kE P "__doc__" 1471 .none] 2) #[]
def o927:O:=fun P=>.mk (.type "type") none (Data.cls (ClassData.mk "Walks" [.ref 866] [.ref 927,.ref 866,.ref 270,.type "object"] 926 "Walks" true [] [] false none false)) #[some (.ref 869),none,some (.str "Walks" 1389),some (.str "Walks" 1397),some (.builtin "object.__new__"),some (.bool true)]
def o928:O:=fun P=>.mk (.type "super") none (.fields #[.ref 927,.ref 927,.ref 927]) #[]
def o929:O:=fun P=>.mk (.type "builtin_function_or_method") none (.fields #[.builtin "object.__init_subclass__", .ref 927]) #[]
def o930:O:=fun P=>.mk (.type "tuple") none (.seq #[.ref 866]) #[]
def o931:O:=fun P=>.mk (.type "builtin_function_or_method") none (.fields #[.builtin "type.__prepare__", .type "type"]) #[]
def o932:O:=fun P=>.mk (.type "dict") none (.dict #[kE P "__module__" 1481 (.str "treewells.gatherings" 1038),kE P "__qualname__" 1483 (.str "Sweeps" 1482),kE P "__firstlineno__" 1485 (.int 297 1484),kE P "word" 1492 (.ref 943),kE P "fits" 1502 (.ref 950),kE P "answer" 1512 (.ref 957),kE P "paper" 1522 (.ref 964),kE P "worth" 1532 (.ref 971),kE P "answer_size" 1543 (.ref 978),kE P "paper_size" 1554 (.ref 985),kE P "__static_attributes__" 1555 (.ref 986)] 11) #[]
def o933:O:=fun P=>.mk (.type "tuple") none (.seq #[]) #[]
def o934:O:=fun P=>.mk .none none (.fields #[.int 299 0,.int 4 0,.ref 942,.int 302 0,.int 4 0,.ref 949,.int 305 0,.int 4 0,.ref 956,.int 308 0,.int 4 0,.ref 963,.int 311 0,.int 4 0,.ref 970,.int 314 0,.int 4 0,.ref 977,.int 317 0,.int 4 0,.ref 984]) #[]
def o935:O:=fun P=>.mk (.type "code") none (.fields #[.str "Sweeps" 1476,.str "Sweeps" 1477,.str "/claim/cut.py" 1478,.int 297 0,.int 0 0,.int 0 0,.int 0 0,.int 0 0,.ref 933,.bool false,.int 181 0,.ref 934,.none,.none,.none,.none,.int 1479 0,.int 297 0,.str "/claim/cut.py" 1480]) #[]
def o936:O:=fun P=>.mk (.type "frame") none Data.plain #[some (.ref 935),some (.ref 3),some (.ref 932),none,some (.str "treewells.gatherings" 1038),none,some (.ref 0)]
def o937:O:=fun P=>.mk (.type "tuple") none (.seq #[]) #[]
def o938:O:=fun P=>.mk .none none (.fields #[]) #[]
def o939:O:=fun P=>.mk (.type "tuple") none (.seq #[.str "self" 1489]) #[]
def o940:O:=fun P=>.mk (.type "tuple") none (.seq #[]) #[]
def o941:O:=fun P=>.mk .none none (.func (.mk "word" "Sweeps.word" (kA (kM (top 31) 0)) (.stmts (kB (kM (top 31) 0))) (kS (kM (top 31) 0)) 0 [] .none .none .none .none none .none .none 0)) #[]
def o942:O:=fun P=>.mk (.type "code") none (.fields #[.str "word" 1486,.str "Sweeps.word" 1487,.str "/claim/cut.py" 1488,.int 299 0,.int 1 0,.int 0 0,.int 0 0,.int 3 0,.ref 937,.bool true,.int 181 0,.ref 938,.none,.ref 939,.ref 940,.ref 941,.int 1490 0,.int 299 0,.str "/claim/cut.py" 1491]) #[]
def o943:O:=fun P=>.mk (.type "function") none (.func (.mk "word" "Sweeps.word" (kA (kM (top 31) 0)) (.stmts (kB (kM (top 31) 0))) (kS (kM (top 31) 0)) 3 [] .none .none .none (.str "treewells.gatherings" 1038) none (.ref 942) .none 0)) #[]
def o944:O:=fun P=>.mk (.type "tuple") none (.seq #[]) #[]
def o945:O:=fun P=>.mk .none none (.fields #[]) #[]
def o946:O:=fun P=>.mk (.type "tuple") none (.seq #[.str "self" 1496,.str "many" 1497,.str "roads" 1498,.str "asked" 1499]) #[]
def o947:O:=fun P=>.mk (.type "tuple") none (.seq #[]) #[]
def o948:O:=fun P=>.mk .none none (.func (.mk "fits" "Sweeps.fits" (kA (kM (top 31) 1)) (.stmts (kB (kM (top 31) 1))) (kS (kM (top 31) 1)) 0 [] .none .none .none .none none .none .none 0)) #[]
def o949:O:=fun P=>.mk (.type "code") none (.fields #[.str "fits" 1493,.str "Sweeps.fits" 1494,.str "/claim/cut.py" 1495,.int 302 0,.int 4 0,.int 0 0,.int 0 0,.int 3 0,.ref 944,.bool true,.int 181 0,.ref 945,.none,.ref 946,.ref 947,.ref 948,.int 1500 0,.int 302 0,.str "/claim/cut.py" 1501]) #[]
def o950:O:=fun P=>.mk (.type "function") none (.func (.mk "fits" "Sweeps.fits" (kA (kM (top 31) 1)) (.stmts (kB (kM (top 31) 1))) (kS (kM (top 31) 1)) 3 [] .none .none .none (.str "treewells.gatherings" 1038) none (.ref 949) .none 0)) #[]
def o951:O:=fun P=>.mk (.type "tuple") none (.seq #[]) #[]
def o952:O:=fun P=>.mk .none none (.fields #[]) #[]
def o953:O:=fun P=>.mk (.type "tuple") none (.seq #[.str "self" 1506,.str "many" 1507,.str "roads" 1508,.str "asked" 1509]) #[]
def o954:O:=fun P=>.mk (.type "tuple") none (.seq #[]) #[]
def o955:O:=fun P=>.mk .none none (.func (.mk "answer" "Sweeps.answer" (kA (kM (top 31) 2)) (.stmts (kB (kM (top 31) 2))) (kS (kM (top 31) 2)) 0 [] .none .none .none .none none .none .none 0)) #[]
def o956:O:=fun P=>.mk (.type "code") none (.fields #[.str "answer" 1503,.str "Sweeps.answer" 1504,.str "/claim/cut.py" 1505,.int 305 0,.int 4 0,.int 0 0,.int 0 0,.int 3 0,.ref 951,.bool true,.int 181 0,.ref 952,.none,.ref 953,.ref 954,.ref 955,.int 1510 0,.int 305 0,.str "/claim/cut.py" 1511]) #[]
def o957:O:=fun P=>.mk (.type "function") none (.func (.mk "answer" "Sweeps.answer" (kA (kM (top 31) 2)) (.stmts (kB (kM (top 31) 2))) (kS (kM (top 31) 2)) 3 [] .none .none .none (.str "treewells.gatherings" 1038) none (.ref 956) .none 0)) #[]
def o958:O:=fun P=>.mk (.type "tuple") none (.seq #[]) #[]
def o959:O:=fun P=>.mk .none none (.fields #[]) #[]
def o960:O:=fun P=>.mk (.type "tuple") none (.seq #[.str "self" 1516,.str "many" 1517,.str "roads" 1518,.str "asked" 1519]) #[]
def o961:O:=fun P=>.mk (.type "tuple") none (.seq #[]) #[]
def o962:O:=fun P=>.mk .none none (.func (.mk "paper" "Sweeps.paper" (kA (kM (top 31) 3)) (.stmts (kB (kM (top 31) 3))) (kS (kM (top 31) 3)) 0 [] .none .none .none .none none .none .none 0)) #[]
def o963:O:=fun P=>.mk (.type "code") none (.fields #[.str "paper" 1513,.str "Sweeps.paper" 1514,.str "/claim/cut.py" 1515,.int 308 0,.int 4 0,.int 0 0,.int 0 0,.int 3 0,.ref 958,.bool true,.int 181 0,.ref 959,.none,.ref 960,.ref 961,.ref 962,.int 1520 0,.int 308 0,.str "/claim/cut.py" 1521]) #[]
def o964:O:=fun P=>.mk (.type "function") none (.func (.mk "paper" "Sweeps.paper" (kA (kM (top 31) 3)) (.stmts (kB (kM (top 31) 3))) (kS (kM (top 31) 3)) 3 [] .none .none .none (.str "treewells.gatherings" 1038) none (.ref 963) .none 0)) #[]
def o965:O:=fun P=>.mk (.type "tuple") none (.seq #[]) #[]
def o966:O:=fun P=>.mk .none none (.fields #[]) #[]
def o967:O:=fun P=>.mk (.type "tuple") none (.seq #[.str "self" 1526,.str "many" 1527,.str "roads" 1528,.str "asked" 1529]) #[]
def o968:O:=fun P=>.mk (.type "tuple") none (.seq #[]) #[]
def o969:O:=fun P=>.mk .none none (.func (.mk "worth" "Sweeps.worth" (kA (kM (top 31) 4)) (.stmts (kB (kM (top 31) 4))) (kS (kM (top 31) 4)) 0 [] .none .none .none .none none .none .none 0)) #[]
def o970:O:=fun P=>.mk (.type "code") none (.fields #[.str "worth" 1523,.str "Sweeps.worth" 1524,.str "/claim/cut.py" 1525,.int 311 0,.int 4 0,.int 0 0,.int 0 0,.int 3 0,.ref 965,.bool true,.int 181 0,.ref 966,.none,.ref 967,.ref 968,.ref 969,.int 1530 0,.int 311 0,.str "/claim/cut.py" 1531]) #[]
def o971:O:=fun P=>.mk (.type "function") none (.func (.mk "worth" "Sweeps.worth" (kA (kM (top 31) 4)) (.stmts (kB (kM (top 31) 4))) (kS (kM (top 31) 4)) 3 [] .none .none .none (.str "treewells.gatherings" 1038) none (.ref 970) .none 0)) #[]
def o972:O:=fun P=>.mk (.type "tuple") none (.seq #[]) #[]
def o973:O:=fun P=>.mk .none none (.fields #[]) #[]
def o974:O:=fun P=>.mk (.type "tuple") none (.seq #[.str "self" 1536,.str "many" 1537,.str "roads" 1538,.str "asked" 1539,.str "rows" 1540]) #[]
def o975:O:=fun P=>.mk (.type "tuple") none (.seq #[]) #[]
def o976:O:=fun P=>.mk .none none (.func (.mk "answer_size" "Sweeps.answer_size" (kA (kM (top 31) 5)) (.stmts (kB (kM (top 31) 5))) (kS (kM (top 31) 5)) 0 [] .none .none .none .none none .none .none 0)) #[]
def o977:O:=fun P=>.mk (.type "code") none (.fields #[.str "answer_size" 1533,.str "Sweeps.answer_size" 1534,.str "/claim/cut.py" 1535,.int 314 0,.int 5 0,.int 0 0,.int 0 0,.int 3 0,.ref 972,.bool true,.int 181 0,.ref 973,.none,.ref 974,.ref 975,.ref 976,.int 1541 0,.int 314 0,.str "/claim/cut.py" 1542]) #[]
def o978:O:=fun P=>.mk (.type "function") none (.func (.mk "answer_size" "Sweeps.answer_size" (kA (kM (top 31) 5)) (.stmts (kB (kM (top 31) 5))) (kS (kM (top 31) 5)) 3 [] .none .none .none (.str "treewells.gatherings" 1038) none (.ref 977) .none 0)) #[]
def o979:O:=fun P=>.mk (.type "tuple") none (.seq #[]) #[]
def o980:O:=fun P=>.mk .none none (.fields #[]) #[]
def o981:O:=fun P=>.mk (.type "tuple") none (.seq #[.str "self" 1547,.str "many" 1548,.str "roads" 1549,.str "asked" 1550,.str "rows" 1551]) #[]
def o982:O:=fun P=>.mk (.type "tuple") none (.seq #[]) #[]
def o983:O:=fun P=>.mk .none none (.func (.mk "paper_size" "Sweeps.paper_size" (kA (kM (top 31) 6)) (.stmts (kB (kM (top 31) 6))) (kS (kM (top 31) 6)) 0 [] .none .none .none .none none .none .none 0)) #[]
def o984:O:=fun P=>.mk (.type "code") none (.fields #[.str "paper_size" 1544,.str "Sweeps.paper_size" 1545,.str "/claim/cut.py" 1546,.int 317 0,.int 5 0,.int 0 0,.int 0 0,.int 3 0,.ref 979,.bool true,.int 181 0,.ref 980,.none,.ref 981,.ref 982,.ref 983,.int 1552 0,.int 317 0,.str "/claim/cut.py" 1553]) #[]
def o985:O:=fun P=>.mk (.type "function") none (.func (.mk "paper_size" "Sweeps.paper_size" (kA (kM (top 31) 6)) (.stmts (kB (kM (top 31) 6))) (kS (kM (top 31) 6)) 3 [] .none .none .none (.str "treewells.gatherings" 1038) none (.ref 984) .none 0)) #[]
def o986:O:=fun P=>.mk (.type "tuple") none (.seq #[]) #[]
def o987:O:=fun P=>.mk (.type "dict") none (.dict #[kE P "__module__" 1481 (.str "treewells.gatherings" 1038),kE P "__firstlineno__" 1485 (.int 297 1484),kE P "word" 1492 (.ref 943),kE P "fits" 1502 (.ref 950),kE P "answer" 1512 (.ref 957),kE P "paper" 1522 (.ref 964),kE P "worth" 1532 (.ref 971),kE P "answer_size" 1543 (.ref 978),kE P "paper_size" 1554 (.ref 985),kE P "__static_attributes__" 1555 (.ref 986),kE P "__doc__" 1556 .none] 2) #[]
def o988:O:=fun P=>.mk (.type "type") none (Data.cls (ClassData.mk "Sweeps" [.ref 866] [.ref 988,.ref 866,.ref 270,.type "object"] 987 "Sweeps" true [] [] false none false)) #[some (.ref 930),none,some (.str "Sweeps" 1474),some (.str "Sweeps" 1482),some (.builtin "object.__new__"),some (.bool true)]
def o989:O:=fun P=>.mk (.type "super") none (.fields #[.ref 988,.ref 988,.ref 988]) #[]
def o990:O:=fun P=>.mk (.type "builtin_function_or_method") none (.fields #[.builtin "object.__init_subclass__", .ref 988]) #[]
def o991:O:=fun P=>.mk (.type "tuple") none (.seq #[.ref 270]) #[]
def o992:O:=fun P=>.mk (.type "builtin_function_or_method") none (.fields #[.builtin "type.__prepare__", .type "type"]) #[]
def o993:O:=fun P=>.mk (.type "dict") none (.dict #[kE P "__module__" 1566 (.str "treewells.gatherings" 1038),kE P "__qualname__" 1568 (.str "Round" 1567),kE P "__firstlineno__" 1570 (.int 319 1569),kE P "word" 1577 (.ref 1004),kE P "fits" 1587 (.ref 1011),kE P "answer" 1597 (.ref 1018),kE P "paper" 1607 (.ref 1025),kE P "worth" 1617 (.ref 1032),kE P "is_closed" 1627 (.ref 1039),kE P "answer_size" 1638 (.ref 1046),kE P "paper_size" 1649 (.ref 1053),kE P "__static_attributes__" 1650 (.ref 1054)] 12) #[]
def o994:O:=fun P=>.mk (.type "tuple") none (.seq #[]) #[]
def o995:O:=fun P=>.mk .none none (.fields #[.int 321 0,.int 4 0,.ref 1003,.int 324 0,.int 4 0,.ref 1010,.int 327 0,.int 4 0,.ref 1017,.int 330 0,.int 4 0,.ref 1024,.int 333 0,.int 4 0,.ref 1031,.int 336 0,.int 4 0,.ref 1038,.int 339 0,.int 4 0,.ref 1045,.int 342 0,.int 4 0,.ref 1052]) #[]
def o996:O:=fun P=>.mk (.type "code") none (.fields #[.str "Round" 1561,.str "Round" 1562,.str "/claim/cut.py" 1563,.int 319 0,.int 0 0,.int 0 0,.int 0 0,.int 0 0,.ref 994,.bool false,.int 181 0,.ref 995,.none,.none,.none,.none,.int 1564 0,.int 319 0,.str "/claim/cut.py" 1565]) #[]
def o997:O:=fun P=>.mk (.type "frame") none Data.plain #[some (.ref 996),some (.ref 3),some (.ref 993),none,some (.str "treewells.gatherings" 1038),none,some (.ref 0)]
def o998:O:=fun P=>.mk (.type "tuple") none (.seq #[]) #[]
def o999:O:=fun P=>.mk .none none (.fields #[]) #[]
def fo:O:=fun P=>.mk (.type "tuple") none (.seq #[.str "self" 1574]) #[]
def fm:O:=fun P=>.mk (.type "tuple") none (.seq #[]) #[]
def o1002:O:=fun P=>.mk .none none (.func (.mk "word" "Round.word" (kA (kM (top 32) 0)) (.stmts (kB (kM (top 32) 0))) (kS (kM (top 32) 0)) 0 [] .none .none .none .none none .none .none 0)) #[]
def fj:O:=fun P=>.mk (.type "code") none (.fields #[.str "word" 1571,.str "Round.word" 1572,.str "/claim/cut.py" 1573,.int 321 0,.int 1 0,.int 0 0,.int 0 0,.int 3 0,.ref 998,.bool true,.int 181 0,.ref 999,.none,.ref 1000,.ref 1001,.ref 1002,.int 1575 0,.int 321 0,.str "/claim/cut.py" 1576]) #[]
def fi:O:=fun P=>.mk (.type "function") none (.func (.mk "word" "Round.word" (kA (kM (top 32) 0)) (.stmts (kB (kM (top 32) 0))) (kS (kM (top 32) 0)) 3 [] .none .none .none (.str "treewells.gatherings" 1038) none (.ref 1003) .none 0)) #[]
def fh:O:=fun P=>.mk (.type "tuple") none (.seq #[]) #[]
def o1006:O:=fun P=>.mk .none none (.fields #[]) #[]
def fg:O:=fun P=>.mk (.type "tuple") none (.seq #[.str "self" 1581,.str "many" 1582,.str "roads" 1583,.str "asked" 1584]) #[]
def ff:O:=fun P=>.mk (.type "tuple") none (.seq #[]) #[]
def o1009:O:=fun P=>.mk .none none (.func (.mk "fits" "Round.fits" (kA (kM (top 32) 1)) (.stmts (kB (kM (top 32) 1))) (kS (kM (top 32) 1)) 0 [] .none .none .none .none none .none .none 0)) #[]
def fe:O:=fun P=>.mk (.type "code") none (.fields #[.str "fits" 1578,.str "Round.fits" 1579,.str "/claim/cut.py" 1580,.int 324 0,.int 4 0,.int 0 0,.int 0 0,.int 3 0,.ref 1005,.bool true,.int 181 0,.ref 1006,.none,.ref 1007,.ref 1008,.ref 1009,.int 1585 0,.int 324 0,.str "/claim/cut.py" 1586]) #[]
def fc:O:=fun P=>.mk (.type "function") none (.func (.mk "fits" "Round.fits" (kA (kM (top 32) 1)) (.stmts (kB (kM (top 32) 1))) (kS (kM (top 32) 1)) 3 [] .none .none .none (.str "treewells.gatherings" 1038) none (.ref 1010) .none 0)) #[]
def fb:O:=fun P=>.mk (.type "tuple") none (.seq #[]) #[]
def o1013:O:=fun P=>.mk .none none (.fields #[]) #[]
def f9:O:=fun P=>.mk (.type "tuple") none (.seq #[.str "self" 1591,.str "many" 1592,.str "roads" 1593,.str "asked" 1594]) #[]
def f8:O:=fun P=>.mk (.type "tuple") none (.seq #[]) #[]
def o1016:O:=fun P=>.mk .none none (.func (.mk "answer" "Round.answer" (kA (kM (top 32) 2)) (.stmts (kB (kM (top 32) 2))) (kS (kM (top 32) 2)) 0 [] .none .none .none .none none .none .none 0)) #[]
def f7:O:=fun P=>.mk (.type "code") none (.fields #[.str "answer" 1588,.str "Round.answer" 1589,.str "/claim/cut.py" 1590,.int 327 0,.int 4 0,.int 0 0,.int 0 0,.int 3 0,.ref 1012,.bool true,.int 181 0,.ref 1013,.none,.ref 1014,.ref 1015,.ref 1016,.int 1595 0,.int 327 0,.str "/claim/cut.py" 1596]) #[]
def f6:O:=fun P=>.mk (.type "function") none (.func (.mk "answer" "Round.answer" (kA (kM (top 32) 2)) (.stmts (kB (kM (top 32) 2))) (kS (kM (top 32) 2)) 3 [] .none .none .none (.str "treewells.gatherings" 1038) none (.ref 1017) .none 0)) #[]
def eZ:O:=fun P=>.mk (.type "tuple") none (.seq #[]) #[]
def o1020:O:=fun P=>.mk .none none (.fields #[]) #[]
def eY:O:=fun P=>.mk (.type "tuple") none (.seq #[.str "self" 1601,.str "many" 1602,.str "roads" 1603,.str "asked" 1604]) #[]
def eX:O:=fun P=>.mk (.type "tuple") none (.seq #[]) #[]
def o1023:O:=fun P=>.mk .none none (.func (.mk "paper" "Round.paper" (kA (kM (top 32) 3)) (.stmts (kB (kM (top 32) 3))) (kS (kM (top 32) 3)) 0 [] .none .none .none .none none .none .none 0)) #[]
def eW:O:=fun P=>.mk (.type "code") none (.fields #[.str "paper" 1598,.str "Round.paper" 1599,.str "/claim/cut.py" 1600,.int 330 0,.int 4 0,.int 0 0,.int 0 0,.int 3 0,.ref 1019,.bool true,.int 181 0,.ref 1020,.none,.ref 1021,.ref 1022,.ref 1023,.int 1605 0,.int 330 0,.str "/claim/cut.py" 1606]) #[]
def eV:O:=fun P=>.mk (.type "function") none (.func (.mk "paper" "Round.paper" (kA (kM (top 32) 3)) (.stmts (kB (kM (top 32) 3))) (kS (kM (top 32) 3)) 3 [] .none .none .none (.str "treewells.gatherings" 1038) none (.ref 1024) .none 0)) #[]
def eU:O:=fun P=>.mk (.type "tuple") none (.seq #[]) #[]
def o1027:O:=fun P=>.mk .none none (.fields #[]) #[]
def eT:O:=fun P=>.mk (.type "tuple") none (.seq #[.str "self" 1611,.str "many" 1612,.str "roads" 1613,.str "asked" 1614]) #[]
def eS:O:=fun P=>.mk (.type "tuple") none (.seq #[]) #[]
def o1030:O:=fun P=>.mk .none none (.func (.mk "worth" "Round.worth" (kA (kM (top 32) 4)) (.stmts (kB (kM (top 32) 4))) (kS (kM (top 32) 4)) 0 [] .none .none .none .none none .none .none 0)) #[]
def eR:O:=fun P=>.mk (.type "code") none (.fields #[.str "worth" 1608,.str "Round.worth" 1609,.str "/claim/cut.py" 1610,.int 333 0,.int 4 0,.int 0 0,.int 0 0,.int 3 0,.ref 1026,.bool true,.int 181 0,.ref 1027,.none,.ref 1028,.ref 1029,.ref 1030,.int 1615 0,.int 333 0,.str "/claim/cut.py" 1616]) #[]
def eQ:O:=fun P=>.mk (.type "function") none (.func (.mk "worth" "Round.worth" (kA (kM (top 32) 4)) (.stmts (kB (kM (top 32) 4))) (kS (kM (top 32) 4)) 3 [] .none .none .none (.str "treewells.gatherings" 1038) none (.ref 1031) .none 0)) #[]
def eP:O:=fun P=>.mk (.type "tuple") none (.seq #[]) #[]
def o1034:O:=fun P=>.mk .none none (.fields #[]) #[]
def eO:O:=fun P=>.mk (.type "tuple") none (.seq #[.str "self" 1621,.str "many" 1622,.str "roads" 1623,.str "places" 1624]) #[]
def eN:O:=fun P=>.mk (.type "tuple") none (.seq #[]) #[]
def o1037:O:=fun P=>.mk .none none (.func (.mk "is_closed" "Round.is_closed" (kA (kM (top 32) 5)) (.stmts (kB (kM (top 32) 5))) (kS (kM (top 32) 5)) 0 [] .none .none .none .none none .none .none 0)) #[]
def eM:O:=fun P=>.mk (.type "code") none (.fields #[.str "is_closed" 1618,.str "Round.is_closed" 1619,.str "/claim/cut.py" 1620,.int 336 0,.int 4 0,.int 0 0,.int 0 0,.int 3 0,.ref 1033,.bool true,.int 181 0,.ref 1034,.none,.ref 1035,.ref 1036,.ref 1037,.int 1625 0,.int 336 0,.str "/claim/cut.py" 1626]) #[]
def eL:O:=fun P=>.mk (.type "function") none (.func (.mk "is_closed" "Round.is_closed" (kA (kM (top 32) 5)) (.stmts (kB (kM (top 32) 5))) (kS (kM (top 32) 5)) 3 [] .none .none .none (.str "treewells.gatherings" 1038) none (.ref 1038) .none 0)) #[]
def eK:O:=fun P=>.mk (.type "tuple") none (.seq #[]) #[]
def o1041:O:=fun P=>.mk .none none (.fields #[]) #[]
def eJ:O:=fun P=>.mk (.type "tuple") none (.seq #[.str "self" 1631,.str "many" 1632,.str "roads" 1633,.str "asked" 1634,.str "rows" 1635]) #[]
def eI:O:=fun P=>.mk (.type "tuple") none (.seq #[]) #[]
def o1044:O:=fun P=>.mk .none none (.func (.mk "answer_size" "Round.answer_size" (kA (kM (top 32) 6)) (.stmts (kB (kM (top 32) 6))) (kS (kM (top 32) 6)) 0 [] .none .none .none .none none .none .none 0)) #[]
def eH:O:=fun P=>.mk (.type "code") none (.fields #[.str "answer_size" 1628,.str "Round.answer_size" 1629,.str "/claim/cut.py" 1630,.int 339 0,.int 5 0,.int 0 0,.int 0 0,.int 3 0,.ref 1040,.bool true,.int 181 0,.ref 1041,.none,.ref 1042,.ref 1043,.ref 1044,.int 1636 0,.int 339 0,.str "/claim/cut.py" 1637]) #[]
def eG:O:=fun P=>.mk (.type "function") none (.func (.mk "answer_size" "Round.answer_size" (kA (kM (top 32) 6)) (.stmts (kB (kM (top 32) 6))) (kS (kM (top 32) 6)) 3 [] .none .none .none (.str "treewells.gatherings" 1038) none (.ref 1045) .none 0)) #[]
def eF:O:=fun P=>.mk (.type "tuple") none (.seq #[]) #[]
def o1048:O:=fun P=>.mk .none none (.fields #[]) #[]
def eE:O:=fun P=>.mk (.type "tuple") none (.seq #[.str "self" 1642,.str "many" 1643,.str "roads" 1644,.str "asked" 1645,.str "rows" 1646]) #[]
def eD:O:=fun P=>.mk (.type "tuple") none (.seq #[]) #[]
def o1051:O:=fun P=>.mk .none none (.func (.mk "paper_size" "Round.paper_size" (kA (kM (top 32) 7)) (.stmts (kB (kM (top 32) 7))) (kS (kM (top 32) 7)) 0 [] .none .none .none .none none .none .none 0)) #[]
def eC:O:=fun P=>.mk (.type "code") none (.fields #[.str "paper_size" 1639,.str "Round.paper_size" 1640,.str "/claim/cut.py" 1641,.int 342 0,.int 5 0,.int 0 0,.int 0 0,.int 3 0,.ref 1047,.bool true,.int 181 0,.ref 1048,.none,.ref 1049,.ref 1050,.ref 1051,.int 1647 0,.int 342 0,.str "/claim/cut.py" 1648]) #[]
def eB:O:=fun P=>.mk (.type "function") none (.func (.mk "paper_size" "Round.paper_size" (kA (kM (top 32) 7)) (.stmts (kB (kM (top 32) 7))) (kS (kM (top 32) 7)) 3 [] .none .none .none (.str "treewells.gatherings" 1038) none (.ref 1052) .none 0)) #[]
def eA:O:=fun P=>.mk (.type "tuple") none (.seq #[]) #[]
def ez:O:=fun P=>.mk (.type "dict") none (.dict #[kE P "__module__" 1566 (.str "treewells.gatherings" 1038),kE P "__firstlineno__" 1570 (.int 319 1569),kE P "word" 1577 (.ref 1004),kE P "fits" 1587 (.ref 1011),kE P "answer" 1597 (.ref 1018),kE P "paper" 1607 (.ref 1025),kE P "worth" 1617 (.ref 1032),kE P "is_closed" 1627 (.ref 1039),kE P "answer_size" 1638 (.ref 1046),kE P "paper_size" 1649 (.ref 1053),kE P "__static_attributes__" 1650 (.ref 1054),kE P "__doc__" 1651 .none] 2) #[]
def ey:O:=fun P=>.mk (.type "type") none (Data.cls (ClassData.mk "Round" [.ref 270] [.ref 1056,.ref 270,.type "object"] 1055 "Round" true [] [] false none false)) #[some (.ref 991),none,some (.str "Round" 1559),some (.str "Round" 1567),some (.builtin "object.__new__"),some (.bool true)]
def o1057:O:=fun P=>.mk (.type "super") none (.fields #[.ref 1056,.ref 1056,.ref 1056]) #[]
def o1058:O:=fun P=>.mk (.type "builtin_function_or_method") none (.fields #[.builtin "object.__init_subclass__", .ref 1056]) #[]
def eu:O:=fun P=>.mk (.type "tuple") none (.seq #[]) #[]
def o1060:O:=fun P=>.mk .none none (.fields #[]) #[]
def et:O:=fun P=>.mk (.type "tuple") none (.seq #[]) #[]
def er:O:=fun P=>.mk (.type "tuple") none (.seq #[]) #[]
def o1063:O:=fun P=>.mk .none none (.func (.mk "kinds" "kinds" (kA (top 34)) (.stmts (kB (top 34))) (kS (top 34)) 0 [] .none .none .none .none none .none .none 0)) #[]
def eo:O:=fun P=>.mk (.type "code") none (.fields #[.str "kinds" 1656,.str "kinds" 1657,.str "/claim/cut.py" 1658,.int 345 0,.int 0 0,.int 0 0,.int 0 0,.int 3 0,.ref 1059,.bool true,.int 181 0,.ref 1060,.none,.ref 1061,.ref 1062,.ref 1063,.int 1659 0,.int 345 0,.str "/claim/cut.py" 1660]) #[]
def en:O:=fun P=>.mk (.type "function") none (.func (.mk "kinds" "kinds" (kA (top 34)) (.stmts (kB (top 34))) (kS (top 34)) 3 [] .none .none .none (.str "treewells.kinds" 1654) none (.ref 1064) .none 0)) #[]
def em:O:=fun P=>.mk (.type "tuple") none (.seq #[]) #[]
def o1067:O:=fun P=>.mk .none none (.fields #[]) #[]
def el:O:=fun P=>.mk (.type "tuple") none (.seq #[.str "word" 1665,.str "kind" 1666]) #[]
def ek:O:=fun P=>.mk (.type "tuple") none (.seq #[]) #[]
def o1070:O:=fun P=>.mk .none none (.func (.mk "kind_of" "kind_of" (kA (top 35)) (.stmts (kB (top 35))) (kS (top 35)) 0 [] .none .none .none .none none .none .none 0)) #[]
def eh:O:=fun P=>.mk (.type "code") none (.fields #[.str "kind_of" 1662,.str "kind_of" 1663,.str "/claim/cut.py" 1664,.int 347 0,.int 1 0,.int 0 0,.int 0 0,.int 3 0,.ref 1066,.bool true,.int 181 0,.ref 1067,.none,.ref 1068,.ref 1069,.ref 1070,.int 1667 0,.int 347 0,.str "/claim/cut.py" 1668]) #[]
def eg:O:=fun P=>.mk (.type "function") none (.func (.mk "kind_of" "kind_of" (kA (top 35)) (.stmts (kB (top 35))) (kS (top 35)) 3 [] .none .none .none (.str "treewells.kinds" 1654) none (.ref 1071) .none 0)) #[]
def ef:O:=fun P=>.mk (.type "tuple") none (.seq #[]) #[]
def o1074:O:=fun P=>.mk .none none (.fields #[]) #[]
def ee:O:=fun P=>.mk (.type "tuple") none (.seq #[.str "_law_number" 1675,.str "_law_k" 1676,.str "_law_mixed" 1677]) #[]
def ed:O:=fun P=>.mk (.type "tuple") none (.seq #[]) #[]
def o1077:O:=fun P=>.mk .none none (.func (.mk "_law_mix" "_law_mix" (kA (top 37)) (.stmts (kB (top 37))) (kS (top 37)) 0 [] .none .none .none .none none .none .none 0)) #[]
def ec:O:=fun P=>.mk (.type "code") none (.fields #[.str "_law_mix" 1672,.str "_law_mix" 1673,.str "/claim/cut.py" 1674,.int 353 0,.int 2 0,.int 0 0,.int 0 0,.int 3 0,.ref 1073,.bool true,.int 181 0,.ref 1074,.none,.ref 1075,.ref 1076,.ref 1077,.int 1678 0,.int 353 0,.str "/claim/cut.py" 1679]) #[]
def e9:O:=fun P=>.mk (.type "function") none (.func (.mk "_law_mix" "_law_mix" (kA (top 37)) (.stmts (kB (top 37))) (kS (top 37)) 3 [] .none .none .none (.str "law_treewells_k81_the_eleven_kinds" 1670) none (.ref 1078) .none 0)) #[]
def e8:O:=fun P=>.mk (.type "tuple") none (.seq #[]) #[]
def o1081:O:=fun P=>.mk .none none (.fields #[]) #[]
def e7:O:=fun P=>.mk (.type "tuple") none (.seq #[.str "_law_first" 1684]) #[]
def e6:O:=fun P=>.mk (.type "tuple") none (.seq #[]) #[]
def o1084:O:=fun P=>.mk .none none (.func (.mk "_law_words" "_law_words" (kA (top 38)) (.stmts (kB (top 38))) (kS (top 38)) 0 [] .none .none .none .none none .none .none 0)) #[]
def e5:O:=fun P=>.mk (.type "code") none (.fields #[.str "_law_words" 1681,.str "_law_words" 1682,.str "/claim/cut.py" 1683,.int 356 0,.int 0 0,.int 0 0,.int 0 0,.int 3 0,.ref 1080,.bool true,.int 181 0,.ref 1081,.none,.ref 1082,.ref 1083,.ref 1084,.int 1685 0,.int 356 0,.str "/claim/cut.py" 1686]) #[]
def e4:O:=fun P=>.mk (.type "function") none (.func (.mk "_law_words" "_law_words" (kA (top 38)) (.stmts (kB (top 38))) (kS (top 38)) 3 [] .none .none .none (.str "law_treewells_k81_the_eleven_kinds" 1670) none (.ref 1085) .none 0)) #[]
def dZ:O:=fun P=>.mk (.type "tuple") none (.seq #[]) #[]
def o1088:O:=fun P=>.mk .none none (.fields #[]) #[]
def o1089:O:=fun P=>.mk .none none (.func (.mk "_law_word" "_law_word" (kA (top 39)) (.stmts (kB (top 39))) (kS (top 39)) 0 [] .none .none .none .none none .none .none 0)) #[]
def dY:O:=fun P=>.mk (.type "code") none (.fields #[.str "_law_word" 1688,.str "_law_word" 1689,.str "/claim/cut.py" 1690,.int 359 0,.int 1 0,.int 0 0,.int 0 0,.int 3 0,.ref 1087,.bool true,.int 181 0,.ref 1088,.none,.none,.none,.ref 1089,.int 1691 0,.int 359 0,.str "/claim/cut.py" 1692]) #[]
def dX:O:=fun P=>.mk (.type "function") none (.func (.mk "_law_word" "_law_word" (kA (top 39)) (.stmts (kB (top 39))) (kS (top 39)) 3 [] .none .none .none (.str "law_treewells_k81_the_eleven_kinds" 1670) none (.ref 1090) .none 0)) #[]
def dW:O:=fun P=>.mk (.type "tuple") none (.seq #[]) #[]
def o1093:O:=fun P=>.mk .none none (.fields #[]) #[]
def dU:O:=fun P=>.mk (.type "tuple") none (.seq #[.str "_law_kind" 1697,.str "_law_found" 1698]) #[]
def dS:O:=fun P=>.mk (.type "tuple") none (.seq #[]) #[]
def o1096:O:=fun P=>.mk .none none (.func (.mk "_law_marks" "_law_marks" (kA (top 40)) (.stmts (kB (top 40))) (kS (top 40)) 0 [] .none .none .none .none none .none .none 0)) #[]
def dR:O:=fun P=>.mk (.type "code") none (.fields #[.str "_law_marks" 1694,.str "_law_marks" 1695,.str "/claim/cut.py" 1696,.int 378 0,.int 1 0,.int 0 0,.int 0 0,.int 3 0,.ref 1092,.bool true,.int 181 0,.ref 1093,.none,.ref 1094,.ref 1095,.ref 1096,.int 1699 0,.int 378 0,.str "/claim/cut.py" 1700]) #[]
def dQ:O:=fun P=>.mk (.type "function") none (.func (.mk "_law_marks" "_law_marks" (kA (top 40)) (.stmts (kB (top 40))) (kS (top 40)) 3 [] .none .none .none (.str "law_treewells_k81_the_eleven_kinds" 1670) none (.ref 1097) .none 0)) #[]
def dP:O:=fun P=>.mk (.type "tuple") none (.seq #[]) #[]
def o1100:O:=fun P=>.mk .none none (.fields #[]) #[]
def o1101:O:=fun P=>.mk .none none (.func (.mk "_law_is_kind" "_law_is_kind" (kA (top 41)) (.stmts (kB (top 41))) (kS (top 41)) 0 [] .none .none .none .none none .none .none 0)) #[]
def dO:O:=fun P=>.mk (.type "code") none (.fields #[.str "_law_is_kind" 1702,.str "_law_is_kind" 1703,.str "/claim/cut.py" 1704,.int 384 0,.int 2 0,.int 0 0,.int 0 0,.int 3 0,.ref 1099,.bool true,.int 181 0,.ref 1100,.none,.none,.none,.ref 1101,.int 1705 0,.int 384 0,.str "/claim/cut.py" 1706]) #[]
def dN:O:=fun P=>.mk (.type "function") none (.func (.mk "_law_is_kind" "_law_is_kind" (kA (top 41)) (.stmts (kB (top 41))) (kS (top 41)) 3 [] .none .none .none (.str "law_treewells_k81_the_eleven_kinds" 1670) none (.ref 1102) .none 0)) #[]
def dM:O:=fun P=>.mk (.type "tuple") none (.seq #[]) #[]
def o1105:O:=fun P=>.mk .none none (.fields #[]) #[]
def dL:O:=fun P=>.mk (.type "tuple") none (.seq #[.str "_law_word_here" 1711,.str "_law_caught" 1712,.str "e" 1713]) #[]
def dJ:O:=fun P=>.mk (.type "tuple") none (.seq #[]) #[]
def o1108:O:=fun P=>.mk .none none (.func (.mk "_law_refused" "_law_refused" (kA (top 42)) (.stmts (kB (top 42))) (kS (top 42)) 0 [] .none .none .none .none none .none .none 0)) #[]
def dI:O:=fun P=>.mk (.type "code") none (.fields #[.str "_law_refused" 1708,.str "_law_refused" 1709,.str "/claim/cut.py" 1710,.int 391 0,.int 1 0,.int 0 0,.int 0 0,.int 3 0,.ref 1104,.bool true,.int 181 0,.ref 1105,.none,.ref 1106,.ref 1107,.ref 1108,.int 1714 0,.int 391 0,.str "/claim/cut.py" 1715]) #[]
def dH:O:=fun P=>.mk (.type "function") none (.func (.mk "_law_refused" "_law_refused" (kA (top 42)) (.stmts (kB (top 42))) (kS (top 42)) 3 [] .none .none .none (.str "law_treewells_k81_the_eleven_kinds" 1670) none (.ref 1109) .none 0)) #[]
def dG:O:=fun P=>.mk (.type "tuple") none (.seq #[]) #[]
def o1112:O:=fun P=>.mk .none none (.fields #[]) #[]
def dF:O:=fun P=>.mk (.type "tuple") none (.seq #[.str "_law_script" 1720,.str "_law_made" 1721,.str "_law_k" 1722,.str "_law_found" 1723,.str "_law_at" 1724,.str "_law_cell" 1725,.str "_law_word_here" 1726]) #[]
def dE:O:=fun P=>.mk (.type "tuple") none (.seq #[]) #[]
def o1115:O:=fun P=>.mk .none none (.func (.mk "law" "law" (kA (top 43)) (.stmts (kB (top 43))) (kS (top 43)) 0 [] .none .none .none .none none .none .none 0)) #[]
def dD:O:=fun P=>.mk (.type "code") none (.fields #[.str "law" 1717,.str "law" 1718,.str "/claim/cut.py" 1719,.int 402 0,.int 1 0,.int 0 0,.int 0 0,.int 3 0,.ref 1111,.bool true,.int 181 0,.ref 1112,.none,.ref 1113,.ref 1114,.ref 1115,.int 1727 0,.int 402 0,.str "/claim/cut.py" 1728]) #[]
def dC:O:=fun P=>.mk (.type "function") none (.func (.mk "law" "law" (kA (top 43)) (.stmts (kB (top 43))) (kS (top 43)) 3 [] .none .none .none (.str "law_treewells_k81_the_eleven_kinds" 1670) none (.ref 1116) .none 0)) #[]
def u3:O:=fun P=>.mk (.type "dict") none (.dict #[kE P "__name__" 165 (.str "treewells.questions" 422),kE P "__doc__" 166 .none,kE P "__package__" 167 .none,kE P "__loader__" 168 (.builtin "__main__.__loader__#opaque"),kE P "__spec__" 169 .none,kE P "__annotations__" 170 (.ref 6),kE P "__builtins__" 171 (.ref 4),kE P "__file__" 173 (.str "/claim/cut.py" 172),kE P "__cached__" 174 .none,kE P "_wall" 193 (.ref 21),kE P "TreeError" 213 (.ref 31),kE P "NoTree" 229 (.ref 44),kE P "NoPlace" 245 (.ref 56),kE P "NoRoad" 261 (.ref 68),kE P "NoSpot" 277 (.ref 80),kE P "NoSite" 293 (.ref 92),kE P "NoYard" 309 (.ref 104),kE P "NoWorth" 325 (.ref 116),kE P "NoGift" 341 (.ref 128),kE P "NoText" 357 (.ref 140),kE P "NoKind" 373 (.ref 152),kE P "NoQuestion" 389 (.ref 164),kE P "NoRow" 405 (.ref 176),kE P "NoName" 421 (.ref 188),kE P "Question" 547 (.ref 270),kE P "Middle" 632 (.ref 333),kE P "Balance" 717 (.ref 394),kE P "Digging" 769 (.ref 427)] 28) #[]
def u12:O:=fun P=>.mk .none none (.fields #[.int 1 0,.int 0 0,.ref 20,.int 5 0,.int 0 0,.ref 27,.int 7 0,.int 0 0,.ref 40,.int 9 0,.int 0 0,.ref 52,.int 11 0,.int 0 0,.ref 64,.int 13 0,.int 0 0,.ref 76,.int 15 0,.int 0 0,.ref 88,.int 17 0,.int 0 0,.ref 100,.int 19 0,.int 0 0,.ref 112,.int 21 0,.int 0 0,.ref 124,.int 23 0,.int 0 0,.ref 136,.int 25 0,.int 0 0,.ref 148,.int 27 0,.int 0 0,.ref 160,.int 29 0,.int 0 0,.ref 172,.int 31 0,.int 0 0,.ref 184,.int 34 0,.int 0 0,.ref 196,.int 65 0,.int 0 0,.ref 280,.int 87 0,.int 0 0,.ref 341,.int 109 0,.int 0 0,.ref 402]) #[]
def u270:O:=fun P=>.mk (.type "type") none (Data.cls (ClassData.mk "Question" [.type "object"] [.ref 270,.type "object"] 269 "Question" true [] [.ref 333,.ref 394,.ref 427] false none false)) #[none,none,some (.str "Question" 424),some (.str "Question" 432),some (.builtin "object.__new__"),some (.bool true)]
def u427:O:=fun P=>.mk (.type "type") none (Data.cls (ClassData.mk "Digging" [.ref 270] [.ref 427,.ref 270,.type "object"] 426 "Digging" true [] [] false none false)) #[some (.ref 397),none,some (.str "Digging" 718),some (.str "Digging" 726),some (.builtin "object.__new__"),some (.bool true)]
def t3:O:=fun P=>.mk (.type "dict") none (.dict #[kE P "__name__" 165 (.str "__main__" 164),kE P "__doc__" 166 .none,kE P "__package__" 167 .none,kE P "__loader__" 168 (.builtin "__main__.__loader__#opaque"),kE P "__spec__" 169 .none,kE P "__annotations__" 170 (.ref 6),kE P "__builtins__" 171 (.ref 4),kE P "__file__" 173 (.str "/claim/cut.py" 172),kE P "__cached__" 174 .none] 9) #[]
def t12:O:=fun P=>.mk .none none (.fields #[]) #[]
def kQ0 (P:Params):List Obj:=o0 P::o1 P::o2 P::o3 P::o4 P::o5 P::o6 P::o7 P::o8 P::o9 P::o10 P::o11 P::o12 P::o13 P::o14 P::o15 P::o16 P::o17 P::o18 P::o19 P::o20 P::o21 P::o22 P::o23 P::o24 P::o25 P::o26 P::o27 P::o28 P::o29 P::o30 P::o31 P::o32 P::o33 P::o34 P::o35 P::o36 P::o37 P::o38 P::o39 P::o40 P::o41 P::o42 P::o43 P::o44 P::o45 P::o46 P::o47 P::o48 P::o49 P::o50 P::o51 P::o52 P::o53 P::o54 P::o55 P::o56 P::o57 P::o58 P::o59 P::[]
def kQ1 (P:Params):List Obj:=o60 P::o61 P::o62 P::o63 P::o64 P::o65 P::o66 P::o67 P::o68 P::o69 P::o70 P::o71 P::o72 P::o73 P::o74 P::o75 P::o76 P::o77 P::o78 P::o79 P::o80 P::o81 P::o82 P::o83 P::o84 P::o85 P::o86 P::o87 P::o88 P::o89 P::o90 P::o91 P::o92 P::o93 P::o94 P::o95 P::o96 P::o97 P::o98 P::o99 P::o100 P::o101 P::o102 P::o103 P::o104 P::o105 P::o106 P::o107 P::o108 P::o109 P::o110 P::o111 P::o112 P::o113 P::o114 P::o115 P::o116 P::o117 P::o118 P::o119 P::[]
def kQ2 (P:Params):List Obj:=o120 P::o121 P::o122 P::o123 P::o124 P::o125 P::o126 P::o127 P::o128 P::o129 P::o130 P::o131 P::o132 P::o133 P::o134 P::o135 P::o136 P::o137 P::o138 P::o139 P::o140 P::o141 P::o142 P::o143 P::o144 P::o145 P::o146 P::o147 P::o148 P::o149 P::o150 P::o151 P::o152 P::o153 P::o154 P::o155 P::o156 P::o157 P::o158 P::o159 P::o160 P::o161 P::o162 P::o163 P::o164 P::o165 P::o166 P::o167 P::o168 P::o169 P::o170 P::o171 P::o172 P::o173 P::o174 P::o175 P::o176 P::o177 P::o178 P::o179 P::[]
def kQ3 (P:Params):List Obj:=o180 P::o181 P::o182 P::o183 P::o184 P::o185 P::o186 P::o187 P::o188 P::o189 P::o190 P::o191 P::o192 P::o193 P::o194 P::o195 P::o196 P::o197 P::o198 P::o199 P::o200 P::o201 P::o202 P::o203 P::o204 P::o205 P::o206 P::o207 P::o208 P::o209 P::o210 P::o211 P::o212 P::o213 P::o214 P::o215 P::o216 P::o217 P::o218 P::o219 P::o220 P::o221 P::o222 P::o223 P::o224 P::o225 P::o226 P::o227 P::o228 P::o229 P::o230 P::o231 P::o232 P::o233 P::o234 P::o235 P::o236 P::o237 P::o238 P::o239 P::[]
def kQ4 (P:Params):List Obj:=o240 P::o241 P::o242 P::o243 P::o244 P::o245 P::o246 P::o247 P::o248 P::o249 P::o250 P::o251 P::o252 P::o253 P::o254 P::o255 P::o256 P::o257 P::o258 P::o259 P::o260 P::o261 P::o262 P::o263 P::o264 P::o265 P::o266 P::o267 P::o268 P::o269 P::o270 P::o271 P::o272 P::o273 P::o274 P::o275 P::o276 P::o277 P::o278 P::o279 P::o280 P::o281 P::o282 P::o283 P::o284 P::o285 P::o286 P::o287 P::o288 P::o289 P::o290 P::o291 P::o292 P::o293 P::o294 P::o295 P::o296 P::o297 P::o298 P::o299 P::[]
def kQ5 (P:Params):List Obj:=o300 P::o301 P::o302 P::o303 P::o304 P::o305 P::o306 P::o307 P::o308 P::o309 P::o310 P::o311 P::o312 P::o313 P::o314 P::o315 P::o316 P::o317 P::o318 P::o319 P::o320 P::o321 P::o322 P::o323 P::o324 P::o325 P::o326 P::o327 P::o328 P::o329 P::o330 P::o331 P::o332 P::o333 P::o334 P::o335 P::o336 P::o337 P::o338 P::o339 P::o340 P::o341 P::o342 P::o343 P::o344 P::o345 P::o346 P::o347 P::o348 P::o349 P::o350 P::o351 P::o352 P::o353 P::o354 P::o355 P::o356 P::o357 P::o358 P::o359 P::[]
def kQ6 (P:Params):List Obj:=o360 P::o361 P::o362 P::o363 P::o364 P::o365 P::o366 P::o367 P::o368 P::o369 P::o370 P::o371 P::o372 P::o373 P::o374 P::o375 P::o376 P::o377 P::o378 P::o379 P::o380 P::o381 P::o382 P::o383 P::o384 P::o385 P::o386 P::o387 P::o388 P::o389 P::o390 P::o391 P::o392 P::o393 P::o394 P::o395 P::o396 P::o397 P::o398 P::o399 P::o400 P::o401 P::o402 P::o403 P::o404 P::o405 P::o406 P::o407 P::o408 P::o409 P::o410 P::o411 P::o412 P::o413 P::o414 P::o415 P::o416 P::o417 P::o418 P::o419 P::[]
def kQ7 (P:Params):List Obj:=o420 P::o421 P::o422 P::o423 P::o424 P::o425 P::o426 P::o427 P::o428 P::o429 P::o430 P::o431 P::o432 P::o433 P::o434 P::o435 P::o436 P::o437 P::o438 P::o439 P::o440 P::o441 P::o442 P::o443 P::o444 P::o445 P::o446 P::o447 P::o448 P::o449 P::o450 P::o451 P::o452 P::o453 P::o454 P::o455 P::o456 P::o457 P::o458 P::o459 P::o460 P::o461 P::o462 P::o463 P::o464 P::o465 P::o466 P::o467 P::o468 P::o469 P::o470 P::o471 P::o472 P::o473 P::o474 P::o475 P::o476 P::o477 P::o478 P::o479 P::[]
def kQ8 (P:Params):List Obj:=o480 P::o481 P::o482 P::o483 P::o484 P::o485 P::o486 P::o487 P::o488 P::o489 P::o490 P::o491 P::o492 P::o493 P::o494 P::o495 P::o496 P::o497 P::o498 P::o499 P::o500 P::o501 P::o502 P::o503 P::o504 P::o505 P::o506 P::o507 P::o508 P::o509 P::o510 P::o511 P::o512 P::o513 P::o514 P::o515 P::o516 P::o517 P::o518 P::o519 P::o520 P::o521 P::o522 P::o523 P::o524 P::o525 P::o526 P::o527 P::o528 P::o529 P::o530 P::o531 P::o532 P::o533 P::o534 P::o535 P::o536 P::o537 P::o538 P::o539 P::[]
def kQ9 (P:Params):List Obj:=o540 P::o541 P::o542 P::o543 P::o544 P::o545 P::o546 P::o547 P::o548 P::o549 P::o550 P::o551 P::o552 P::o553 P::o554 P::o555 P::o556 P::o557 P::o558 P::o559 P::o560 P::o561 P::o562 P::o563 P::o564 P::o565 P::o566 P::o567 P::o568 P::o569 P::o570 P::o571 P::o572 P::o573 P::o574 P::o575 P::o576 P::o577 P::o578 P::o579 P::o580 P::o581 P::o582 P::o583 P::o584 P::o585 P::o586 P::o587 P::o588 P::o589 P::o590 P::o591 P::o592 P::o593 P::o594 P::o595 P::o596 P::o597 P::o598 P::o599 P::[]
def kQ10 (P:Params):List Obj:=o600 P::o601 P::o602 P::o603 P::o604 P::o605 P::o606 P::o607 P::o608 P::o609 P::o610 P::o611 P::o612 P::o613 P::o614 P::o615 P::o616 P::o617 P::o618 P::o619 P::o620 P::o621 P::o622 P::o623 P::o624 P::o625 P::o626 P::o627 P::o628 P::o629 P::o630 P::o631 P::o632 P::o633 P::o634 P::o635 P::o636 P::o637 P::o638 P::o639 P::o640 P::o641 P::o642 P::o643 P::o644 P::o645 P::o646 P::o647 P::o648 P::o649 P::o650 P::o651 P::o652 P::o653 P::o654 P::o655 P::o656 P::o657 P::o658 P::o659 P::[]
def kQ11 (P:Params):List Obj:=o660 P::o661 P::o662 P::o663 P::o664 P::o665 P::o666 P::o667 P::o668 P::o669 P::o670 P::o671 P::o672 P::o673 P::o674 P::o675 P::o676 P::o677 P::o678 P::o679 P::o680 P::o681 P::o682 P::o683 P::o684 P::o685 P::o686 P::o687 P::o688 P::o689 P::o690 P::o691 P::o692 P::o693 P::o694 P::o695 P::o696 P::o697 P::o698 P::o699 P::o700 P::o701 P::o702 P::o703 P::o704 P::o705 P::o706 P::o707 P::o708 P::o709 P::o710 P::o711 P::o712 P::o713 P::o714 P::o715 P::o716 P::o717 P::o718 P::o719 P::[]
def kQ12 (P:Params):List Obj:=o720 P::o721 P::o722 P::o723 P::o724 P::o725 P::o726 P::o727 P::o728 P::o729 P::o730 P::o731 P::o732 P::o733 P::o734 P::o735 P::o736 P::o737 P::o738 P::o739 P::o740 P::o741 P::o742 P::o743 P::o744 P::o745 P::o746 P::o747 P::o748 P::o749 P::o750 P::o751 P::o752 P::o753 P::o754 P::o755 P::o756 P::o757 P::o758 P::o759 P::o760 P::o761 P::o762 P::o763 P::o764 P::o765 P::o766 P::o767 P::o768 P::o769 P::o770 P::o771 P::o772 P::o773 P::o774 P::o775 P::o776 P::o777 P::o778 P::o779 P::[]
def kQ13 (P:Params):List Obj:=o780 P::o781 P::o782 P::o783 P::o784 P::o785 P::o786 P::o787 P::o788 P::o789 P::o790 P::o791 P::o792 P::o793 P::o794 P::o795 P::o796 P::o797 P::o798 P::o799 P::o800 P::o801 P::o802 P::o803 P::o804 P::o805 P::o806 P::o807 P::o808 P::o809 P::o810 P::o811 P::o812 P::o813 P::o814 P::o815 P::o816 P::o817 P::o818 P::o819 P::o820 P::o821 P::o822 P::o823 P::o824 P::o825 P::o826 P::o827 P::o828 P::o829 P::o830 P::o831 P::o832 P::o833 P::o834 P::o835 P::o836 P::o837 P::o838 P::o839 P::[]
def kQ14 (P:Params):List Obj:=o840 P::o841 P::o842 P::o843 P::o844 P::o845 P::o846 P::o847 P::o848 P::o849 P::o850 P::o851 P::o852 P::o853 P::o854 P::o855 P::o856 P::o857 P::o858 P::o859 P::o860 P::o861 P::o862 P::o863 P::o864 P::o865 P::o866 P::o867 P::o868 P::o869 P::o870 P::o871 P::o872 P::o873 P::o874 P::o875 P::o876 P::o877 P::o878 P::o879 P::o880 P::o881 P::o882 P::o883 P::o884 P::o885 P::o886 P::o887 P::o888 P::o889 P::o890 P::o891 P::o892 P::o893 P::o894 P::o895 P::o896 P::o897 P::o898 P::o899 P::[]
def kQ15 (P:Params):List Obj:=o900 P::o901 P::o902 P::o903 P::o904 P::o905 P::o906 P::o907 P::o908 P::o909 P::o910 P::o911 P::o912 P::o913 P::o914 P::o915 P::o916 P::o917 P::o918 P::o919 P::o920 P::o921 P::o922 P::o923 P::o924 P::o925 P::o926 P::o927 P::o928 P::o929 P::o930 P::o931 P::o932 P::o933 P::o934 P::o935 P::o936 P::o937 P::o938 P::o939 P::o940 P::o941 P::o942 P::o943 P::o944 P::o945 P::o946 P::o947 P::o948 P::o949 P::o950 P::o951 P::o952 P::o953 P::o954 P::o955 P::o956 P::o957 P::o958 P::o959 P::[]
def kQ16 (P:Params):List Obj:=o960 P::o961 P::o962 P::o963 P::o964 P::o965 P::o966 P::o967 P::o968 P::o969 P::o970 P::o971 P::o972 P::o973 P::o974 P::o975 P::o976 P::o977 P::o978 P::o979 P::o980 P::o981 P::o982 P::o983 P::o984 P::o985 P::o986 P::o987 P::o988 P::o989 P::o990 P::o991 P::o992 P::o993 P::o994 P::o995 P::o996 P::o997 P::o998 P::o999 P::fo P::fm P::o1002 P::fj P::fi P::fh P::o1006 P::fg P::ff P::o1009 P::fe P::fc P::fb P::o1013 P::f9 P::f8 P::o1016 P::f7 P::f6 P::eZ P::[]
def kQ17 (P:Params):List Obj:=o1020 P::eY P::eX P::o1023 P::eW P::eV P::eU P::o1027 P::eT P::eS P::o1030 P::eR P::eQ P::eP P::o1034 P::eO P::eN P::o1037 P::eM P::eL P::eK P::o1041 P::eJ P::eI P::o1044 P::eH P::eG P::eF P::o1048 P::eE P::eD P::o1051 P::eC P::eB P::eA P::ez P::ey P::o1057 P::o1058 P::eu P::o1060 P::et P::er P::o1063 P::eo P::en P::em P::o1067 P::el P::ek P::o1070 P::eh P::eg P::ef P::o1074 P::ee P::ed P::o1077 P::ec P::e9 P::[]
def kQ18 (P:Params):List Obj:=e8 P::o1081 P::e7 P::e6 P::o1084 P::e5 P::e4 P::dZ P::o1088 P::o1089 P::dY P::dX P::dW P::o1093 P::dU P::dS P::o1096 P::dR P::dQ P::dP P::o1100 P::o1101 P::dO P::dN P::dM P::o1105 P::dL P::dJ P::o1108 P::dI P::dH P::dG P::o1112 P::dF P::dE P::o1115 P::dD P::dC P::[]
def kO2 (P:Params):List Obj:=kQ0 P++kQ1 P++kQ2 P++kQ3 P++kQ4 P++kQ5 P++kQ6 P++kQ7 P++kQ8 P++kQ9 P++kQ10 P++kQ11 P++kQ12 P++kQ13 P++kQ14 P++kQ15 P++kQ16 P++kQ17 P++kQ18 P
def kO1 (P:Params):List Obj:=(((((kO2 P).take 430).set 3 (u3 P)).set 12 (u12 P)).set 270 (u270 P)).set 427 (u427 P)
def kO0 (P:Params):List Obj:=(((kO1 P).take 15).set 3 (t3 P)).set 12 (t12 P)
def kHeap:Params->PySem.W.Frag:=fun P =>
(nat_lit 2,o2 P)::(nat_lit 3,o3 P)::(nat_lit 15,o15 P)::(nat_lit 17,o17 P)::(nat_lit 18,o18 P)::(nat_lit 20,o20 P)::(nat_lit 21,o21 P)::(nat_lit 22,o22 P)::(nat_lit 29,o29 P)::(nat_lit 30,o30 P)::(nat_lit 31,o31 P)::(nat_lit 32,o32 P)::(nat_lit 35,o35 P)::(nat_lit 42,o42 P)::(nat_lit 43,o43 P)::(nat_lit 44,o44 P)::(nat_lit 47,o47 P)::(nat_lit 54,o54 P)::(nat_lit 55,o55 P)::(nat_lit 56,o56 P)::(nat_lit 59,o59 P)::(nat_lit 66,o66 P)::(nat_lit 67,o67 P)::(nat_lit 68,o68 P)::(nat_lit 71,o71 P)::(nat_lit 78,o78 P)::(nat_lit 79,o79 P)::(nat_lit 80,o80 P)::(nat_lit 83,o83 P)::(nat_lit 90,o90 P)::(nat_lit 91,o91 P)::(nat_lit 92,o92 P)::(nat_lit 95,o95 P)::(nat_lit 102,o102 P)::(nat_lit 103,o103 P)::(nat_lit 104,o104 P)::(nat_lit 107,o107 P)::(nat_lit 114,o114 P)::(nat_lit 115,o115 P)::(nat_lit 116,o116 P)::(nat_lit 119,o119 P)::(nat_lit 126,o126 P)::(nat_lit 127,o127 P)::(nat_lit 128,o128 P)::(nat_lit 131,o131 P)::(nat_lit 138,o138 P)::(nat_lit 139,o139 P)::(nat_lit 140,o140 P)::(nat_lit 143,o143 P)::(nat_lit 150,o150 P)::(nat_lit 151,o151 P)::(nat_lit 152,o152 P)::(nat_lit 155,o155 P)::(nat_lit 162,o162 P)::(nat_lit 163,o163 P)::(nat_lit 164,o164 P)::(nat_lit 167,o167 P)::(nat_lit 174,o174 P)::(nat_lit 175,o175 P)::(nat_lit 176,o176 P) ::
(nat_lit 179,o179 P)::(nat_lit 186,o186 P)::(nat_lit 187,o187 P)::(nat_lit 188,o188 P)::(nat_lit 198,o198 P)::(nat_lit 200,o200 P)::(nat_lit 201,o201 P)::(nat_lit 203,o203 P)::(nat_lit 204,o204 P)::(nat_lit 205,o205 P)::(nat_lit 207,o207 P)::(nat_lit 208,o208 P)::(nat_lit 210,o210 P)::(nat_lit 211,o211 P)::(nat_lit 212,o212 P)::(nat_lit 214,o214 P)::(nat_lit 215,o215 P)::(nat_lit 217,o217 P)::(nat_lit 218,o218 P)::(nat_lit 219,o219 P)::(nat_lit 221,o221 P)::(nat_lit 222,o222 P)::(nat_lit 224,o224 P)::(nat_lit 225,o225 P)::(nat_lit 226,o226 P)::(nat_lit 228,o228 P)::(nat_lit 229,o229 P)::(nat_lit 231,o231 P)::(nat_lit 232,o232 P)::(nat_lit 233,o233 P)::(nat_lit 235,o235 P)::(nat_lit 236,o236 P)::(nat_lit 238,o238 P)::(nat_lit 239,o239 P)::(nat_lit 240,o240 P)::(nat_lit 242,o242 P)::(nat_lit 243,o243 P)::(nat_lit 245,o245 P)::(nat_lit 246,o246 P)::(nat_lit 247,o247 P)::(nat_lit 249,o249 P)::(nat_lit 250,o250 P)::(nat_lit 252,o252 P)::(nat_lit 253,o253 P)::(nat_lit 254,o254 P)::(nat_lit 256,o256 P)::(nat_lit 257,o257 P)::(nat_lit 259,o259 P)::(nat_lit 260,o260 P)::(nat_lit 261,o261 P)::(nat_lit 263,o263 P)::(nat_lit 264,o264 P)::(nat_lit 266,o266 P)::(nat_lit 267,o267 P)::(nat_lit 268,o268 P)::(nat_lit 269,o269 P)::(nat_lit 270,o270 P)::(nat_lit 271,o271 P)::(nat_lit 272,o272 P)::(nat_lit 275,o275 P) ::
(nat_lit 282,o282 P)::(nat_lit 284,o284 P)::(nat_lit 285,o285 P)::(nat_lit 287,o287 P)::(nat_lit 288,o288 P)::(nat_lit 289,o289 P)::(nat_lit 291,o291 P)::(nat_lit 292,o292 P)::(nat_lit 294,o294 P)::(nat_lit 295,o295 P)::(nat_lit 296,o296 P)::(nat_lit 298,o298 P)::(nat_lit 299,o299 P)::(nat_lit 301,o301 P)::(nat_lit 302,o302 P)::(nat_lit 303,o303 P)::(nat_lit 305,o305 P)::(nat_lit 306,o306 P)::(nat_lit 308,o308 P)::(nat_lit 309,o309 P)::(nat_lit 310,o310 P)::(nat_lit 312,o312 P)::(nat_lit 313,o313 P)::(nat_lit 315,o315 P)::(nat_lit 316,o316 P)::(nat_lit 317,o317 P)::(nat_lit 319,o319 P)::(nat_lit 320,o320 P)::(nat_lit 322,o322 P)::(nat_lit 323,o323 P)::(nat_lit 324,o324 P)::(nat_lit 326,o326 P)::(nat_lit 327,o327 P)::(nat_lit 329,o329 P)::(nat_lit 330,o330 P)::(nat_lit 331,o331 P)::(nat_lit 332,o332 P)::(nat_lit 333,o333 P)::(nat_lit 336,o336 P)::(nat_lit 343,o343 P)::(nat_lit 345,o345 P)::(nat_lit 346,o346 P)::(nat_lit 348,o348 P)::(nat_lit 349,o349 P)::(nat_lit 350,o350 P)::(nat_lit 352,o352 P)::(nat_lit 353,o353 P)::(nat_lit 355,o355 P)::(nat_lit 356,o356 P)::(nat_lit 357,o357 P)::(nat_lit 359,o359 P)::(nat_lit 360,o360 P)::(nat_lit 362,o362 P)::(nat_lit 363,o363 P)::(nat_lit 364,o364 P)::(nat_lit 366,o366 P)::(nat_lit 367,o367 P)::(nat_lit 369,o369 P)::(nat_lit 370,o370 P)::(nat_lit 371,o371 P) ::
(nat_lit 373,o373 P)::(nat_lit 374,o374 P)::(nat_lit 376,o376 P)::(nat_lit 377,o377 P)::(nat_lit 378,o378 P)::(nat_lit 380,o380 P)::(nat_lit 381,o381 P)::(nat_lit 383,o383 P)::(nat_lit 384,o384 P)::(nat_lit 385,o385 P)::(nat_lit 387,o387 P)::(nat_lit 388,o388 P)::(nat_lit 390,o390 P)::(nat_lit 391,o391 P)::(nat_lit 392,o392 P)::(nat_lit 393,o393 P)::(nat_lit 394,o394 P)::(nat_lit 397,o397 P)::(nat_lit 404,o404 P)::(nat_lit 406,o406 P)::(nat_lit 407,o407 P)::(nat_lit 409,o409 P)::(nat_lit 410,o410 P)::(nat_lit 411,o411 P)::(nat_lit 413,o413 P)::(nat_lit 414,o414 P)::(nat_lit 416,o416 P)::(nat_lit 417,o417 P)::(nat_lit 418,o418 P)::(nat_lit 420,o420 P)::(nat_lit 421,o421 P)::(nat_lit 423,o423 P)::(nat_lit 424,o424 P)::(nat_lit 425,o425 P)::(nat_lit 426,o426 P)::(nat_lit 427,o427 P)::(nat_lit 430,o430 P)::(nat_lit 437,o437 P)::(nat_lit 439,o439 P)::(nat_lit 440,o440 P)::(nat_lit 442,o442 P)::(nat_lit 443,o443 P)::(nat_lit 444,o444 P)::(nat_lit 446,o446 P)::(nat_lit 447,o447 P)::(nat_lit 449,o449 P)::(nat_lit 450,o450 P)::(nat_lit 451,o451 P)::(nat_lit 453,o453 P)::(nat_lit 454,o454 P)::(nat_lit 456,o456 P)::(nat_lit 457,o457 P)::(nat_lit 458,o458 P)::(nat_lit 460,o460 P)::(nat_lit 461,o461 P)::(nat_lit 463,o463 P)::(nat_lit 464,o464 P)::(nat_lit 465,o465 P)::(nat_lit 467,o467 P)::(nat_lit 468,o468 P) ::
(nat_lit 470,o470 P)::(nat_lit 471,o471 P)::(nat_lit 472,o472 P)::(nat_lit 474,o474 P)::(nat_lit 475,o475 P)::(nat_lit 477,o477 P)::(nat_lit 478,o478 P)::(nat_lit 479,o479 P)::(nat_lit 481,o481 P)::(nat_lit 482,o482 P)::(nat_lit 484,o484 P)::(nat_lit 485,o485 P)::(nat_lit 486,o486 P)::(nat_lit 488,o488 P)::(nat_lit 489,o489 P)::(nat_lit 491,o491 P)::(nat_lit 492,o492 P)::(nat_lit 493,o493 P)::(nat_lit 494,o494 P)::(nat_lit 495,o495 P)::(nat_lit 498,o498 P)::(nat_lit 505,o505 P)::(nat_lit 507,o507 P)::(nat_lit 508,o508 P)::(nat_lit 510,o510 P)::(nat_lit 511,o511 P)::(nat_lit 512,o512 P)::(nat_lit 514,o514 P)::(nat_lit 515,o515 P)::(nat_lit 517,o517 P)::(nat_lit 518,o518 P)::(nat_lit 519,o519 P)::(nat_lit 521,o521 P)::(nat_lit 522,o522 P)::(nat_lit 524,o524 P)::(nat_lit 525,o525 P)::(nat_lit 526,o526 P)::(nat_lit 528,o528 P)::(nat_lit 529,o529 P)::(nat_lit 531,o531 P)::(nat_lit 532,o532 P)::(nat_lit 533,o533 P)::(nat_lit 535,o535 P)::(nat_lit 536,o536 P)::(nat_lit 538,o538 P)::(nat_lit 539,o539 P)::(nat_lit 540,o540 P)::(nat_lit 542,o542 P)::(nat_lit 543,o543 P)::(nat_lit 545,o545 P)::(nat_lit 546,o546 P)::(nat_lit 547,o547 P)::(nat_lit 549,o549 P)::(nat_lit 550,o550 P)::(nat_lit 552,o552 P)::(nat_lit 553,o553 P)::(nat_lit 554,o554 P)::(nat_lit 555,o555 P)::(nat_lit 556,o556 P)::(nat_lit 559,o559 P) ::
(nat_lit 566,o566 P)::(nat_lit 568,o568 P)::(nat_lit 569,o569 P)::(nat_lit 571,o571 P)::(nat_lit 572,o572 P)::(nat_lit 573,o573 P)::(nat_lit 575,o575 P)::(nat_lit 576,o576 P)::(nat_lit 578,o578 P)::(nat_lit 579,o579 P)::(nat_lit 580,o580 P)::(nat_lit 582,o582 P)::(nat_lit 583,o583 P)::(nat_lit 585,o585 P)::(nat_lit 586,o586 P)::(nat_lit 587,o587 P)::(nat_lit 589,o589 P)::(nat_lit 590,o590 P)::(nat_lit 592,o592 P)::(nat_lit 593,o593 P)::(nat_lit 594,o594 P)::(nat_lit 596,o596 P)::(nat_lit 597,o597 P)::(nat_lit 599,o599 P)::(nat_lit 600,o600 P)::(nat_lit 601,o601 P)::(nat_lit 603,o603 P)::(nat_lit 604,o604 P)::(nat_lit 606,o606 P)::(nat_lit 607,o607 P)::(nat_lit 608,o608 P)::(nat_lit 610,o610 P)::(nat_lit 611,o611 P)::(nat_lit 613,o613 P)::(nat_lit 614,o614 P)::(nat_lit 615,o615 P)::(nat_lit 616,o616 P)::(nat_lit 617,o617 P)::(nat_lit 620,o620 P)::(nat_lit 627,o627 P)::(nat_lit 629,o629 P)::(nat_lit 630,o630 P)::(nat_lit 632,o632 P)::(nat_lit 633,o633 P)::(nat_lit 634,o634 P)::(nat_lit 636,o636 P)::(nat_lit 637,o637 P)::(nat_lit 639,o639 P)::(nat_lit 640,o640 P)::(nat_lit 641,o641 P)::(nat_lit 642,o642 P)::(nat_lit 643,o643 P)::(nat_lit 646,o646 P)::(nat_lit 653,o653 P)::(nat_lit 655,o655 P)::(nat_lit 656,o656 P)::(nat_lit 658,o658 P)::(nat_lit 659,o659 P)::(nat_lit 660,o660 P)::(nat_lit 662,o662 P) ::
(nat_lit 663,o663 P)::(nat_lit 665,o665 P)::(nat_lit 666,o666 P)::(nat_lit 667,o667 P)::(nat_lit 669,o669 P)::(nat_lit 670,o670 P)::(nat_lit 672,o672 P)::(nat_lit 673,o673 P)::(nat_lit 674,o674 P)::(nat_lit 676,o676 P)::(nat_lit 677,o677 P)::(nat_lit 679,o679 P)::(nat_lit 680,o680 P)::(nat_lit 681,o681 P)::(nat_lit 683,o683 P)::(nat_lit 684,o684 P)::(nat_lit 686,o686 P)::(nat_lit 687,o687 P)::(nat_lit 688,o688 P)::(nat_lit 690,o690 P)::(nat_lit 691,o691 P)::(nat_lit 693,o693 P)::(nat_lit 694,o694 P)::(nat_lit 695,o695 P)::(nat_lit 697,o697 P)::(nat_lit 698,o698 P)::(nat_lit 700,o700 P)::(nat_lit 701,o701 P)::(nat_lit 702,o702 P)::(nat_lit 703,o703 P)::(nat_lit 704,o704 P)::(nat_lit 707,o707 P)::(nat_lit 714,o714 P)::(nat_lit 716,o716 P)::(nat_lit 717,o717 P)::(nat_lit 719,o719 P)::(nat_lit 720,o720 P)::(nat_lit 721,o721 P)::(nat_lit 723,o723 P)::(nat_lit 724,o724 P)::(nat_lit 726,o726 P)::(nat_lit 727,o727 P)::(nat_lit 728,o728 P)::(nat_lit 730,o730 P)::(nat_lit 731,o731 P)::(nat_lit 733,o733 P)::(nat_lit 734,o734 P)::(nat_lit 735,o735 P)::(nat_lit 737,o737 P)::(nat_lit 738,o738 P)::(nat_lit 740,o740 P)::(nat_lit 741,o741 P)::(nat_lit 742,o742 P)::(nat_lit 744,o744 P)::(nat_lit 745,o745 P)::(nat_lit 747,o747 P)::(nat_lit 748,o748 P)::(nat_lit 749,o749 P)::(nat_lit 751,o751 P)::(nat_lit 752,o752 P) ::
(nat_lit 754,o754 P)::(nat_lit 755,o755 P)::(nat_lit 756,o756 P)::(nat_lit 758,o758 P)::(nat_lit 759,o759 P)::(nat_lit 761,o761 P)::(nat_lit 762,o762 P)::(nat_lit 763,o763 P)::(nat_lit 764,o764 P)::(nat_lit 765,o765 P)::(nat_lit 768,o768 P)::(nat_lit 775,o775 P)::(nat_lit 777,o777 P)::(nat_lit 778,o778 P)::(nat_lit 780,o780 P)::(nat_lit 781,o781 P)::(nat_lit 782,o782 P)::(nat_lit 784,o784 P)::(nat_lit 785,o785 P)::(nat_lit 787,o787 P)::(nat_lit 788,o788 P)::(nat_lit 789,o789 P)::(nat_lit 791,o791 P)::(nat_lit 792,o792 P)::(nat_lit 794,o794 P)::(nat_lit 795,o795 P)::(nat_lit 796,o796 P)::(nat_lit 798,o798 P)::(nat_lit 799,o799 P)::(nat_lit 801,o801 P)::(nat_lit 802,o802 P)::(nat_lit 803,o803 P)::(nat_lit 805,o805 P)::(nat_lit 806,o806 P)::(nat_lit 808,o808 P)::(nat_lit 809,o809 P)::(nat_lit 810,o810 P)::(nat_lit 812,o812 P)::(nat_lit 813,o813 P)::(nat_lit 815,o815 P)::(nat_lit 816,o816 P)::(nat_lit 817,o817 P)::(nat_lit 819,o819 P)::(nat_lit 820,o820 P)::(nat_lit 822,o822 P)::(nat_lit 823,o823 P)::(nat_lit 824,o824 P)::(nat_lit 826,o826 P)::(nat_lit 827,o827 P)::(nat_lit 829,o829 P)::(nat_lit 830,o830 P)::(nat_lit 831,o831 P)::(nat_lit 833,o833 P)::(nat_lit 834,o834 P)::(nat_lit 836,o836 P)::(nat_lit 837,o837 P)::(nat_lit 838,o838 P)::(nat_lit 839,o839 P)::(nat_lit 840,o840 P)::(nat_lit 843,o843 P) ::
(nat_lit 850,o850 P)::(nat_lit 852,o852 P)::(nat_lit 853,o853 P)::(nat_lit 855,o855 P)::(nat_lit 856,o856 P)::(nat_lit 857,o857 P)::(nat_lit 859,o859 P)::(nat_lit 860,o860 P)::(nat_lit 862,o862 P)::(nat_lit 863,o863 P)::(nat_lit 864,o864 P)::(nat_lit 865,o865 P)::(nat_lit 866,o866 P)::(nat_lit 869,o869 P)::(nat_lit 876,o876 P)::(nat_lit 878,o878 P)::(nat_lit 879,o879 P)::(nat_lit 881,o881 P)::(nat_lit 882,o882 P)::(nat_lit 883,o883 P)::(nat_lit 885,o885 P)::(nat_lit 886,o886 P)::(nat_lit 888,o888 P)::(nat_lit 889,o889 P)::(nat_lit 890,o890 P)::(nat_lit 892,o892 P)::(nat_lit 893,o893 P)::(nat_lit 895,o895 P)::(nat_lit 896,o896 P)::(nat_lit 897,o897 P)::(nat_lit 899,o899 P)::(nat_lit 900,o900 P)::(nat_lit 902,o902 P)::(nat_lit 903,o903 P)::(nat_lit 904,o904 P)::(nat_lit 906,o906 P)::(nat_lit 907,o907 P)::(nat_lit 909,o909 P)::(nat_lit 910,o910 P)::(nat_lit 911,o911 P)::(nat_lit 913,o913 P)::(nat_lit 914,o914 P)::(nat_lit 916,o916 P)::(nat_lit 917,o917 P)::(nat_lit 918,o918 P)::(nat_lit 920,o920 P)::(nat_lit 921,o921 P)::(nat_lit 923,o923 P)::(nat_lit 924,o924 P)::(nat_lit 925,o925 P)::(nat_lit 926,o926 P)::(nat_lit 927,o927 P)::(nat_lit 930,o930 P)::(nat_lit 937,o937 P)::(nat_lit 939,o939 P)::(nat_lit 940,o940 P)::(nat_lit 942,o942 P)::(nat_lit 943,o943 P)::(nat_lit 944,o944 P)::(nat_lit 946,o946 P) ::
(nat_lit 947,o947 P)::(nat_lit 949,o949 P)::(nat_lit 950,o950 P)::(nat_lit 951,o951 P)::(nat_lit 953,o953 P)::(nat_lit 954,o954 P)::(nat_lit 956,o956 P)::(nat_lit 957,o957 P)::(nat_lit 958,o958 P)::(nat_lit 960,o960 P)::(nat_lit 961,o961 P)::(nat_lit 963,o963 P)::(nat_lit 964,o964 P)::(nat_lit 965,o965 P)::(nat_lit 967,o967 P)::(nat_lit 968,o968 P)::(nat_lit 970,o970 P)::(nat_lit 971,o971 P)::(nat_lit 972,o972 P)::(nat_lit 974,o974 P)::(nat_lit 975,o975 P)::(nat_lit 977,o977 P)::(nat_lit 978,o978 P)::(nat_lit 979,o979 P)::(nat_lit 981,o981 P)::(nat_lit 982,o982 P)::(nat_lit 984,o984 P)::(nat_lit 985,o985 P)::(nat_lit 986,o986 P)::(nat_lit 987,o987 P)::(nat_lit 988,o988 P)::(nat_lit 991,o991 P)::(nat_lit 998,o998 P)::(nat_lit 1000,fo P)::(nat_lit 1001,fm P)::(nat_lit 1003,fj P)::(nat_lit 1004,fi P)::(nat_lit 1005,fh P)::(nat_lit 1007,fg P)::(nat_lit 1008,ff P)::(nat_lit 1010,fe P)::(nat_lit 1011,fc P)::(nat_lit 1012,fb P)::(nat_lit 1014,f9 P)::(nat_lit 1015,f8 P)::(nat_lit 1017,f7 P)::(nat_lit 1018,f6 P)::(nat_lit 1019,eZ P)::(nat_lit 1021,eY P)::(nat_lit 1022,eX P)::(nat_lit 1024,eW P)::(nat_lit 1025,eV P)::(nat_lit 1026,eU P)::(nat_lit 1028,eT P)::(nat_lit 1029,eS P)::(nat_lit 1031,eR P)::(nat_lit 1032,eQ P)::(nat_lit 1033,eP P)::(nat_lit 1035,eO P)::(nat_lit 1036,eN P) ::
(nat_lit 1038,eM P)::(nat_lit 1039,eL P)::(nat_lit 1040,eK P)::(nat_lit 1042,eJ P)::(nat_lit 1043,eI P)::(nat_lit 1045,eH P)::(nat_lit 1046,eG P)::(nat_lit 1047,eF P)::(nat_lit 1049,eE P)::(nat_lit 1050,eD P)::(nat_lit 1052,eC P)::(nat_lit 1053,eB P)::(nat_lit 1054,eA P)::(nat_lit 1055,ez P)::(nat_lit 1056,ey P)::(nat_lit 1059,eu P)::(nat_lit 1061,et P)::(nat_lit 1062,er P)::(nat_lit 1064,eo P)::(nat_lit 1065,en P)::(nat_lit 1066,em P)::(nat_lit 1068,el P)::(nat_lit 1069,ek P)::(nat_lit 1071,eh P)::(nat_lit 1072,eg P)::(nat_lit 1073,ef P)::(nat_lit 1075,ee P)::(nat_lit 1076,ed P)::(nat_lit 1078,ec P)::(nat_lit 1079,e9 P)::(nat_lit 1080,e8 P)::(nat_lit 1082,e7 P)::(nat_lit 1083,e6 P)::(nat_lit 1085,e5 P)::(nat_lit 1086,e4 P)::(nat_lit 1087,dZ P)::(nat_lit 1090,dY P)::(nat_lit 1091,dX P)::(nat_lit 1092,dW P)::(nat_lit 1094,dU P)::(nat_lit 1095,dS P)::(nat_lit 1097,dR P)::(nat_lit 1098,dQ P)::(nat_lit 1099,dP P)::(nat_lit 1102,dO P)::(nat_lit 1103,dN P)::(nat_lit 1104,dM P)::(nat_lit 1106,dL P)::(nat_lit 1107,dJ P)::(nat_lit 1109,dI P)::(nat_lit 1110,dH P)::(nat_lit 1111,dG P)::(nat_lit 1113,dF P)::(nat_lit 1114,dE P)::(nat_lit 1116,dD P)::(nat_lit 1117,dC P) ::
[]
end
def kAddrs:List Addr:=[nat_lit 2,nat_lit 3,nat_lit 15,nat_lit 17,nat_lit 18,nat_lit 20,nat_lit 21,nat_lit 22,nat_lit 29,nat_lit 30,nat_lit 31,nat_lit 32,nat_lit 35,nat_lit 42,nat_lit 43,nat_lit 44,nat_lit 47,nat_lit 54,nat_lit 55,nat_lit 56,nat_lit 59,nat_lit 66,nat_lit 67,nat_lit 68,nat_lit 71,nat_lit 78,nat_lit 79,nat_lit 80,nat_lit 83,nat_lit 90,nat_lit 91,nat_lit 92,nat_lit 95,nat_lit 102,nat_lit 103,nat_lit 104,nat_lit 107,nat_lit 114,nat_lit 115,nat_lit 116,nat_lit 119,nat_lit 126,nat_lit 127,nat_lit 128,nat_lit 131,nat_lit 138,nat_lit 139,nat_lit 140,nat_lit 143,nat_lit 150,nat_lit 151,nat_lit 152,nat_lit 155,nat_lit 162,nat_lit 163,nat_lit 164,nat_lit 167,nat_lit 174,nat_lit 175,nat_lit 176,nat_lit 179,nat_lit 186,nat_lit 187,nat_lit 188,nat_lit 198,nat_lit 200,nat_lit 201,nat_lit 203,nat_lit 204,nat_lit 205,nat_lit 207,nat_lit 208,nat_lit 210,nat_lit 211,nat_lit 212,nat_lit 214,nat_lit 215,nat_lit 217,nat_lit 218,nat_lit 219,nat_lit 221,nat_lit 222,nat_lit 224,nat_lit 225,nat_lit 226,nat_lit 228,nat_lit 229,nat_lit 231,nat_lit 232,nat_lit 233,nat_lit 235,nat_lit 236,nat_lit 238,nat_lit 239,nat_lit 240,nat_lit 242,nat_lit 243,nat_lit 245,nat_lit 246,nat_lit 247,nat_lit 249,nat_lit 250,nat_lit 252,nat_lit 253,nat_lit 254,nat_lit 256,nat_lit 257,nat_lit 259,nat_lit 260,nat_lit 261,nat_lit 263,nat_lit 264,nat_lit 266,nat_lit 267,nat_lit 268,nat_lit 269,nat_lit 270,nat_lit 271,nat_lit 272,nat_lit 275,nat_lit 282,nat_lit 284,nat_lit 285,nat_lit 287,nat_lit 288,nat_lit 289,nat_lit 291,nat_lit 292,nat_lit 294,nat_lit 295,nat_lit 296,nat_lit 298,nat_lit 299,nat_lit 301,nat_lit 302,nat_lit 303,nat_lit 305,nat_lit 306,nat_lit 308,nat_lit 309,nat_lit 310,nat_lit 312,nat_lit 313,nat_lit 315,nat_lit 316,nat_lit 317,nat_lit 319,nat_lit 320,nat_lit 322,nat_lit 323,nat_lit 324,nat_lit 326,nat_lit 327,nat_lit 329,nat_lit 330,nat_lit 331,nat_lit 332,nat_lit 333,nat_lit 336,nat_lit 343,nat_lit 345,nat_lit 346,nat_lit 348,nat_lit 349,nat_lit 350,nat_lit 352,nat_lit 353,nat_lit 355,nat_lit 356,nat_lit 357,nat_lit 359,nat_lit 360,nat_lit 362,nat_lit 363,nat_lit 364,nat_lit 366,nat_lit 367,nat_lit 369,nat_lit 370,nat_lit 371,nat_lit 373,nat_lit 374,nat_lit 376,nat_lit 377,nat_lit 378,nat_lit 380,nat_lit 381,nat_lit 383,nat_lit 384,nat_lit 385,nat_lit 387,nat_lit 388,nat_lit 390,nat_lit 391,nat_lit 392,nat_lit 393,nat_lit 394,nat_lit 397,nat_lit 404,nat_lit 406,nat_lit 407,nat_lit 409,nat_lit 410,nat_lit 411,nat_lit 413,nat_lit 414,nat_lit 416,nat_lit 417,nat_lit 418,nat_lit 420,nat_lit 421,nat_lit 423,nat_lit 424,nat_lit 425,nat_lit 426,nat_lit 427,nat_lit 430,nat_lit 437,nat_lit 439,nat_lit 440,nat_lit 442,nat_lit 443,nat_lit 444,nat_lit 446,nat_lit 447,nat_lit 449,nat_lit 450,nat_lit 451,nat_lit 453,nat_lit 454,nat_lit 456,nat_lit 457,nat_lit 458,nat_lit 460,nat_lit 461,nat_lit 463,nat_lit 464,nat_lit 465,nat_lit 467,nat_lit 468,nat_lit 470,nat_lit 471,nat_lit 472,nat_lit 474,nat_lit 475,nat_lit 477,nat_lit 478,nat_lit 479,nat_lit 481,nat_lit 482,nat_lit 484,nat_lit 485,nat_lit 486,nat_lit 488,nat_lit 489,nat_lit 491,nat_lit 492,nat_lit 493,nat_lit 494,nat_lit 495,nat_lit 498,nat_lit 505,nat_lit 507,nat_lit 508,nat_lit 510,nat_lit 511,nat_lit 512,nat_lit 514,nat_lit 515,nat_lit 517,nat_lit 518,nat_lit 519,nat_lit 521,nat_lit 522,nat_lit 524,nat_lit 525,nat_lit 526,nat_lit 528,nat_lit 529,nat_lit 531,nat_lit 532,nat_lit 533,nat_lit 535,nat_lit 536,nat_lit 538,nat_lit 539,nat_lit 540,nat_lit 542,nat_lit 543,nat_lit 545,nat_lit 546,nat_lit 547,nat_lit 549,nat_lit 550,nat_lit 552,nat_lit 553,nat_lit 554,nat_lit 555,nat_lit 556,nat_lit 559,nat_lit 566,nat_lit 568,nat_lit 569,nat_lit 571,nat_lit 572,nat_lit 573,nat_lit 575,nat_lit 576,nat_lit 578,nat_lit 579,nat_lit 580,nat_lit 582,nat_lit 583,nat_lit 585,nat_lit 586,nat_lit 587,nat_lit 589,nat_lit 590,nat_lit 592,nat_lit 593,nat_lit 594,nat_lit 596,nat_lit 597,nat_lit 599,nat_lit 600,nat_lit 601,nat_lit 603,nat_lit 604,nat_lit 606,nat_lit 607,nat_lit 608,nat_lit 610,nat_lit 611,nat_lit 613,nat_lit 614,nat_lit 615,nat_lit 616,nat_lit 617,nat_lit 620,nat_lit 627,nat_lit 629,nat_lit 630,nat_lit 632,nat_lit 633,nat_lit 634,nat_lit 636,nat_lit 637,nat_lit 639,nat_lit 640,nat_lit 641,nat_lit 642,nat_lit 643,nat_lit 646,nat_lit 653,nat_lit 655,nat_lit 656,nat_lit 658,nat_lit 659,nat_lit 660,nat_lit 662,nat_lit 663,nat_lit 665,nat_lit 666,nat_lit 667,nat_lit 669,nat_lit 670,nat_lit 672,nat_lit 673,nat_lit 674,nat_lit 676,nat_lit 677,nat_lit 679,nat_lit 680,nat_lit 681,nat_lit 683,nat_lit 684,nat_lit 686,nat_lit 687,nat_lit 688,nat_lit 690,nat_lit 691,nat_lit 693,nat_lit 694,nat_lit 695,nat_lit 697,nat_lit 698,nat_lit 700,nat_lit 701,nat_lit 702,nat_lit 703,nat_lit 704,nat_lit 707,nat_lit 714,nat_lit 716,nat_lit 717,nat_lit 719,nat_lit 720,nat_lit 721,nat_lit 723,nat_lit 724,nat_lit 726,nat_lit 727,nat_lit 728,nat_lit 730,nat_lit 731,nat_lit 733,nat_lit 734,nat_lit 735,nat_lit 737,nat_lit 738,nat_lit 740,nat_lit 741,nat_lit 742,nat_lit 744,nat_lit 745,nat_lit 747,nat_lit 748,nat_lit 749,nat_lit 751,nat_lit 752,nat_lit 754,nat_lit 755,nat_lit 756,nat_lit 758,nat_lit 759,nat_lit 761,nat_lit 762,nat_lit 763,nat_lit 764,nat_lit 765,nat_lit 768,nat_lit 775,nat_lit 777,nat_lit 778,nat_lit 780,nat_lit 781,nat_lit 782,nat_lit 784,nat_lit 785,nat_lit 787,nat_lit 788,nat_lit 789,nat_lit 791,nat_lit 792,nat_lit 794,nat_lit 795,nat_lit 796,nat_lit 798,nat_lit 799,nat_lit 801,nat_lit 802,nat_lit 803,nat_lit 805,nat_lit 806,nat_lit 808,nat_lit 809,nat_lit 810,nat_lit 812,nat_lit 813,nat_lit 815,nat_lit 816,nat_lit 817,nat_lit 819,nat_lit 820,nat_lit 822,nat_lit 823,nat_lit 824,nat_lit 826,nat_lit 827,nat_lit 829,nat_lit 830,nat_lit 831,nat_lit 833,nat_lit 834,nat_lit 836,nat_lit 837,nat_lit 838,nat_lit 839,nat_lit 840,nat_lit 843,nat_lit 850,nat_lit 852,nat_lit 853,nat_lit 855,nat_lit 856,nat_lit 857,nat_lit 859,nat_lit 860,nat_lit 862,nat_lit 863,nat_lit 864,nat_lit 865,nat_lit 866,nat_lit 869,nat_lit 876,nat_lit 878,nat_lit 879,nat_lit 881,nat_lit 882,nat_lit 883,nat_lit 885,nat_lit 886,nat_lit 888,nat_lit 889,nat_lit 890,nat_lit 892,nat_lit 893,nat_lit 895,nat_lit 896,nat_lit 897,nat_lit 899,nat_lit 900,nat_lit 902,nat_lit 903,nat_lit 904,nat_lit 906,nat_lit 907,nat_lit 909,nat_lit 910,nat_lit 911,nat_lit 913,nat_lit 914,nat_lit 916,nat_lit 917,nat_lit 918,nat_lit 920,nat_lit 921,nat_lit 923,nat_lit 924,nat_lit 925,nat_lit 926,nat_lit 927,nat_lit 930,nat_lit 937,nat_lit 939,nat_lit 940,nat_lit 942,nat_lit 943,nat_lit 944,nat_lit 946,nat_lit 947,nat_lit 949,nat_lit 950,nat_lit 951,nat_lit 953,nat_lit 954,nat_lit 956,nat_lit 957,nat_lit 958,nat_lit 960,nat_lit 961,nat_lit 963,nat_lit 964,nat_lit 965,nat_lit 967,nat_lit 968,nat_lit 970,nat_lit 971,nat_lit 972,nat_lit 974,nat_lit 975,nat_lit 977,nat_lit 978,nat_lit 979,nat_lit 981,nat_lit 982,nat_lit 984,nat_lit 985,nat_lit 986,nat_lit 987,nat_lit 988,nat_lit 991,nat_lit 998,nat_lit 1000,nat_lit 1001,nat_lit 1003,nat_lit 1004,nat_lit 1005,nat_lit 1007,nat_lit 1008,nat_lit 1010,nat_lit 1011,nat_lit 1012,nat_lit 1014,nat_lit 1015,nat_lit 1017,nat_lit 1018,nat_lit 1019,nat_lit 1021,nat_lit 1022,nat_lit 1024,nat_lit 1025,nat_lit 1026,nat_lit 1028,nat_lit 1029,nat_lit 1031,nat_lit 1032,nat_lit 1033,nat_lit 1035,nat_lit 1036,nat_lit 1038,nat_lit 1039,nat_lit 1040,nat_lit 1042,nat_lit 1043,nat_lit 1045,nat_lit 1046,nat_lit 1047,nat_lit 1049,nat_lit 1050,nat_lit 1052,nat_lit 1053,nat_lit 1054,nat_lit 1055,nat_lit 1056,nat_lit 1059,nat_lit 1061,nat_lit 1062,nat_lit 1064,nat_lit 1065,nat_lit 1066,nat_lit 1068,nat_lit 1069,nat_lit 1071,nat_lit 1072,nat_lit 1073,nat_lit 1075,nat_lit 1076,nat_lit 1078,nat_lit 1079,nat_lit 1080,nat_lit 1082,nat_lit 1083,nat_lit 1085,nat_lit 1086,nat_lit 1087,nat_lit 1090,nat_lit 1091,nat_lit 1092,nat_lit 1094,nat_lit 1095,nat_lit 1097,nat_lit 1098,nat_lit 1099,nat_lit 1102,nat_lit 1103,nat_lit 1104,nat_lit 1106,nat_lit 1107,nat_lit 1109,nat_lit 1110,nat_lit 1111,nat_lit 1113,nat_lit 1114,nat_lit 1116,nat_lit 1117]
def kView:Program:={ PySem.Challenge.pw_treewells_k81_the_eleven_kinds with main:={ PySem.Challenge.pw_treewells_k81_the_eleven_kinds.main with body:=[top 0,top 2,top 3,top 4,top 5,top 6,top 7,top 8,top 9,top 10,top 11,top 12,top 13,top 14,top 15,top 17,top 18,top 19,top 20,top 21,top 22,top 23,top 25,top 26,top 27,top 28,top 29,top 30,top 31,top 32,top 34,top 35,top 37,top 38,top 39,top 40,top 41,top 42,top 43] } }
theorem kAddrs_eq (P:Params):kAddrs=(kHeap P).map (·.1):=by kernel_rfl
theorem kBoot:∀w:World,(PySem.W.fencedOpening treeTable PySem.Challenge.rw_treewells_k81_the_eleven_kinds.row.prog w 9917).map (fun s=>(s.heap,s.gens,s.drawn,s.toks))=some (PySem.W.boot_heap w.params,Array.mk [],PySem.W.boot_drawn,PySem.W.boot_toks):=
 PySem.W.boot_open (by rfl) (by decide) (fun _=>rfl)
abbrev kPr:Program:=PySem.Challenge.rw_treewells_k81_the_eleven_kinds.row.prog
abbrev kLf:Life:={ debug:=0,thresholds:=[2000,10,10] }
abbrev kAn:Option Value:=some (.ref (nat_lit 6))
abbrev kEnv:Env:={ scope:=kPr.main.scope,locals:=mainNs,globals:=mainNs,cells:=[],code:=.ref (nat_lit 13),frame:=some (nat_lit 14) }
abbrev kB1:List Stmt:=(behindTheImports kPr).take 21
abbrev kB2:List Stmt:=(behindTheImports kPr).drop 21
abbrev kB0:List Stmt:=kB1++(kB2++[])
abbrev kCd:Code:=.body kB0 kEnv
abbrev kZ:Pos:=⟨0,0,0,0⟩
abbrev kP1:Pos:=⟨109,0,118,17⟩
abbrev kP2:Pos:=⟨402,0,420,15⟩
noncomputable def kS0 (w:World) (os:OsState):SharedT:=⟨kT (kO0 w.params),nat_lit 15,kLf,Array.mk [],PySem.W.boot_drawn,nat_lit 187,os⟩
noncomputable def kS1 (w:World) (os:OsState):SharedT:=⟨kT (kO1 w.params),nat_lit 430,kLf,Array.mk [],PySem.W.boot_drawn,nat_lit 770,os⟩
noncomputable def kS2 (w:World) (os:OsState):SharedT:=⟨kT (kO2 w.params),nat_lit 1118,kLf,Array.mk [],PySem.W.boot_drawn,nat_lit 1730,os⟩
theorem kC0:∀(w:World) (os:OsState),((bM (PySem.W.boot_heap w.params).objs.toList 0 .nil).bind fun t=>bW treeTable kPr w (nat_lit 11) kAn 12 ⟨t,nat_lit 11,kLf,Array.mk [],PySem.W.boot_drawn,PySem.W.boot_toks,os⟩ (topStub kPr))=some (kS0 w os,⟨denote treeTable (.body kB0 kEnv),kCd,kZ,[topFrame kZ]⟩):=by intro w os;kernel_rfl
theorem kC1:∀(w:World) (os:OsState),segRunT treeTable kPr w (nat_lit 11) kAn 1 1 (kS0 w os) (blockOf kB0 kEnv kCd kZ [topFrame kZ])=some (.next,kS0 w os,kCd,kZ):=by intro w os;kernel_rfl
theorem kC2:∀(w:World) (os:OsState),segRunT treeTable kPr w (nat_lit 11) kAn 1 4754 (kS0 w os) (piecesOf kB1 kEnv kCd kZ [topFrame kZ])=some (.next,kS1 w os,kCd,kP1):=by intro w os;kernel_rfl
theorem kC3:∀(w:World) (os:OsState),segRunT treeTable kPr w (nat_lit 11) kAn 1 5140 (kS1 w os) (piecesOf kB2 kEnv kCd kP1 [topFrame kZ])=some (.next,kS2 w os,kCd,kP2):=by intro w os;kernel_rfl
abbrev kLk {α:Type}(g:World->Shared->α)(v:World->α):Prop:=df kPr 10 kS2 (restOf [] kEnv kCd kP2 [topFrame kZ]) (nat_lit 11) kAn g v
theorem kL1:kLk (fun w s=>PySem.W.staticsOk (PySem.importedModules kPr.main.body) (PySem.W.boot_heap w.params) s.heap&&PySem.W.namesBound kPr s.heap&&PySem.W.gensDone s&&PySem.W.laidKept (PySem.W.boot_heap w.params) s.heap) (fun _=>true):=by intro w os;kernel_rfl
theorem kL2:kLk (fun _ s=>PySem.W.openSeen KH.kView [] (PySem.importedModules kPr.main.body) (fun s=>PySem.W.xlAt KH.kView [] s&&PySem.W.recOk (PySem.W.RowW.records (PySem.W.OpenRow.toRowW PySem.Challenge.rw_treewells_k81_the_eleven_kinds.row)) s) true s) (fun _=>PySem.W.openGood KH.kView []):=by intro w os;kernel_rfl
theorem kL3:kLk (fun _ s=>(PySem.W.kHook KH.kHeap KH.kAddrs KH.kAddrs_eq).obs s) (PySem.W.kHook KH.kHeap KH.kAddrs KH.kAddrs_eq).val:=by intro w os;kernel_rfl
theorem kLeft:PySem.W.LeftO PySem.Challenge.rw_treewells_k81_the_eleven_kinds.row.prog KH.kView [] (fun s=>PySem.W.xlAt KH.kView [] s&&PySem.W.recOk (PySem.W.RowW.records (PySem.W.OpenRow.toRowW PySem.Challenge.rw_treewells_k81_the_eleven_kinds.row)) s) (PySem.W.kHook KH.kHeap KH.kAddrs KH.kAddrs_eq).obs (PySem.W.kHook KH.kHeap KH.kAddrs KH.kAddrs_eq).val 9917:=
 left_of2 kBoot (by intro w;kernel_rfl) (by decide) kC0 kC1 kC2 kC3 kL1 kL2 kL3
end KH
namespace L2
open PySem PySem.Spec PyProof.Rows
abbrev Key:=Sum Int Str
def fq:Key->Value->Bool
 | .inl k,v=>Value.isInt k v
 | .inr x,v=>Value.isStrOf x v
def keyH (w:World):Key->Int
 | .inl k=>hashInt k
 | .inr x=>hashStr w x
theorem ax:∀{k:Key} {v:Value},fq k v=true->(∃i t,k=Sum.inl i/\v=Value.int i t)∨(∃x t,k=Sum.inr x/\v=Value.str x t)
 | .inl i,v,h=>by
  obtain⟨t,e⟩:=Value.isInt_shape (k:=i) (v:=v) h;exact .inl ⟨i,t,rfl,e⟩
 | .inr x,v,h=>by
  obtain⟨t,e⟩:=Value.isStrOf_shape (x:=x) (v:=v) h;exact .inr ⟨x,t,rfl,e⟩
theorem key_ll (a b:Int):decide ((Sum.inl a:Key)=Sum.inl b)=(a == b):=by
 by_cases e:a=b
 . subst e;simp
 . have h:¬(Sum.inl a:Key)=Sum.inl b:=fun q=>e (Sum.inl.inj q);rw[decide_eq_false h];exact(beq_eq_false_iff_ne.mpr e).symm
theorem key_rr (a b:Str):decide ((Sum.inr a:Key)=Sum.inr b)=decide (a=b):=by
 by_cases e:a=b
 . subst e;simp
 . have h:¬(Sum.inr a:Key)=Sum.inr b:=fun q=>e (Sum.inr.inj q);rw[decide_eq_false h,decide_eq_false e]
theorem key_lr (a:Int)(b:Str):decide ((Sum.inl a:Key)=Sum.inr b)=false:=decide_eq_false (fun q=>nomatch q)
theorem key_rl (a:Str)(b:Int):decide ((Sum.inr a:Key)=Sum.inl b)=false:=decide_eq_false (fun q=>nomatch q)
def d6 (prog:Program)(w:World):PySem.KeyKind prog w Key where
 is:=fq
 hash:=keyH w
 inj:=fun v a b ha hb=>by
  rcases ax ha with⟨i,t,rfl,rfl⟩ | ⟨x,t,rfl,rfl⟩
  . rcases ax hb with⟨j,u,rfl,e⟩ | ⟨y,u,rfl,e⟩
    . injection e with e1 _;rw[e1]
    . exact nomatch e
  . rcases ax hb with⟨j,u,rfl,e⟩ | ⟨y,u,rfl,e⟩
    . exact nomatch e
    . injection e with e1 _;rw[e1]
 byValue:=fun k v h=>by
  rcases ax h with⟨i,t,rfl,rfl⟩ | ⟨x,t,rfl,rfl⟩<;>rfl
 pyHash:=fun hv h=>by
  rcases ax hv with⟨i,t,rfl,rfl⟩ | ⟨x,t,rfl,rfl⟩
  . exact wpAny_pyHash_int h
  . exact wpAny_pyHash_str h
 eqBool:=fun hu hv h=>by
  rcases ax hu with⟨i,t,rfl,rfl⟩ | ⟨x,t,rfl,rfl⟩
  . rcases ax hv with⟨j,u,rfl,rfl⟩ | ⟨y,u,rfl,rfl⟩
    . rw[key_ll]at h;exact wpAny_eqBool_int h
    . rw[key_lr]at h;exact SeqAt.EqAt.int_str i t y u _ _ _ _ h
  . rcases ax hv with⟨j,u,rfl,rfl⟩ | ⟨y,u,rfl,rfl⟩
    . rw[key_rl]at h;exact SeqAt.EqAt.str_int x t j u _ _ _ _ h
    . rw[key_rr]at h;exact wpAny_eqBool_str h
 «strs»:=fun k x t v h=>by
  rcases ax h with⟨i,u,rfl,e⟩ | ⟨y,u,rfl,e⟩
  . exact nomatch e
  . injection e with e1 _
    subst e1;cases v<;>rfl
end L2
namespace L2
open PySem PySem.Spec PyProof.Rows
inductive V where
 | non | bl (b:Bool) | int (i:Int) | str (x:Str) | byt (b:Array UInt8) | flt (b:UInt64) | ref (a:Addr) | ty (n:String)
 deriving DecidableEq
def RelV:V->Value->Prop
 | .non,u=>u=Value.none
 | .bl b,u=>u=Value.bool b
 | .int i,u=>∃t,u=Value.int i t
 | .str x,u=>∃t,u=Value.str x t
 | .byt b,u=>∃t,u=Value.bytes b t
 | .flt b,u=>∃t,u=Value.float b t
 | .ref a,u=>u=Value.ref a
 | .ty n,u=>u=Value.type n
abbrev Vals:List V->List Value->Prop:=Paired RelV
theorem Vals.length {xs:List V}{us:List Value}(r:Vals xs us):xs.length=us.length:=Paired.length r
theorem Vals.get:∀{xs:List V} {us:List Value} {i:Nat} {x:V},Vals xs us->xs[i]? = some x->∃u,us[i]? = some u/\RelV x u
 | _,_,_,_,.nil,e=>by simp at e
 | _,_,0,_,.cons r _,e=>by simp at e;subst e;exact⟨_,rfl,r⟩
 | _,_,i+1,x,.cons _ t,e=>by
  obtain⟨u,h1,h2⟩:=Vals.get (i:=i) (x:=x) t (by simpa using e)
  exact⟨u,by simpa using h1,h2⟩
theorem Vals.append:∀{xs ys:List V} {us ws:List Value},Vals xs us->Vals ys ws->Vals (xs++ys) (us++ws)
 | _,_,_,_,.nil,s=>s
 | _,_,_,_,.cons r t,s=>.cons r (Vals.append t s)
theorem Vals.take:∀{xs:List V} {us:List Value} (n:Nat),Vals xs us->Vals (xs.take n) (us.take n)
 | _,_,0,_=>.nil
 | _,_,_+1,.nil=>.nil
 | _,_,n+1,.cons r t=>.cons r (Vals.take n t)
theorem Vals.drop:∀{xs:List V} {us:List Value} (n:Nat),Vals xs us->Vals (xs.drop n) (us.drop n)
 | _,_,0,r=>r
 | _,_,_+1,.nil=>.nil
 | _,_,n+1,.cons _ t=>Vals.drop n t
def RelO:Option V->Option Value->Prop
 | some v,some u=>RelV v u
 | none,none=>True
 | _,_=>False
def KV {κ:Type}:List (κ×V)->List (κ×Value)->Prop:=Paired fun(p:κ×V) (q:κ×Value)=>p.1=q.1/\RelV p.2 q.2
def kV:Key->V
 | .inl i=>.int i
 | .inr x=>.str x
inductive HO where
 | lst (xs:List V)
 | tup (xs:List V)
 | dK (kvs:List (Key×V)) | dT (kvs:List (List Key×V))
 | set (S:Int->Bool) (n:Nat)
 | ins (C dx:Addr) (fs:List (Str×V))
 | own (x:Addr)
 | xd (fs:List (Str×V))
 | met (f x:Addr)
 | rng (lo hi:Int)
 | frz (o:Obj) (u:HO)
 | tbl (ps:Array Value)
 | cod (q:Str)
 | ext (φ:Heap->Prop)
def Per:HO->Prop
 | .tup _=>True
 | .cod _=>True
 | _=>False
def qOf (qs:Array Value):Str:=match (qs[0]?:Option Value)with
 | some (.str q _)=>q
 | _ => ""
abbrev Hp:=Addr->Option HO
def upd (H:Hp)(a:Addr)(o:HO):Hp:=fun b=>if b=a then some o else H b
theorem ac {H:Hp}{a:Addr}{o:HO}:upd H a o a=some o:=by unfold upd;rw[if_pos rfl]
theorem am {H:Hp}{a b:Addr}{o:HO}(h:b≠a):upd H a o b=H b:=by unfold upd;rw[if_neg h]
theorem au {H:Hp}{a b:Addr}{o:HO}(h:H a=some o)(h':H b=none):a≠b:=by
 intro e;subst e;rw[h]at h';cases h'
section
variable (P:Program)(w:World)
def ObjOk (H:Hp)(h:Heap)(a:Addr):HO->Prop
 | .lst xs=>xs.length≤sizeLine/\∃(its:List Value) (n:Nat),Vals xs its/\h.get? a=some { cls:=.type "list", data:=.seq its.toArray n }
 | .tup xs=>xs.length≤sizeLine/\∃its:List Value,Vals xs its/\IsTup h a its.toArray
 | .dK kvs=>kvs.length≤sizeLine/\(a == sysModules)=false/\∃vs,KV kvs vs/\h.DictOf (d6 P w) a vs
 | .dT kvs=>kvs.length≤sizeLine/\(a == sysModules)=false/\∃xs:List (List Key×Addr×Value),
  Paired (fun(p:List Key×V) (q:List Key×Addr×Value)=>p.1=q.1/\H q.2.1=some (.tup (p.1.map kV))/\RelV p.2 q.2.2) kvs xs ∧
  ∃o es ep,h.get? a=some o/\o.ExactDict/\o.data = .dict es ep/\es.toList=xs.map (entryOfKey (tupleKind (d6 P w)))/\(xs.map (·.1)).Nodup
 | .set S n=>h.SetOf (intKind P w) a S n
 | .ins C dx fs=>H dx=some (.own a)/\fs.length≤1000/\dx≠a/\h.get? a=some (PySem.W.instObj C dx) ∧
  ∃mA,h.Ns1 dx mA/\(∀f,RelO (fs.lookup f) (mA f))/\PySem.Within mA (fs.map (·.1))
 | .own _=>∃o,h.get? a=some o
 | .xd fs=>∃mA,h.Ns1 a mA/\∀f,RelO (fs.lookup f) (mA f)
 | .rng lo hi=>∃t u v,h.get? a=some { cls:=.type "range", data:=.fields #[.int lo t,.int hi u,.int 1 v] }
 | .frz o u=>h.get? a=some o/\ObjOk H h a u
 | .tbl qs=>∃ps:Array Value,h.get? a=some { cls:=.none,data:=.fields ps }/\TriplesOk ps.toList/\∀(pos:Pos) (cv:Value),codeAmong pos ps.toList=some cv->∃c,cv = .ref c/\H c=some (.cod (qOf qs))
 | .cod q=>h.CodeRec (.ref a) q
 | .met f x=>h.get? a=some (PySem.W.methodObj (.ref f) (.ref x))
 | .ext φ=>φ h/\(∃o,h.get? a=some o)/\∀h1 h2:Heap,φ h1->(∀o,h1.get? a=some o->h2.get? a=some o)->φ h2
def HOk (H:Hp)(h:Heap):Prop:=∀a o,H a=some o->ObjOk P w H h a o
end
section
variable {P:Program}{w:World}{H H':Hp}{h h':Heap}{a:Addr}{o:HO}
theorem ObjOk.lt (x:ObjOk P w H h a o):a < h.objs.size:=by
 cases o with
 | lst xs=>obtain⟨_,_,_,_,e⟩:=x;exact Heap.lt_size e
 | tup xs=>obtain⟨_,_,_,p⟩:=x;exact p.lt
 | dK kvs=>obtain⟨_,_,_,_,o,_,_,e,_⟩:=x;exact Heap.lt_size e
 | dT kvs=>obtain⟨_,_,_,_,o,_,_,e,_⟩:=x;exact Heap.lt_size e
 | set S n=>obtain⟨o,_,_,_,e,_⟩:=x;exact Heap.lt_size e
 | ins C dx fs=>obtain⟨_,_,_,e,_⟩:=x;exact Heap.lt_size e
 | own y=>obtain⟨_,e⟩:=x;exact Heap.lt_size e
 | xd fs=>obtain⟨_,⟨_,_,_,e,_⟩,_⟩:=x;exact Heap.lt_size e
 | rng lo hi=>obtain⟨_,_,_,e⟩:=x;exact Heap.lt_size e
 | frz ob u=>obtain⟨e,_⟩:=x;exact Heap.lt_size e
 | tbl ps=>obtain⟨_,e,_⟩:=x;exact Heap.lt_size e
 | cod q=>obtain⟨_,_,_,_,e0,e,_⟩:=x;cases e0;exact Heap.lt_size e
 | met f y=>exact Heap.lt_size (show h.get? a=some _ from x)
 | ext φ=>obtain⟨_,⟨_,e⟩,_⟩:=x;exact Heap.lt_size e
theorem Paired.mapP {α β:Type}{F G:α->β->Prop}:∀{l₁:List α} {l₂:List β},Paired F l₁ l₂->(∀a b,F a b->G a b)->Paired G l₁ l₂
 | _,_,.nil,_=>.nil
 | _,_,.cons r t,f=>.cons (f _ _ r) (Paired.mapP t f)
theorem ObjOk.stay (x:ObjOk P w H h a o)(k:∀b u,(b=a∨H b=some (.own a))->h.get? b=some u->h'.get? b=some u)(ho:∀b,H b=some (.own a)->H' b=some (.own a))(ht:∀b u,Per u->H b=some u->H' b=some u):ObjOk P w H' h' a o:=by
 induction o with
 | lst xs=>obtain⟨z,its,n,r,e⟩:=x;exact⟨z,its,n,r,k _ _ (.inl rfl) e⟩
 | tup xs=>obtain⟨z,its,r,ob,e,c⟩:=x;exact⟨z,its,r,ob,k _ _ (.inl rfl) e,c⟩
 | dK kvs=>obtain⟨z,y,vs,r,ob,es,ep,e,c⟩:=x;exact⟨z,y,vs,r,ob,es,ep,k _ _ (.inl rfl) e,c⟩
 | dT kvs =>
  obtain⟨z,y,xs,r,ob,es,ep,e,c⟩:=x;exact⟨z,y,xs,Paired.mapP r fun p q z=>⟨z.1,ht _ _ trivial z.2.1,z.2.2⟩,ob,es,ep,k _ _ (.inl rfl) e,c⟩
 | set S n=>obtain⟨ob,es,ep,t,e,c⟩:=x;exact⟨ob,es,ep,t,k _ _ (.inl rfl) e,c⟩
 | ins C dx fs =>
  obtain⟨d,z,ne,e,mA,⟨od,es,ep,e2,c⟩,r⟩:=x;exact⟨ho _ d,z,ne,k _ _ (.inl rfl) e,mA,⟨od,es,ep,k _ _ (.inr d) e2,c⟩,r⟩
 | own y=>obtain⟨ob,e⟩:=x;exact⟨ob,k _ _ (.inl rfl) e⟩
 | xd fs=>obtain⟨mA,⟨od,es,ep,e,c⟩,r⟩:=x;exact⟨mA,⟨od,es,ep,k _ _ (.inl rfl) e,c⟩,r⟩
 | rng lo hi=>obtain⟨t,u,v,e⟩:=x;exact⟨t,u,v,k _ _ (.inl rfl) e⟩
 | frz ob u ih=>obtain⟨e,q⟩:=x;exact⟨k _ _ (.inl rfl) e,ih q⟩
 | tbl qs =>
  obtain⟨ps,e,tr,f⟩:=x;exact⟨ps,k a _ (.inl rfl) e,tr,fun pos cv hc=>let ⟨c,e1,e2⟩:=f pos cv hc;⟨c,e1,ht _ _ trivial e2⟩⟩
 | cod q =>
  obtain⟨c,oc,vs,tq,e0,e,r⟩:=x;cases e0;exact⟨a,oc,vs,tq,rfl,k a _ (.inl rfl) e,r⟩
 | met f y =>
  have e:h.get? a=some (PySem.W.methodObj (.ref f) (.ref y)):=x;show h'.get? a=some (PySem.W.methodObj (.ref f) (.ref y));exact k a _ (.inl rfl) e
 | ext φ=>obtain⟨p,⟨o,e⟩,st⟩:=x;exact⟨st _ _ p fun o q=>k _ _ (.inl rfl) q,⟨o,k _ _ (.inl rfl) e⟩,st⟩
theorem HOk.lt (x:HOk P w H h)(e:H a=some o):a < h.objs.size:=(x a o e).lt
theorem HOk.fresh (x:HOk P w H h)(e:h.objs.size≤a):H a=none:=by
 cases q:H a with
 | none=>rfl
 | some u=>exact absurd (Nat.lt_of_lt_of_le (x.lt q) e) (Nat.lt_irrefl _)
theorem HOk.kept (x:HOk P w H h)(k:∀b u,h.get? b=some u->h'.get? b=some u):HOk P w H h':=fun a o e =>
 (x a o e).stay (fun b u _ q=>k b u q) (fun _ q=>q) fun _ _ _ q=>q
theorem HOk.laid (x:HOk P w H h)(k:∀b u,h.get? b=some u->h'.get? b=some u)(hp:h.objs.size≤a)(new:ObjOk P w (upd H a o) h' a o):HOk P w (upd H a o) h':=fun b u e=>by
 have hn:=x.fresh hp;by_cases hb:b=a
 . subst hb;rw[ac]at e;cases e;exact new
 . rw[am hb]at e;exact(x b u e).stay (fun c v _ q=>k c v q) (fun c q=>by rw[am (au q hn)];exact q) fun c xs _ q=>by rw[am (au q hn)];exact q
end
def Rd (H:Hp)(a:Addr)(u:HO):Prop:=H a=some u∨∃o,H a=some (.frz o u)
theorem Rd.ok {P:Program}{w:World}{H:Hp}{h:Heap}{a:Addr}{u:HO}(r:Rd H a u)(x:HOk P w H h):ObjOk P w H h a u:=by
 rcases r with r | ⟨o,r⟩
 . exact x a u r
 . obtain⟨_,q⟩:=x a _ r;exact q
def Mut:Option HO->Prop
 | some (.lst _)=>True
 | some (.dK _)=>True
 | some (.dT _)=>True
 | some (.set _ _)=>True
 | some (.ins _ _ _)=>True
 | some (.ext _)=>True
 | _=>False
section
variable {P:Program}{w:World}{H:Hp}{h h':Heap}{x e:Addr}{o':HO}
theorem HOk.write (ok:HOk P w H h)(mu:Mut (H x))(he:e=x∨H e=some (.own x))(k:∀b u,b≠e->h.get? b=some u->h'.get? b=some u)(heo:∃u,h'.get? e=some u)(new:ObjOk P w (upd H x o') h' x o'):HOk P w (upd H x o') h':=fun b u q=>by
 have nown:∀c y,H c=some (.own y)->c≠x:=fun c y r z=>by subst z;rw[r]at mu;exact mu
 have ntup:∀c xs,H c=some (.tup xs)->c≠x:=fun c xs r z=>by subst z;rw[r]at mu;exact mu
 have nper:∀c u,Per u->H c=some u->c≠x:=fun c u pu r z=>by
  subst z;rw[r]at mu;cases u<;>first | exact mu | exact pu
 by_cases hb:b=x
 . subst hb;rw[ac]at q;cases q;exact new
 . rw[am hb]at q;by_cases hbe:b=e
   . have q':H b=some (.own x):=by
      rcases he with z | z
      . exact absurd (hbe.trans z) hb
      . rw[hbe];exact z
     rw[q]at q';cases q';obtain⟨v,hv⟩:=heo;exact⟨v,by rw[hbe];exact hv⟩
   . refine(ok b u q).stay (fun c v hc r=>k c v ?_ r) (fun c r=>by rw[am (nown c b r)];exact r) fun c u pu r=>by rw[am (nper c u pu r)];exact r
     rcases hc with rfl | hc
     . exact hbe
     . rintro rfl;rcases he with z | z
       . exact nown c b hc z
       . rw[hc]at z;cases z;exact hb rfl
end
structure Un (fs ex:List Addr) (H H':Hp) (h h':Heap):Prop where
 keep:∀b o,h.get? b=some o->H b=none->b∉fs->b∉ex->h'.get? b=some o
 slot:∀b o,h.get? b=some o->H b=none->b∈fs->b∉ex->∃sl,h'.get? b=some { o with slots:=sl }
 free:∀b o,h.get? b=some o->H b=none->b∉ex->H' b=none
 there:∀b o,h.get? b=some o->b∉ex->∃o',h'.get? b=some o'
 tups:∀b xs,H b=some (.tup xs)->H' b=some (.tup xs)
 frzs:∀b o u,H b=some (.frz o u)->H' b=some (.frz o u)
 tbls:∀b ps,H b=some (.tbl ps)->∃more,H' b=some (.tbl (ps++more))
section
variable {fs fs' ex ex':List Addr}{H H1 H2:Hp}{h h1 h2 h':Heap}{a x e:Addr}{o:HO}
theorem Un.any (u:Un fs ex H H1 h h1){b:Addr}{ob:Obj}(q:h.get? b=some ob)(n:H b=none)(hx:b∉ex):∃sl,h1.get? b=some { ob with slots:=sl }:=by
 by_cases hb:b∈fs
 . exact u.slot b ob q n hb hx
 . exact⟨ob.slots,u.keep b ob q n hb hx⟩
theorem Un.kept (k:∀b u,h.get? b=some u->h'.get? b=some u):Un fs ex H H h h':=
 ⟨fun b ob q _ _ _=>k b ob q,fun b ob q _ _ _=>⟨ob.slots,k b ob q⟩,fun _ _ _ n _=>n,fun b ob q _=>⟨ob,k b ob q⟩,fun _ _ q=>q,fun _ _ _ q=>q,fun _ ps q=>⟨#[],by rw[q];simp⟩⟩
theorem Un.refl:Un fs ex H H h h:=Un.kept fun _ _ q=>q
theorem Un.laid (k:∀b u,h.get? b=some u->h'.get? b=some u)(hp:h.objs.size≤a)(hn:H a=none):Un fs ex H (upd H a o) h h' where
 keep:=fun b u q _ _ _=>k b u q
 slot:=fun b u q _ _ _=>⟨u.slots,k b u q⟩
 free:=fun b u q n _=>by rw[am (Nat.ne_of_lt (Nat.lt_of_lt_of_le (Heap.lt_size q) hp))];exact n
 there:=fun b u q _=>⟨u,k b u q⟩
 tups:=fun b xs q=>by rw[am (au q hn)];exact q
 frzs:=fun b u xs q=>by rw[am (au q hn)];exact q
 tbls:=fun b ps q=>⟨#[],by rw[am (au q hn),q];simp⟩
theorem Un.write (mu:Mut (H x))(he:e=x∨H e=some (.own x))(k:∀b u,b≠e->h.get? b=some u->h'.get? b=some u)(heo:∃u,h'.get? e=some u):Un fs ex H (upd H x o) h h':=by
 have hx:∀b,H b=none->b≠x:=fun b n z=>by subst z;rw[n]at mu;exact mu
 have hb:∀b,H b=none->b≠e:=fun b n z=>by
  subst z;rcases he with r | r
  . exact hx b n r
  . rw[n]at r;cases r
 have hm:∀b u,H b=some u->¬Mut (some u)->b≠x:=fun b u q nm z=>by subst z;rw[q]at mu;exact nm mu
 refine⟨fun b u q n _ _=>k b u (hb b n) q,fun b u q n _ _=>⟨u.slots,k b u (hb b n) q⟩,fun b u q n _=>by rw[am (hx b n)];exact n,fun b u q _=>?_,
  fun b xs q=>by rw[am (hm b _ q fun z=>z)];exact q,fun b u xs q=>by rw[am (hm b _ q fun z=>z)];exact q,fun b ps q=>⟨#[],by rw[am (hm b _ q fun z=>z),q];simp⟩⟩
 by_cases hbe:b=e
 . subst hbe;exact heo
 . exact⟨u,k b u hbe q⟩
end
def trk (h:Heap)(H:Hp):List Addr:=(List.range h.objs.size).filter fun a=>(H a).isSome
def hidT (h:Heap)(H:Hp):Heap:=PySem.W.hideAll h (trk h H)
theorem hidT_size (h:Heap)(H:Hp):(hidT h H).objs.size=h.objs.size:=PySem.W.hideAll_size _ _
theorem hidT_get {h:Heap}{H:Hp}{b:Addr}{o:Obj}(e:h.get? b=some o)(n:H b=none):(hidT h H).get? b=some o:=
 PySem.W.hideAll_get _ e fun hm=>by
  have q:(H b).isSome=true:=(List.mem_filter.mp hm).2;rw[n]at q;simp at q
theorem of_hidT {h:Heap}{H:Hp}{b:Addr}{o:Obj}(e:(hidT h H).get? b=some o):h.get? b=some o/\H b=none:=by
 have e':h.get? b=some o:=PySem.W.of_hideAll (trk h H) e;refine⟨e',?_⟩;cases q:H b with
 | none=>rfl
 | some x =>
  have hm:b∈trk h H:=List.mem_filter.mpr ⟨List.mem_range.mpr (Heap.lt_size e'),by simp[q]⟩
  have z:(hidT h H).get? b=none:=PySem.W.hideAll_none (trk h H) hm;rw[z]at e;cases e
end L2
namespace L2
open PySem PySem.Spec PyProof.Rows
structure Mod (K:PySem.W.Frag) (mg:Str->Option Value) (base:Heap):Prop where
 kin:K.In base
 glob:base.Ns mainGlobals mg
 blt:∃mb,base.Ns builtinsNs mb/\∀x:Str,x ≠ "__name__"->mb x=bootBuiltins x
 nolimit:base.NoLimit
 bmain:∃bm ob,mg "__builtins__" = some (.ref bm)/\bm≠builtinsNs/\base.get? bm=some ob/\ob.cls = .type "module"/\ob.dict=some builtinsNs/\ob.data = .plain
structure Cx where
 prog:Program
 w:World
 K:PySem.W.Frag
 mg:Str->Option Value
 base:Heap
 A:Around
 N:List Str
 s₀:Shared
 H₀:Hp
 env:Env
 outer:List Env
 stack:List Env
 ex:List Addr
 fn:Str->Bool
 calm:Bool
 pn:List (Addr×Obj)
 xe:Value->Shared->Prop
def frs (l:List Env):List Addr:=l.filterMap (·.frame)
abbrev Cx.fs (X:Cx):List Addr:=frs X.outer
def Vis (sc:Scope)(x:Str):Prop:=sc.names.lookup x=some .local∨sc.names.lookup x=some .cell∨sc.names.lookup x=some .free
def Loc (sc:Scope)(x:Str):Prop:=sc.names.lookup x=some .local∨sc.names.lookup x=some .cell
def Look (env:Env)(h:Heap)(m:Str->Option Value)(x:Str)(u:Value):Prop:=
 (env.kindOf x=some .local/\m x=some u)∨((env.kindOf x=some .cell∨env.kindOf x=some .free)/\∃c,env.cells.lookup x=some c/\h.IsCell c (some u))
structure Cx.Ok (X:Cx):Prop where
 mod:Mod X.K X.mg X.base
 kind:X.env.scope.kind = .function
 glob:X.env.globals=mainGlobals
 blt:X.env.builtins=builtinsNs
 above:X.s₀.heap.objs.size≤X.env.locals
 inj:∀x y c,X.env.cells.lookup x=some c->X.env.cells.lookup y=some c->x=y
 has:∀x,(X.env.kindOf x=some .cell∨X.env.kindOf x=some .free)->∃c,X.env.cells.lookup x=some c
 cab:∀x c,X.fn x=true->X.env.cells.lookup x=some c->X.s₀.heap.objs.size≤c
 hd:X.calm=true->X.A.handled=none
 frames:X.A.frames=some X.stack
 stk:X.stack=X.outer∨(X.stack=X.env::X.outer/\X.env.frame=some X.env.locals)
 exf:∀b∈X.ex,b≠X.env.locals/\∀x c,X.env.cells.lookup x=some c->c≠b
 bs:∀b o,X.base.get? b=some o->X.s₀.heap.get? b=some o/\X.H₀ b=none
 bsz:X.base.objs.size≤X.s₀.heap.objs.size
 noex:∀b o,X.base.get? b=some o->b∉X.ex
 exfs:∀b∈X.ex,b∉X.fs
 funs:X.s₀.heap.FunFrames X.base X.outer
 frf:∀b∈X.fs,X.H₀ b=none
structure Inv (X:Cx) (pins:List (Addr×Obj)) (σ:List (Option V)) (H:Hp) (s:Shared):Prop where
 ok:X.Ok
 os:s.os=X.s₀.os
 bare:AllBare s.gens
 base:Un X.fs X.ex X.H₀ H X.s₀.heap s.heap
 loc:∃m,s.heap.Ns X.env.locals m/\∀(i:Nat) (x:Str) (v:V),X.N[i]? = some x->σ[i]? = some (some v)->Vis X.env.scope x->∃u,RelV v u/\Look X.env s.heap m x u
 cell:∀x c,X.env.cells.lookup x=some c->∃v,s.heap.IsCell c v
 free:H X.env.locals=none
 freeC:∀x c,X.env.cells.lookup x=some c->H c=none
 pin:∀p∈X.pn++pins,s.heap.get? p.1=some p.2/\H p.1=none/\p.1≠X.env.locals/\p.1∉X.fs/\∀v,p.2.data≠.cell v
 hok:HOk X.prog X.w H s.heap
 len:σ.length=X.N.length
section
variable {X:Cx}{pins:List (Addr×Obj)}{σ:List (Option V)}{H H':Hp}{s:Shared}{h':Heap}
theorem Cx.Ok.nofr (ok:X.Ok){b:Addr}{o:Obj}(e:X.base.get? b=some o):b∉X.fs:=fun hb=>by
 have:=(ok.funs.mem hb).1;rw[e]at this;cases this
theorem Inv.bs (I:Inv X pins σ H s):∀b o,X.base.get? b=some o->s.heap.get? b=some o/\H b=none:=fun b o e =>
 ⟨I.base.keep b o (I.ok.bs b o e).1 (I.ok.bs b o e).2 (I.ok.nofr e) (I.ok.noex b o e),I.base.free b o (I.ok.bs b o e).1 (I.ok.bs b o e).2 (I.ok.noex b o e)⟩
theorem Inv.bk (I:Inv X pins σ H s):∀b o,X.base.get? b=some o->s.heap.get? b=some o:=fun b o e=>(I.bs b o e).1
theorem Inv.mod (I:Inv X pins σ H s):Mod X.K X.mg X.base:=I.ok.mod
theorem Inv.kIn (I:Inv X pins σ H s):X.K.In s.heap:=I.ok.mod.kin.keeps I.bk
theorem Inv.lt (I:Inv X pins σ H s):X.env.locals < s.heap.objs.size:=let ⟨_,hn,_⟩:=I.loc;hn.lt
theorem Inv.sz (I:Inv X pins σ H s):X.s₀.heap.objs.size≤s.heap.objs.size:=Nat.le_trans I.ok.above (Nat.le_of_lt I.lt)
theorem Inv.nofs (I:Inv X pins σ H s){a:Addr}(h:s.heap.objs.size≤a):a∉X.fs:=fun hb=>by
 obtain⟨_,o,ho,_⟩:=I.ok.funs.mem hb;exact absurd (Nat.lt_of_lt_of_le (Heap.lt_size ho) (Nat.le_trans I.sz h)) (Nat.lt_irrefl _)
theorem Inv.cne (I:Inv X pins σ H s):∀x c,X.env.cells.lookup x=some c->c≠X.env.locals:=fun x c e z=>by
 obtain⟨v,o,ho,hd⟩:=I.cell x c e;obtain⟨m,⟨o',es,ep,ho',hd',_⟩,_⟩:=I.loc;rw[z,ho']at ho;cases ho;rw[hd']at hd;cases hd
theorem Inv.funs (I:Inv X pins σ H s):s.heap.FunFrames X.base X.outer:=by
 have all:∀(l:List Env),(∀b∈frs l,b∈X.fs)->X.s₀.heap.FunFrames X.base l->s.heap.FunFrames X.base l:=by
  intro l
  induction l with
  | nil=>intro _ _;trivial
  | cons env r ih =>
   intro hs hl;obtain⟨hk,⟨L,o,hf,hn,ho,hd⟩,hr⟩:=hl;have hL:L∈X.fs:=hs L (by unfold frs;rw[List.filterMap_cons,hf];exact List.mem_cons_self)
   obtain⟨sl,e⟩:=I.base.slot L o ho (I.ok.frf L hL) hL fun z=>I.ok.exfs L z hL;exact⟨hk,⟨L,_,hf,hn,e,hd⟩,ih (fun b hb=>hs b (by unfold frs;rw[List.filterMap_cons,hf];exact List.mem_cons_of_mem _ hb)) hr⟩
 exact all X.outer (fun _ hb=>hb) I.ok.funs
theorem Inv.stack (I:Inv X pins σ H s):s.heap.FunFrames X.base X.stack:=by
 rcases I.ok.stk with e | ⟨e,hf⟩
 . rw[e];exact I.funs
 . rw[e];obtain⟨m,hn,_⟩:=I.loc;refine .cons (by rw[I.ok.kind];decide) hf hn ?_ I.funs
   exact Heap.get?_none_of_le (Nat.le_trans I.ok.bsz I.ok.above)
theorem Inv.stkSub (I:Inv X pins σ H s):∀b∈frs X.stack,b∈X.env.locals::X.fs:=fun b hb=>by
 rcases I.ok.stk with e | ⟨e,hf⟩
 . rw[e]at hb;exact List.mem_cons_of_mem _ hb
 . rw[e]at hb;unfold frs at hb;rw[List.filterMap_cons,hf]at hb;exact hb
theorem Inv.stkFree (I:Inv X pins σ H s):∀b∈frs X.stack,H b=none:=fun b hb=>by
 rcases List.mem_cons.mp (I.stkSub b hb)with e | hb
 . rw[e];exact I.free
 . obtain⟨_,o,ho,_⟩:=I.ok.funs.mem hb;exact I.base.free b o ho (I.ok.frf b hb) fun z=>I.ok.exfs b z hb
theorem Inv.step {g':Array GenState}{t':Nat}{d':Drawn}{ch:List Addr}(I:Inv X pins σ H s)(hch:∀b∈ch,(b∈X.ex∨X.s₀.heap.objs.size≤b)/\b≠X.env.locals/\(∀x c,X.env.cells.lookup x=some c->c≠b)/\∀p∈X.pn++pins,p.1≠b)(keep:∀b o,b≠X.env.locals->b∉X.fs->b∉ch->s.heap.get? b=some o->H b=none->h'.get? b=some o)(slot:∀b o,b≠X.env.locals->b∈X.fs->b∉ch->s.heap.get? b=some o->H b=none->∃sl,h'.get? b=some { o with slots:=sl })(free:∀b o,b∉ch->s.heap.get? b=some o->H b=none->H' b=none)
 (there:∀b o,b∉ch->s.heap.get? b=some o->∃o',h'.get? b=some o')
 (tups:∀b xs,H b=some (.tup xs)->H' b=some (.tup xs)) (frzs:∀b o u,H b=some (.frz o u)->H' b=some (.frz o u)) (tbls:∀b ps,H b=some (.tbl ps)->∃more,H' b=some (.tbl (ps++more)))
 (ns:∀m,s.heap.Ns X.env.locals m->h'.Ns X.env.locals m) (hok:HOk X.prog X.w H' h') (hg:AllBare g') :
 Inv X pins σ H' { s with heap:=h',gens:=g',drawn:=d',toks:=t' }:=by
 have neL:∀b o,X.s₀.heap.get? b=some o->b≠X.env.locals:=fun b o e=>Nat.ne_of_lt (Nat.lt_of_lt_of_le (Heap.lt_size e) I.ok.above);have neC:∀b o,X.s₀.heap.get? b=some o->b∉X.ex->b∉ch:=fun b o e hx hb=>by
  rcases(hch b hb).1 with z | z
  . exact hx z
  . exact absurd (Nat.lt_of_lt_of_le (Heap.lt_size e) z) (Nat.lt_irrefl _)
 have cellK:∀x c,X.env.cells.lookup x=some c->∀v,s.heap.IsCell c v->h'.IsCell c v:=fun x c e v ⟨o,ho,hd⟩=>by
  have nch:c∉ch:=fun z=>(hch c z).2.2.1 x c e rfl;by_cases hc:c∈X.fs
  . obtain⟨sl,q⟩:=slot c o (I.cne x c e) hc nch ho (I.freeC x c e);exact⟨_,q,hd⟩
  . exact⟨o,keep c o (I.cne x c e) hc nch ho (I.freeC x c e),hd⟩
 refine⟨I.ok,I.os,hg,⟨fun b o e n hb hx=>?_,fun b o e n hb hx=>?_,fun b o e n hx=>?_,fun b o e hx=>?_,fun b xs e=>tups b xs (I.base.tups b xs e),fun b o xs e=>frzs b o xs (I.base.frzs b o xs e),fun b ps e=>?_⟩,?_,fun x c e=>?_,?_,fun x c e=>?_,fun p hp=>?_,hok,I.len⟩
 . exact keep b o (neL b o e) hb (neC b o e hx) (I.base.keep b o e n hb hx) (I.base.free b o e n hx)
 . obtain⟨sl,e1⟩:=I.base.slot b o e n hb hx;obtain⟨sl',e2⟩:=slot b _ (neL b o e) hb (neC b o e hx) e1 (I.base.free b o e n hx);exact⟨sl',e2⟩
 . obtain⟨o',e1⟩:=I.base.there b o e hx;exact free b o' (neC b o e hx) e1 (I.base.free b o e n hx)
 . obtain⟨o',e1⟩:=I.base.there b o e hx;exact there b o' (neC b o e hx) e1
 . obtain⟨m1,e1⟩:=I.base.tbls b ps e;obtain⟨m2,e2⟩:=tbls b _ e1;exact⟨m1++m2,by rw[e2,Array.append_assoc]⟩
 . obtain⟨m,hn,hl⟩:=I.loc;refine⟨m,ns m hn,fun i x v e1 e2 e3=>?_⟩;obtain⟨u,r,l⟩:=hl i x v e1 e2 e3;refine⟨u,r,?_⟩;rcases l with l | ⟨k,c,e,z⟩
   . exact .inl l
   . exact .inr ⟨k,c,e,cellK x c e _ z⟩
 . obtain⟨v,z⟩:=I.cell x c e;exact⟨v,cellK x c e v z⟩
 . obtain⟨m,⟨o,_,_,ho,_⟩,_⟩:=I.loc;exact free _ o (fun z=>(hch _ z).2.1 rfl) ho I.free
 . obtain⟨v,o,ho,hd⟩:=I.cell x c e;exact free c o (fun z=>(hch c z).2.2.1 x c e rfl) ho (I.freeC x c e)
 . obtain⟨e,n,ne,nf,d⟩:=I.pin p hp;have nch:p.1∉ch:=fun z=>(hch p.1 z).2.2.2 p hp rfl;exact⟨keep p.1 p.2 ne nf nch e n,free p.1 p.2 nch e n,ne,nf,d⟩
theorem Inv.un {t':Nat}(I:Inv X pins σ H s)(u:Un X.fs [] H H' s.heap h')(hok:HOk X.prog X.w H' h'):Inv X pins σ H' { s with heap:=h',toks:=t' }:=by
 obtain⟨m,⟨o,es,ep,ho,r⟩,_⟩:=id I.loc;obtain⟨sl,hL⟩:=u.any ho I.free (by simp)
 exact I.step (g':=s.gens) (d':=s.drawn) (ch:=[]) (fun _ z=>nomatch z) (fun b o _ hb _ e n=>u.keep b o e n hb (by simp)) (fun b o _ hb _ e n=>u.slot b o e n hb (by simp)) (fun b o _ e n=>u.free b o e n (by simp)) (fun b o _ e=>u.there b o e (by simp)) u.tups u.frzs u.tbls (fun m' hm=>by
  obtain⟨o',es',ep',ho',r'⟩:=hm;rw[ho]at ho';cases ho';exact⟨_,es',ep',hL,r'⟩) hok I.bare
theorem Inv.call {g':Array GenState}{t':Nat}{d':Drawn}{ch:List Addr}(I:Inv X pins σ H s)(u:Un (frs X.stack) ch H H' s.heap h')(hok:HOk X.prog X.w H' h')(hg:AllBare g')(hch:∀b∈ch,(b∈X.ex∨X.s₀.heap.objs.size≤b)/\b≠X.env.locals/\(∀x c,X.env.cells.lookup x=some c->c≠b)/\∀p∈X.pn++pins,p.1≠b):Inv X pins σ H' { s with heap:=h',gens:=g',drawn:=d',toks:=t' }:=by
 obtain⟨m,⟨o,es,ep,ho,r⟩,_⟩:=id I.loc;obtain⟨sl,hL⟩:=u.any ho I.free fun z=>(hch _ z).2.1 rfl;exact I.step (ch:=ch) hch (fun b o hL hb hc e n=>u.keep b o e n (fun z=>(List.mem_cons.mp (I.stkSub b z)).elim hL hb) hc) (fun b o _ _ hc e n=>u.any e n hc) (fun b o hc e n=>u.free b o e n hc) (fun b o hc e=>u.there b o e hc) u.tups u.frzs u.tbls (fun m' hm=>by
  obtain⟨o',es',ep',ho',r'⟩:=hm;rw[ho]at ho';cases ho';exact⟨_,es',ep',hL,r'⟩) hok hg
theorem Inv.turned {t':Nat}{it:Addr}(I:Inv X pins σ H s)(k:∀b o,b≠it->s.heap.get? b=some o->h'.get? b=some o)(hn:H it=none)(hL:it≠X.env.locals)(h1:it∈X.ex∨X.s₀.heap.objs.size≤it)(h2:∀x c,X.env.cells.lookup x=some c->c≠it)(h3:∀p∈X.pn++pins,p.1≠it):Inv X pins σ H { s with heap:=h',toks:=t' }:=by
 have nit:∀b u,H b=some u->b≠it:=fun b u e z=>by rw[z,hn]at e;cases e
 refine I.step (g':=s.gens) (d':=s.drawn) (ch:=[it]) (fun b hb=>?_) (fun b o _ _ hc e _=>k b o (fun z=>hc (by simp[z])) e) (fun b o _ _ hc e _=>⟨o.slots,k b o (fun z=>hc (by simp[z])) e⟩) (fun _ _ _ _ n=>n)
  (fun b o hc e=>⟨o,k b o (fun z=>hc (by simp[z])) e⟩) (fun _ _ e=>e) (fun _ _ _ e=>e) (fun b ps e=>⟨#[],by rw[e];simp⟩) (fun m hm=>?_) (fun b u e=>?_) I.bare
 . have e:b=it:=by simpa using hb
   subst e;exact⟨h1,hL,h2,h3⟩
 . obtain⟨o,es,ep,ho,r⟩:=hm;exact⟨o,es,ep,k _ o (Ne.symm hL) ho,r⟩
 . refine(I.hok b u e).stay (fun c v hc q=>k c v ?_ q) (fun _ q=>q) fun _ _ _ q=>q;rcases hc with z | z
   . rw[z];exact nit b u e
   . exact nit c _ z
theorem Inv.tok (I:Inv X pins σ H s)(t:Nat):Inv X pins σ H { s with toks:=t }:=I.un (h':=s.heap) (t':=t) Un.refl I.hok
theorem Inv.kept {t':Nat}(I:Inv X pins σ H s)(k:∀b u,s.heap.get? b=some u->h'.get? b=some u):Inv X pins σ H { s with heap:=h',toks:=t' }:=I.un (Un.kept k) (I.hok.kept k)
theorem Inv.laid {a:Addr}{o:HO}{t':Nat}(I:Inv X pins σ H s)(k:∀b u,s.heap.get? b=some u->h'.get? b=some u)(hp:s.heap.objs.size≤a)(new:ObjOk X.prog X.w (upd H a o) h' a o):Inv X pins σ (upd H a o) { s with heap:=h',toks:=t' }:=I.un (Un.laid k hp (I.hok.fresh hp)) (I.hok.laid k hp new)
theorem Inv.write {x e:Addr}{o:HO}{t':Nat}(I:Inv X pins σ H s)(mu:Mut (H x))(he:e=x∨H e=some (.own x))(k:∀b u,b≠e->s.heap.get? b=some u->h'.get? b=some u)(heo:∃u,h'.get? e=some u)(new:ObjOk X.prog X.w (upd H x o) h' x o):Inv X pins σ (upd H x o) { s with heap:=h',toks:=t' }:=I.un (Un.write mu he k heo) (I.hok.write mu he k heo new)
theorem Inv.weak {σ':List (Option V)}(I:Inv X pins σ H s)(hl:σ'.length=σ.length)(w:∀(i:Nat) v,σ'[i]? = some (some v)->σ[i]? = some (some v)):Inv X pins σ' H s:=
 ⟨I.ok,I.os,I.bare,I.base,let ⟨m,hn,hl'⟩:=I.loc;⟨m,hn,fun i x v e1 e2 e3=>hl' i x v e1 (w i v e2) e3⟩,I.cell,I.free,I.freeC,I.pin,I.hok,hl.trans I.len⟩
theorem Inv.pins_of {pins':List (Addr×Obj)}(I:Inv X pins σ H s)(h:∀p∈pins',s.heap.get? p.1=some p.2/\H p.1=none/\p.1≠X.env.locals/\p.1∉X.fs/\∀v,p.2.data≠.cell v):Inv X pins' σ H s:=
 ⟨I.ok,I.os,I.bare,I.base,I.loc,I.cell,I.free,I.freeC,fun p hp=>(List.mem_append.mp hp).elim (fun z=>I.pin p (List.mem_append_left _ z)) (h p),I.hok,I.len⟩
theorem cc {N:List Str}(hN:N.Nodup){i j:Nat}{x:Str}(a:N[i]? = some x)(b:N[j]? = some x):i=j:=by
 obtain⟨h1,e1⟩:=List.getElem?_eq_some_iff.mp a;obtain⟨h2,e2⟩:=List.getElem?_eq_some_iff.mp b;exact(List.getElem_inj hN).mp (e1.trans e2.symm)
theorem store_ok2 {M:Model}{A:Around}{E:Value->Shared->Prop}{i:Nat}{x:Str}{v:V}{u:Value}{Q:Unit->Shared->Prop}(I:Inv X pins σ H s)(hN:X.N.Nodup)(hi:X.N[i]? = some x)(hx:Loc X.env.scope x)(r:RelV v u)(h:∀s',Inv X pins (σ.set i (some v)) H s'->(∃a,Heap.SameBut a s.heap s'.heap/\(a=X.env.locals∨X.env.cells.lookup x=some a))->Q () s')(hf:X.fn x=true∨X.env.scope.names.lookup x=some .local:=by first | exact .inl rfl | exact .inr rfl | assumption):wpAny M A (storeName X.env x u) Q E s:=by
 obtain⟨m,hn,hl⟩:=id I.loc;have hcls:(X.env.scope.kind == .class||(X.env.scope.kind == .module&&X.env.locals != X.env.globals))=false:=by rw[I.ok.kind];rfl
 have hiσ:i < σ.length:=by rw[I.len];exact(List.getElem?_eq_some_iff.mp hi).1
 have cne:=I.cne;have tracked:∀{a:Addr} {h':Heap},(∃o,s.heap.get? a=some o/\H a=none)->Heap.SameBut a s.heap h'->HOk X.prog X.w H h':=fun{a h'} ha hs b ob e=>by
  obtain⟨_,_,hfree⟩:=ha;refine(I.hok b ob e).stay (fun c w' hc q=>(hs.2 c ?_).trans q) (fun _ q=>q) fun _ _ _ q=>q;rintro rfl;rcases hc with rfl | hc
  . rw[hfree]at e;cases e
  . rw[hfree]at hc;cases hc
 rcases hx with hk | hk
 . refine wpAny_storeName_local hk hn (fun h' hn' hs=>?_) hcls;obtain⟨oL,_,_,hoL,_⟩:=id hn;refine h _ ⟨I.ok,I.os,I.bare,⟨fun b o e n hb hx=>?_,fun b o e n hb hx=>?_,I.base.free,fun b o e hx=>?_,I.base.tups,I.base.frzs,I.base.tbls⟩,⟨_,hn',fun j y v' e1 e2 e3=>?_⟩,fun y c e=>?_,I.free,I.freeC,fun p hp=>?_,tracked ⟨oL,hoL,I.free⟩ hs,by simpa using I.len⟩ ⟨_,hs,.inl rfl⟩
   . exact(hs.2 b (Nat.ne_of_lt (Nat.lt_of_lt_of_le (Heap.lt_size e) I.ok.above))).trans (I.base.keep b o e n hb hx)
   . obtain⟨sl,e1⟩:=I.base.slot b o e n hb hx;exact⟨sl,(hs.2 b (Nat.ne_of_lt (Nat.lt_of_lt_of_le (Heap.lt_size e) I.ok.above))).trans e1⟩
   . obtain⟨o',e1⟩:=I.base.there b o e hx;exact⟨o',(hs.2 b (Nat.ne_of_lt (Nat.lt_of_lt_of_le (Heap.lt_size e) I.ok.above))).trans e1⟩
   . by_cases hj:j=i
     . subst hj;rw[hi]at e1;cases e1;rw[List.getElem?_set_self hiσ]at e2;cases e2;exact⟨u,r,.inl ⟨hk,by simp⟩⟩
     . rw[List.getElem?_set_ne (Ne.symm hj)]at e2;obtain⟨u',r',q⟩:=hl j y v' e1 e2 e3;refine⟨u',r',?_⟩;rcases q with⟨k,e⟩ | ⟨k,c,e,z⟩
       . refine .inl ⟨k,?_⟩;have:y≠x:=fun e=>hj (cc hN e1 (e▸hi));simp[this,e]
       . exact .inr ⟨k,c,e,z.sameBut hs (cne y c e)⟩
   . obtain⟨w',z⟩:=I.cell y c e;exact⟨w',z.sameBut hs (cne y c e)⟩
   . obtain⟨e,n,ne,nf,d⟩:=I.pin p hp;exact⟨(hs.2 p.1 ne).trans e,n,ne,nf,d⟩
 . have hfn:X.fn x=true:=by
    rcases hf with z | z
    . exact z
    . rw[z]at hk;cases hk
   obtain⟨c,hc⟩:=I.ok.has x (.inl hk);obtain⟨w',z⟩:=I.cell x c hc;refine wpAny_storeName_cell I.ok.kind hk hc z (fun h' hc' hs=>?_);obtain⟨oc,hoc,hocd⟩:=id z;refine h { s with heap:=h' } ⟨I.ok,I.os,I.bare,⟨fun b o e n hb hx=>?_,fun b o e n hb hx=>?_,I.base.free,fun b o e hx=>?_,I.base.tups,I.base.frzs,I.base.tbls⟩,⟨m,hn.sameBut hs (Ne.symm (cne x c hc)),fun j y v' e1 e2 e3=>?_⟩,fun y c' e=>?_,I.free,I.freeC,fun p hp=>?_,tracked ⟨oc,hoc,I.freeC x c hc⟩ hs,by simpa using I.len⟩ ⟨c,hs,.inr hc⟩
   . exact(hs.2 b (Nat.ne_of_lt (Nat.lt_of_lt_of_le (Heap.lt_size e) (I.ok.cab x c hfn hc)))).trans (I.base.keep b o e n hb hx)
   . obtain⟨sl,e1⟩:=I.base.slot b o e n hb hx;exact⟨sl,(hs.2 b (Nat.ne_of_lt (Nat.lt_of_lt_of_le (Heap.lt_size e) (I.ok.cab x c hfn hc)))).trans e1⟩
   . obtain⟨o',e1⟩:=I.base.there b o e hx;exact⟨o',(hs.2 b (Nat.ne_of_lt (Nat.lt_of_lt_of_le (Heap.lt_size e) (I.ok.cab x c hfn hc)))).trans e1⟩
   . by_cases hj:j=i
     . subst hj;rw[hi]at e1;cases e1;rw[List.getElem?_set_self hiσ]at e2;cases e2;exact⟨u,r,.inr ⟨.inl hk,c,hc,hc'⟩⟩
     . rw[List.getElem?_set_ne (Ne.symm hj)]at e2;obtain⟨u',r',q⟩:=hl j y v' e1 e2 e3;refine⟨u',r',?_⟩;rcases q with q | ⟨k,c',e,z'⟩
       . exact .inl q
       . refine .inr ⟨k,c',e,z'.sameBut hs ?_⟩;rintro rfl;exact hj (cc hN e1 (I.ok.inj _ _ _ e hc▸hi))
   . by_cases hcc:c'=c
     . subst hcc;exact⟨_,hc'⟩
     . obtain⟨w2,z2⟩:=I.cell y c' e;exact⟨w2,z2.sameBut hs hcc⟩
   . obtain⟨e,n,ne,nf,d⟩:=I.pin p hp;refine⟨(hs.2 p.1 ?_).trans e,n,ne,nf,d⟩;intro q;rw[q,hoc]at e;have q':oc=p.2:=Option.some.inj e;exact d w' (by rw[←q'];exact hocd)
theorem bA {M:Model}{A:Around}{E:Value->Shared->Prop}{i:Nat}{x:Str}{v:V}{u:Value}{Q:Unit->Shared->Prop}(I:Inv X pins σ H s)(hN:X.N.Nodup)(hi:X.N[i]? = some x)(hx:Loc X.env.scope x)(r:RelV v u)(h:∀s',Inv X pins (σ.set i (some v)) H s'->Q () s')(hf:X.fn x=true∨X.env.scope.names.lookup x=some .local:=by first | exact .inl rfl | exact .inr rfl | assumption):wpAny M A (storeName X.env x u) Q E s:=
 store_ok2 I hN hi hx r (fun s' I' _=>h s' I') hf
theorem Inv.call' {s':Shared}{ch:List Addr}(I:Inv X pins σ H s)(ho:s'.os=s.os)(u:Un (frs X.stack) ch H H' s.heap s'.heap)(hok:HOk X.prog X.w H' s'.heap)(hg:AllBare s'.gens)(hch:∀b∈ch,(b∈X.ex∨X.s₀.heap.objs.size≤b)/\b≠X.env.locals/\(∀x c,X.env.cells.lookup x=some c->c≠b)/\∀p∈X.pn++pins,p.1≠b):Inv X pins σ H' s':=by
 obtain⟨h',g',d',t',o'⟩:=s';have e:o'=s.os:=ho;subst e;exact I.call (g':=g') (t':=t') (d':=d') u hok hg hch
end
abbrev XK:=Value->Option Addr->Hp->Prop
abbrev St:=List (Option V)
abbrev VK:=V->Hp->Prop
abbrev TE:=St->Hp->VK->Prop
abbrev TT:=St->Hp->(Bool->Hp->Prop)->Prop
abbrev TA:=St->Hp->(List V->Hp->Prop)->Prop
structure Ends where
 nx:St->Hp->Prop
 rt:VK
 bk:St->Hp->Prop:=fun _ _=>False
 ct:St->Hp->Prop:=fun _ _=>False
abbrev TS:=Ends->St->Hp->Prop
def EP (X:Cx)(pins:List (Addr×Obj))(σ:St)(Q:VK)(u:Value)(s':Shared):Prop:=∃v H',Inv X pins σ H' s'/\RelV v u/\Q v H'
def TP (X:Cx)(pins:List (Addr×Obj))(σ:St)(Q:Bool->Hp->Prop)(b:Bool)(s':Shared):Prop:=∃H',Inv X pins σ H' s'/\Q b H'
def AP (X:Cx)(pins:List (Addr×Obj))(σ:St)(Q:List V->Hp->Prop)(us:List Value)(s':Shared):Prop:=∃vs H',Inv X pins σ H' s'/\Vals vs us/\Q vs H'
def SP (X:Cx)(pins:List (Addr×Obj))(D:Ends)(f:Flow)(s':Shared):Prop:=
 match f with
 | .next=>∃σ' H',Inv X pins σ' H' s'/\D.nx σ' H'
 | .brk=>∃σ' H',Inv X pins σ' H' s'/\D.bk σ' H'
 | .cont=>∃σ' H',Inv X pins σ' H' s'/\D.ct σ' H'
 | .ret u=>∃v σ' H',Inv X pins σ' H' s'/\RelV v u/\D.rt v H'
def PE (X:Cx)(e:Expr)(t:TE):Prop:=
 ∀(pins:List (Addr×Obj)) (s:Shared) (σ:St) (H:Hp) (Q:VK),Inv X pins σ H s->t σ H Q->wpAny (model X.prog X.w) X.A (eval e X.env) (EP X pins σ Q) X.xe s
def PT (X:Cx)(e:Expr)(t:TT):Prop:=
 ∀(pins:List (Addr×Obj)) (s:Shared) (σ:St) (H:Hp) (Q:Bool->Hp->Prop),Inv X pins σ H s->t σ H Q->wpAny (model X.prog X.w) X.A (isTrue e X.env (eval e X.env)) (TP X pins σ Q) X.xe s
def PW (X:Cx)(e:Expr)(t:TT):Prop:=
 ∀(whole:Sem Value) (pins:List (Addr×Obj)) (s:Shared) (σ:St) (H:Hp) (Q:Bool->Hp->Prop),Inv X pins σ H s->t σ H Q->wpAny (model X.prog X.w) X.A (isTrue e X.env whole) (TP X pins σ Q) X.xe s
theorem PW.pt {X:Cx}{e:Expr}{t:TT}(h:PW X e t):PT X e t:=h _
def PA (X:Cx)(es:List Expr)(t:TA):Prop:=
 ∀(pos:Pos) (pins:List (Addr×Obj)) (s:Shared) (σ:St) (H:Hp) (Q:List V->Hp->Prop),Inv X pins σ H s->t σ H Q->wpAny (model X.prog X.w) X.A (spliced (backTo pos (starEach es X.env))) (AP X pins σ Q) X.xe s
def PS (X:Cx)(st:Stmt)(t:TS):Prop:=
 ∀(pins:List (Addr×Obj)) (s:Shared) (σ:St) (H:Hp) (D:Ends),Inv X pins σ H s->t D σ H->wpAny (model X.prog X.w) X.A (exec st X.env) (SP X pins D) X.xe s
def PSs (X:Cx)(st:List Stmt)(t:TS):Prop:=
 ∀(pins:List (Addr×Obj)) (s:Shared) (σ:St) (H:Hp) (D:Ends),Inv X pins σ H s->t D σ H->wpAny (model X.prog X.w) X.A (execs st X.env) (SP X pins D) X.xe s
theorem thn {α:Type}{t:Sem α}{Q Q':α->Shared->Prop}{M:Model}{A:Around}{E:Value->Shared->Prop}{s:Shared}(h:wpAny M A t Q E s)(hQ:∀a s,Q a s->Q' a s):wpAny M A t Q' E s:=wpAny_mono h hQ fun _ _ x=>x
end L2
namespace L2
open PySem PySem.Spec PyProof.Rows
section
variable {X:Cx}
def tVar (i:Nat):TE:=fun σ H Q=>∃v,σ[i]? = some (some v)/\Q v H
def tC (v:V):TE:=fun _ H Q=>Q v H
theorem dk {i:Nat}{x:Str}{pos:Pos}(hN:X.N[i]? = some x)(hv:Vis X.env.scope x)(hd:(x == ("__debug__" : Str))=false:=by decide)(hcd:(x == ("__classdict__" : Str))=false:=by decide):PE X (.Name x pos) (tVar i):=by
 intro pins s σ H Q I h;obtain⟨v,e,h⟩:=h;obtain⟨m,hn,hl⟩:=I.loc;obtain⟨u,r,l⟩:=hl i x v hN e hv;have fin:EP X pins σ Q u s:=⟨v,H,I,r,h⟩;rcases l with⟨hk,hm⟩ | ⟨hk,c,hc,hcell⟩
 . exact wpAny_Name (wpAny_loadName_local I.ok.kind hk hn hm fin) hd
 . rcases hk with hk | hk
   . exact wpAny_Name (wpAny_loadName_cell I.ok.kind hk hc hcell fin) hd
   . exact wpAny_Name (wpAny_loadName_free I.ok.kind hk hc hcell fin hcd) hd
theorem ah {i j pos}:PE X (.Constant (.int i) j pos) (tC (.int i)):=fun _ _ _ H _ I h=>wpAny_Constant_int ⟨.int i,H,I.tok _,⟨_,rfl⟩,h⟩
theorem bD {b j pos}:PE X (.Constant (.bool b) j pos) (tC (.bl b)):=fun _ _ _ H _ I h=>Constant_bool ⟨.bl b,H,I,rfl,h⟩
theorem pe_non {j pos}:PE X (.Constant .none j pos) (tC .non):=fun _ _ _ H _ I h=>Constant_none ⟨.non,H,I,rfl,h⟩
theorem ar {x j pos}:PE X (.Constant (.str x) j pos) (tC (.str x)):=fun _ _ _ H _ I h=>Calls.Constant_str ⟨.str x,H,I.tok _,⟨_,rfl⟩,h⟩
def Gl (X:Cx)(x:Str):Prop:=X.env.kindOf x=some .globalImplicit
theorem bj {E:Value->Shared->Prop}{pins:List (Addr×Obj)}{s:Shared}{σ:St}{H:Hp}{x:Str}{u:Value}{pos:Pos}{Q:Value->Shared->Prop}(I:Inv X pins σ H s)(hg:Gl X x)(hm:X.mg x=some u)(h:Q u s)(hd:(x == ("__debug__" : Str))=false:=by decide):wpAny (model X.prog X.w) X.A (eval (.Name x pos) X.env) Q E s:=
 Calls.Name_function_global I.ok.kind hg (Calls.loadGlobal_global (by rw[I.ok.glob];exact I.mod.glob.keeps I.bk) hm h) hd
theorem cY {E:Value->Shared->Prop}{pins:List (Addr×Obj)}{s:Shared}{σ:St}{H:Hp}{x:Str}{u:Value}{pos:Pos}{Q:Value->Shared->Prop}(I:Inv X pins σ H s)(hg:Gl X x)(hm:X.mg x=none)(hv:bootBuiltins x=some u)(h:Q u s)(hn:x ≠ "__name__" := by decide)(hd:(x == ("__debug__" : Str))=false:=by decide):wpAny (model X.prog X.w) X.A (eval (.Name x pos) X.env) Q E s:=by
 obtain⟨mb,h1,h2⟩:=I.mod.blt;exact Calls.Name_function_global I.ok.kind hg (Calls.loadGlobal_builtin (by rw[I.ok.glob];exact I.mod.glob.keeps I.bk) hm (by rw[I.ok.blt];exact h1.keeps I.bk) ((h2 x hn).trans hv) h) hd
theorem aj {x:Str}{v:V}{u:Value}{pos:Pos}(hg:Gl X x)(hm:X.mg x=some u)(r:RelV v u)(hd:(x == ("__debug__" : Str))=false:=by decide):PE X (.Name x pos) (tC v):=
 fun _ _ _ H _ I h=>bj I hg hm ⟨v,H,I,r,h⟩ hd
theorem cE {x:Str}{v:V}{u:Value}{pos:Pos}(hg:Gl X x)(hm:X.mg x=none)(hv:bootBuiltins x=some u)(r:RelV v u)(hn:x ≠ "__name__" := by decide)(hd:(x == ("__debug__" : Str))=false:=by decide):PE X (.Name x pos) (tC v):=
 fun _ _ _ H _ I h=>cY I hg hm hv ⟨v,H,I,r,h⟩ hn hd
variable {a b:Expr}{ta tb:TE}{pos:Pos}
def tB (t:TE):TT:=fun σ H Q=>t σ H fun x H1=>∃c,x = .bl c/\Q c H1
theorem aS {e:Expr}{t:TE}(h:PE X e t)(he:∀whole,isTrue e X.env whole=(do let v ←whole;standAt e.pos;holding [v] (truthy v)):=by intro _;rfl):PT X e (tB t):=by
 intro pins s σ H Q I hw;refine isTrue_plain (thn (h pins s σ H _ I hw) fun v s1 ⟨x,H1,I1,r1,q1⟩=>?_) (he _);obtain⟨d,rfl,q⟩:=q1;cases r1;exact wpAny_truthy_bool ⟨H1,I1,q⟩
variable {tA tB':TT}{rest:List Expr}
def tOr (t u:TT):TT:=fun σ H Q=>t σ H fun c H1=>if c=true then Q true H1 else u σ H1 Q
def tNot (t:TT):TT:=fun σ H Q=>t σ H fun c H1=>Q (!c) H1
theorem bY (ha:PT X a tA):PW X (.BoolOp .Or [a] pos) tA:=by
 intro wh pins s σ H Q I h;refine isTrue_or (thn (ha pins s σ H Q I h) fun c s1 e=>?_);cases c with
 | false=>exact isTrue_or_nil e
 | true=>exact e
theorem cN (ha:PT X a tA)(hb:PW X (.BoolOp .Or (b::rest) pos) tB'):PW X (.BoolOp .Or (a::b::rest) pos) (tOr tA tB'):=by
 intro wh pins s σ H Q I h;refine isTrue_or (thn (ha pins s σ H _ I h) fun c s1 ⟨H1,I1,q1⟩=>?_);cases c with
 | true=>exact⟨H1,I1,q1⟩
 | false=>exact hb wh pins s1 σ H1 Q I1 q1
theorem bw (ha:PT X a tA):PT X (.UnaryOp .Not a pos) (tNot tA):=by
 intro pins s σ H Q I h;exact isTrue_not (ha pins s σ H (fun c H1=>Q (!c) H1) I h)
def tAndV (ta tb:TE):TE:=fun σ H Q=>ta σ H fun x H1=>∃c,x = .bl c/\if c=true then tb σ H1 Q else Q (.bl false) H1
theorem pe_one {op}{t:TE}(h:PE X a t):PE X (.BoolOp op [a] pos) t:=fun pins s σ H Q I hw=>BoolOp_one (h pins s σ H Q I hw)
theorem pe_and (ha:PE X a ta)(hb:PE X (.BoolOp .And (b::rest) pos) tb):PE X (.BoolOp .And (a::b::rest) pos) (tAndV ta tb):=by
 intro pins s σ H Q I h;refine BoolOp_and (thn (ha pins s σ H _ I h) fun v s1 ⟨x,H1,I1,r1,q1⟩=>?_);obtain⟨c,rfl,q1⟩:=q1;cases r1;refine wpAny_truthy_bool ?_;cases c with
 | true=>exact hb pins s1 σ H1 Q I1 q1
 | false=>exact⟨.bl false,H1,I1,rfl,q1⟩
end
end L2
namespace L2
open PySem PySem.Spec PyProof.Rows
def SqL (K:PySem.W.Frag)(H:Hp)(a:Addr)(xs:List V):Prop:=
 Rd H a (.lst xs) ∨
  ∃(o:Obj) (its:Array Value) (n:Nat),K.lookup a=some o/\o.cls = .type "list"/\o.dict=none/\o.data = .seq its n/\its.size≤sizeLine/\Vals xs its.toList
def SqT (K:PySem.W.Frag)(H:Hp)(a:Addr)(xs:List V):Prop:=
 Rd H a (.tup xs) ∨
  ∃(o:Obj) (its:Array Value) (n:Nat),K.lookup a=some o/\o.cls = .type "tuple"/\o.data = .seq its n/\its.size≤sizeLine/\Vals xs its.toList
def absV:Value->Option V
 | .none=>some .non
 | .bool b=>some (.bl b)
 | .int i _=>some (.int i)
 | .str x _=>some (.str x)
 | .bytes b _=>some (.byt b)
 | .float b _=>some (.flt b)
 | .ref a=>some (.ref a)
 | .type n=>some (.ty n)
 | _=>none
theorem RelV.abs {x:V}{u:Value}(r:RelV x u):absV u=some x:=by
 cases x with
 | non=>cases r;rfl
 | bl _=>cases r;rfl
 | int _=>obtain⟨t,rfl⟩:=r;rfl
 | str _=>obtain⟨t,rfl⟩:=r;rfl
 | byt _=>obtain⟨t,rfl⟩:=r;rfl
 | flt _=>obtain⟨t,rfl⟩:=r;rfl
 | ref _=>cases r;rfl
 | ty _=>cases r;rfl
theorem RelV.inj {x y:V}{u:Value}(r:RelV x u)(q:RelV y u):x=y:=Option.some.inj (r.abs.symm.trans q.abs)
theorem Vals.inj:∀{xs ys:List V} {us:List Value},Vals xs us->Vals ys us->xs=ys
 | _,_,_,.nil,.nil=>rfl
 | _,_,_,.cons r t,.cons r' t'=>by rw[r.inj r',Vals.inj t t']
section
variable {X:Cx}{pins:List (Addr×Obj)}{σ:St}{H:Hp}{s:Shared}{a:Addr}{xs ys:List V}
theorem SqL.of {K:PySem.W.Frag}(h:H a=some (.lst xs)):SqL K H a xs:=.inl (.inl h)
theorem SqT.of {K:PySem.W.Frag}(h:H a=some (.tup xs)):SqT K H a xs:=.inl (.inl h)
theorem Inv.list (I:Inv X pins σ H s)(h:SqL X.K H a xs):∃its:List Value,Vals xs its/\PlainL s.heap a its.toArray/\xs.length≤sizeLine:=by
 rcases h with h | ⟨o,its,n,hk,hc,hd,hs,hz,r⟩
 . obtain⟨z,its,n,r,e⟩:=h.ok I.hok;exact⟨its,r,⟨_,n,e,rfl,rfl,rfl⟩,z⟩
 . refine⟨its.toList,r,⟨o,n,I.kIn a o hk,hc,hd,by simpa using hs⟩,?_⟩
   have e:=r.length;simp only[Array.length_toList]at e;omega
theorem Inv.tuple (I:Inv X pins σ H s)(h:SqT X.K H a xs):∃its:List Value,Vals xs its/\IsTup s.heap a its.toArray/\xs.length≤sizeLine:=by
 rcases h with h | ⟨o,its,n,hk,hc,hs,hz,r⟩
 . obtain⟨z,its,r,p⟩:=h.ok I.hok;exact⟨its,r,p,z⟩
 . refine⟨its.toList,r,⟨o,I.kIn a o hk,hc,n,by simpa using hs⟩,?_⟩
   have e:=r.length;simp only[Array.length_toList]at e;omega
theorem Inv.list_inj (I:Inv X pins σ H s)(h:SqL X.K H a xs)(h':SqL X.K H a ys):xs=ys:=by
 obtain⟨its,r,⟨o,n,e,_,_,d⟩,_⟩:=I.list h;obtain⟨its',r',⟨o',n',e',_,_,d'⟩,_⟩:=I.list h';rw[e]at e';cases e';rw[d]at d';injection d' with d1 _
 have:its=its':=by simpa using congrArg Array.toList d1
 subst this;exact r.inj r'
end
abbrev Cx.wish (X:Cx)(E:Value->Shared->Prop):Cx:={ X with xe:=E }
abbrev Cx.nox (X:Cx):Cx:=X.wish fun _ _=>False
theorem Cx.Ok.wish {X:Cx}(ok:X.Ok)(E:Value->Shared->Prop):(X.wish E).Ok:=
 ⟨ok.mod,ok.kind,ok.glob,ok.blt,ok.above,ok.inj,ok.has,ok.cab,ok.hd,ok.frames,ok.stk,ok.exf,ok.bs,ok.bsz,ok.noex,ok.exfs,ok.funs,ok.frf⟩
theorem Cx.Ok.unwish {X:Cx}{E:Value->Shared->Prop}(ok:(X.wish E).Ok):X.Ok:=
 ⟨ok.mod,ok.kind,ok.glob,ok.blt,ok.above,ok.inj,ok.has,ok.cab,ok.hd,ok.frames,ok.stk,ok.exf,ok.bs,ok.bsz,ok.noex,ok.exfs,ok.funs,ok.frf⟩
section
variable {X:Cx}{pins:List (Addr×Obj)}{σ:St}{H:Hp}{s:Shared}{E:Value->Shared->Prop}
theorem Inv.wish (I:Inv X pins σ H s)(E:Value->Shared->Prop):Inv (X.wish E) pins σ H s:=⟨I.ok.wish E,I.os,I.bare,I.base,I.loc,I.cell,I.free,I.freeC,I.pin,I.hok,I.len⟩
theorem Inv.unwish (I:Inv (X.wish E) pins σ H s):Inv X pins σ H s:=⟨I.ok.unwish,I.os,I.bare,I.base,I.loc,I.cell,I.free,I.freeC,I.pin,I.hok,I.len⟩
theorem SP.unwish {D:Ends}{f:Flow}{s':Shared}(h:SP (X.wish E) pins D f s'):SP X pins D f s':=by
 cases f with
 | next=>obtain⟨σ',H',I,q⟩:=h;exact⟨σ',H',I.unwish,q⟩
 | brk=>obtain⟨σ',H',I,q⟩:=h;exact⟨σ',H',I.unwish,q⟩
 | cont=>obtain⟨σ',H',I,q⟩:=h;exact⟨σ',H',I.unwish,q⟩
 | ret u=>obtain⟨v,σ',H',I,r,q⟩:=h;exact⟨v,σ',H',I.unwish,r,q⟩
theorem PSs.nox {st:List Stmt}{t:TS}(h:PSs X.nox st t):PSs X st t:=fun pins s σ H D I hw =>
 wpAny_mono (h pins s σ H D (I.wish _) hw) (fun _ _ q=>q.unwish) fun _ _ z=>False.elim z
end
section
variable {X:Cx}{st:Stmt}{rest:List Stmt}{t u:TS}{e:Expr}{te:TE}{pos:Pos}
def tNext:TS:=fun D σ H=>D.nx σ H
def tSeq (t u:TS):TS:=fun D σ H=>t { D with nx:=u D } σ H
theorem ay:PSs X [] tNext:=fun _ _ σ H _ I h=>wpAny_execs_nil ⟨σ,H,I,h⟩
theorem ae (h1:PS X st t)(h2:PSs X rest u):PSs X (st::rest) (tSeq t u):=by
 intro pins s σ H D I h;refine wpAny_execs_cons (thn (h1 pins s σ H { D with nx:=u D } I h) fun f s1 q=>?_)
 cases f with
 | next =>
  obtain⟨σ',H',I',q⟩:=q;exact h2 pins s1 σ' H' D I' q
 | ret v=>exact q
 | brk=>exact q
 | cont=>exact q
theorem ad (h1:PS X st t):PSs X [st] t:=by
 intro pins s σ H D I h;refine wpAny_execs_cons (thn (h1 pins s σ H D I h) fun f s1 q=>?_);cases f with
 | next=>exact wpAny_execs_nil q
 | ret v=>exact q
 | brk=>exact q
 | cont=>exact q
theorem Inv.quiet {pins:List (Addr×Obj)}{σ:St}{H:Hp}{s:Shared}(I:Inv X pins σ H s):interactive X.env=false:=by simp[interactive,I.ok.kind]
def tDrop (te:TE):TS:=fun D σ H=>te σ H fun _ H1=>D.nx σ H1
theorem cD (he:PE X e te)(hs:swapsWith e none pos.line X.env=pure false:=by rfl):PS X (.Expr e pos) (tDrop te):=by
 intro pins s σ H D I h;exact wpAny_Expr_any (thn (he pins s σ H _ I h) fun v s1 ⟨x,H1,I1,r1,q1⟩=>⟨σ,H1,I1,q1⟩) I.quiet hs
def tRet (te:TE):TS:=fun D σ H=>te σ H D.rt
theorem ak (he:PE X e te):PS X (.Return (some e) pos) (tRet te):=by
 intro pins s σ H D I h;exact wpAny_Return_some (thn (he pins s σ H _ I h) fun v s1 ⟨x,H1,I1,r1,q1⟩=>⟨x,σ,H1,I1,r1,q1⟩)
def tIfS (c:TT)(t u:TS):TS:=fun D σ H=>c σ H fun b H1=>if b=true then t D σ H1 else u D σ H1
theorem aO {c:Expr}{a b:List Stmt}{tc:TT}(hc:PT X c tc)(ha:PSs X a t)(hb:PSs X b u):PS X (.If c a b pos) (tIfS tc t u):=by
 intro pins s σ H D I h;refine wpAny_If (thn (hc pins s σ H _ I h) fun d s1 ⟨H1,I1,q1⟩=>?_);cases d with
 | true=>exact ha pins s1 σ H1 D I1 q1
 | false=>exact hb pins s1 σ H1 D I1 q1
end
abbrev TG:=V->St->Hp->(St->Hp->Prop)->Prop
def PG (X:Cx)(target:Expr)(t:TG):Prop:=
 ∀(pins:List (Addr×Obj)) (s:Shared) (σ:St) (H:Hp) (v:V) (u:Value) (Q:St->Hp->Prop),Inv X pins σ H s->RelV v u->t v σ H Q →
  wpAny (model X.prog X.w) X.A (assign target X.env u) (fun _ s'=>∃σ' H',Inv X pins σ' H' s'/\Q σ' H') X.xe s
section
variable {X:Cx}{pos:Pos}
def dm (i:Nat):TG:=fun v σ H Q=>Q (σ.set i (some v)) H
theorem bU {i:Nat}{x:Str}(hN:X.N.Nodup)(hi:X.N[i]? = some x)(hx:Loc X.env.scope x)(hf:X.fn x=true∨X.env.scope.names.lookup x=some .local:=by first | exact .inl rfl | exact .inr rfl | assumption):PG X (.Name x pos) (dm i):=by
 intro pins s σ H v u Q I r h;exact wpAny_assign_Name (bA I hN hi hx r (fun s' I'=>⟨_,H,I',h⟩) hf)
def tAsg (te:TE)(g:TG):TS:=fun D σ H=>te σ H fun x H1=>g x σ H1 D.nx
theorem aD {i:Nat}{x:Str}{e:Expr}{te:TE}{pos':Pos}(hN:X.N.Nodup)(hi:X.N[i]? = some x)(hx:Loc X.env.scope x)(he:PE X e te)(hs:swapsWith e (some (.Name x pos')) pos.line X.env=pure false:=by rfl)(hf:X.fn x=true∨X.env.scope.names.lookup x=some .local:=by first | exact .inl rfl | exact .inr rfl | assumption) :
 PS X (.Assign [.Name x pos'] e pos) (tAsg te (dm i)):=by
 intro pins s σ H D I h;refine wpAny_Assign_Name (thn (he pins s σ H _ I h) fun v s1 ⟨y,H1,I1,r1,q1⟩=>?_) hs;exact bA I1 hN hi hx r1 (fun s2 I2=>⟨_,H1,I2,q1⟩) hf
end
section
variable {X:Cx}{pos:Pos}
end
structure It where
 go:Nat->Hp->Prop
 yld:Nat->Hp->V->Hp->Prop
 stop:Nat->Hp->Prop
def FpOk (X:Cx)(pins:List (Addr×Obj))(H:Hp)(b:Addr):Prop:=
 H b=none/\b≠X.env.locals/\b∉X.fs/\(b∈X.ex∨X.s₀.heap.objs.size≤b)/\(∀x c,X.env.cells.lookup x=some c->c≠b)/\∀p∈X.pn++pins,p.1≠b
theorem Inv.fpOk {X:Cx}{pins:List (Addr×Obj)}{σ:St}{H H':Hp}{s:Shared}{b:Addr}(I:Inv X pins σ H s)(hb:s.heap.objs.size≤b)(hn:H' b=none):FpOk X pins H' b:=by
 refine⟨hn,Nat.ne_of_gt (Nat.lt_of_lt_of_le I.lt hb),I.nofs hb,.inr (Nat.le_trans I.sz hb),fun x c e z=>?_,fun p hp z=>?_⟩
 . obtain⟨v,q⟩:=I.cell x c e;exact absurd (Nat.lt_of_lt_of_le q.lt (by rw[z];exact hb)) (Nat.lt_irrefl _)
 . exact absurd (Nat.lt_of_lt_of_le (Heap.lt_size (I.pin p hp).1) (by rw[z];exact hb)) (Nat.lt_irrefl _)
structure Turn (P:Program) (w:World) (K:PySem.W.Frag) (tg:Expr) (J:It) (fp:List Addr) (it:Addr) (tn:Nat->Heap->Prop):Prop where
 mem:it∈fp
 obj:∀i h,tn i h->∀b∈fp,∃o,h.get? b=some o/\∀v,o.data≠.cell v
 keep:∀i h h',tn i h->(∀b∈fp,∀o,h.get? b=some o->h'.get? b=some o)->tn i h'
 item:∀(X:Cx),X.prog=P->X.w=w->X.K=K->X.calm=true->∀(i:Nat) (pins:List (Addr×Obj)) (s:Shared) (σ:St) (H:Hp) (E:Value->Shared->Prop),Inv X pins σ H s->(∀b∈fp,FpOk X pins H b)->tn i s.heap->J.go i H →
  wpAny (model P w) X.A (pyNext (.ref it)) (fun r s1=>∃u,r=some u ∧
   wpAny (model P w) X.A (letOwnedTupleGo tg (.ref it) u) (fun _ s2=>∃x H',Inv X pins σ H' s2/\RelV x u/\J.yld i H x H'/\tn (i+1) s2.heap/\∀b∈fp,H' b=none) E s1) E s
 done:∀(X:Cx),X.prog=P->X.w=w->X.K=K->X.calm=true->∀(i:Nat) (pins:List (Addr×Obj)) (s:Shared) (σ:St) (H:Hp) (E:Value->Shared->Prop),Inv X pins σ H s->(∀b∈fp,FpOk X pins H b)->tn i s.heap->J.stop i H →
  wpAny (model P w) X.A (pyNext (.ref it)) (fun r s1=>r=none/\Inv X pins σ H s1) E s
 self:∀(A:Around) (i:Nat) (s:Shared) (Q:Value->Shared->Prop) (E:Value->Shared->Prop),tn i s.heap->Q (.ref it) s->wpAny (model P w) A (pyIter (.ref it)) Q E s
abbrev TI:=St->Hp->(It->Hp->Prop)->Prop
def PIE (X:Cx)(pins:List (Addr×Obj))(σ:St)(tg:Expr)(R:It->Hp->Prop)(itv:Value)(s2:Shared):Prop:=
 ∃(it:Addr) (fp:List Addr) (tn:Nat->Heap->Prop) (J:It) (H':Hp),itv = .ref it/\Inv X pins σ H' s2/\Turn X.prog X.w X.K tg J fp it tn/\tn 0 s2.heap/\(∀b∈fp,FpOk X pins H' b)/\R J H'
def PI (X:Cx)(tg iter:Expr)(wi:TI):Prop:=
 ∀(pins:List (Addr×Obj)) (s:Shared) (σ:St) (H:Hp) (R:It->Hp->Prop),Inv X pins σ H s->wi σ H R →
  wpAny (model X.prog X.w) X.A (eval iter X.env) (fun v s1=>wpAny (model X.prog X.w) X.A (pyIter v) (PIE X pins σ tg R) X.xe s1) X.xe s
theorem fw {M:Model}{A:Around}{E:Value->Shared->Prop}{s:Shared}{tg:Expr}{it:Addr}{u:Value}{o:Obj}{n:String}{vs:Array Value}{Q:Unit->Shared->Prop}(ho:s.heap.get? it=some o)(hc:o.cls = .type n)(hd:o.data = .fields vs)(hn:["enumerate", "zip", "dict_itemiterator", "dict_reverseitemiterator", "odict_iterator", "itertools.zip_longest", "itertools.pairwise"].contains n=false)(hQ:Q () s):wpAny M A (letOwnedTupleGo tg (.ref it) u) Q E s:=by
 unfold letOwnedTupleGo;cases tg<;>first
  | exact wpAny_pure hQ
  | (cases u<;>first
      | exact wpAny_pure hQ
      | (refine wpAny_bind (wpAny_load ho ?_)
         rw[hc,hd];show wpAny M A (if (["enumerate", "zip", "dict_itemiterator", "dict_reverseitemiterator", "odict_iterator", "itertools.zip_longest", "itertools.pairwise"].contains n&&vs[0]? == some (rawInt _))=true then _ else _) Q E s
         rw[if_neg (by intro h;rw[hn,Bool.false_and]at h;cases h)]
         exact wpAny_pure hQ))
def Itl (K:PySem.W.Frag)(a:Addr):It:=
 ⟨fun i H=>∃xs x,SqL K H a xs/\xs[i]? = some x,fun i H x H'=>H'=H/\∀xs,SqL K H a xs->xs[i]? = some x,fun i H=>∃xs,SqL K H a xs/\xs.length≤i⟩
def Itr (lo:Int)(n:Nat):It:=⟨fun i _=>i < n,fun i H x H'=>H'=H/\x = .int (lo+i),fun i _=>n≤i⟩
theorem turn_list {P:Program}{w:World}{K:PySem.W.Frag}{tg:Expr}(a it:Addr):Turn P w K tg (Itl K a) [it] it (fun i h=>h.IsListIter it a i) where
 mem:=by simp
 obj:=fun i h st b hb=>by
  have e:b=it:=by simpa using hb
  subst e;obtain⟨o,e,c,d⟩:=st;exact⟨o,e,fun v z=>by rw[d]at z;cases z⟩
 keep:=fun i h h' st k=>st.at fun o e=>k it (by simp) o e
 item:=by
  intro X hP hw hK hc i pins s σ H E I hf st hg;subst hP hw hK;obtain⟨xs,x,hq,hx⟩:=hg;obtain⟨its,rv,p,hz⟩:=I.list hq;obtain⟨u,hu,ru⟩:=rv.get hx;obtain⟨f0,f1,f2,f3,f4,f5⟩:=hf it (by simp)
  refine wpAny_pyNext_list_item st p.isList (x:=u) (by simpa using hu) fun h' st' sb=>?_
  have I1:Inv X pins σ H { s with heap:=h' }:=I.turned (t':=s.toks) (fun b o hb e=>(sb.2 b hb).trans e) f0 f1 f3 f4 f5
  obtain⟨o,e,c,d⟩:=id st';exact⟨u,rfl,fw (s:={ s with heap:=h' }) e c d (by decide) ⟨x,H,I1,ru,⟨rfl,fun ys hy=>by rw[I.list_inj hy hq];exact hx⟩,st',fun b hb=>(hf b hb).1⟩⟩
 done:=by
  intro X hP hw hK hc i pins s σ H E I hf st hg;subst hP hw hK;obtain⟨xs,hq,hx⟩:=hg;obtain⟨its,rv,p,hz⟩:=I.list hq;obtain⟨f0,f1,f2,f3,f4,f5⟩:=hf it (by simp)
  have hl:=rv.length;exact wpAny_pyNext_list_end (I.ok.hd hc) st p.isList (by simp;omega) fun h' eb=>⟨rfl,I.turned (t':=s.toks) (fun b o hb e=>eb b o hb e) f0 f1 f3 f4 f5⟩
 self:=fun _ _ _ _ _ st h=>wpAny_pyIter_listiter st h
theorem turn_range {P:Program}{w:World}{K:PySem.W.Frag}{tg:Expr}(it:Addr)(lo:Int)(n:Nat):Turn P w K tg (Itr lo n) [it] it (fun i h=>IsRangeIter h it (lo+(i:Nat)*1) ((n:Int) - (i:Nat)) 1) where
 mem:=by simp
 obj:=fun i h st b hb=>by
  have e:b=it:=by simpa using hb
  subst e;exact⟨_,st,fun v z=>by
   have z':Data.fields _=Data.cell v:=z;cases z'⟩
 keep:=fun i h h' st k=>k it (by simp) _ st
 item:=by
  intro X hP hw hK hc i pins s σ H E I hf st hg;subst hP hw hK;obtain⟨f0,f1,f2,f3,f4,f5⟩:=hf it (by simp)
  have W:=Walks.range (prog:=X.prog) (w:=X.w) (I.ok.hd hc) it lo 1 n;refine W.item i s _ _ hg st fun v h' tk hv st' kk=>?_;obtain⟨t,rfl⟩:=hv;have I1:Inv X pins σ H { s with heap:=h',toks:=tk }:=I.turned (fun b o hb e=>kk b o (by simpa using hb) e) f0 f1 f3 f4 f5
  refine⟨_,rfl,fw (s:={ s with heap:=h',toks:=tk }) (n := "range_iterator") st' rfl rfl (by decide) ⟨.int (lo+i),H,I1,⟨t,?_⟩,⟨rfl,rfl⟩,st',fun b hb=>(hf b hb).1⟩⟩
  rw[Int.mul_one]
 done:=by
  intro X hP hw hK hc i pins s σ H E I hf st hg;subst hP hw hK;obtain⟨f0,f1,f2,f3,f4,f5⟩:=hf it (by simp)
  exact wpAny_pyNext_range_end (I.ok.hd hc) st (by have:n≤i:=hg;omega) fun h' eb=>⟨rfl,I.turned (t':=s.toks) (fun b o hb e=>eb b o hb e) f0 f1 f3 f4 f5⟩
 self:=fun _ _ _ _ _ st h=>wpAny_pyIter_rangeiter st h
end L2
namespace L2
open PySem PySem.Spec PyProof.Rows
section
variable {X:Cx}{tg:Expr}
def ft (K:PySem.W.Frag)(tl:TE):TI:=fun σ H R=>tl σ H fun x H1=>∃a,x = .ref a/\(∃xs,SqL K H1 a xs)/\R (Itl K a) H1
theorem pi_list {l:Expr}{tl:TE}(hl:PE X l tl):PI X tg l (ft X.K tl):=by
 intro pins s σ H R I h;refine thn (hl pins s σ H _ I h) fun v s1 ⟨x,H1,I1,r1,q1⟩=>?_;obtain⟨a,e,⟨xs,hq⟩,q⟩:=q1;subst e;cases r1;obtain⟨its,rv,p,hz⟩:=I1.list hq;refine wpAny_pyIter_list p.isList ?_;refine⟨s1.heap.objs.size,[s1.heap.objs.size],_,_,H1,rfl,I1.kept (t':=s1.toks) fun b o e=>Heap.get?_push_of_some _ e,turn_list a _,⟨_,Heap.get?_push_size _ rfl,rfl,rfl⟩,fun b hb=>?_,q⟩;have e:b=s1.heap.objs.size:=by simpa using hb
 subst e;exact I1.fpOk (Nat.le_refl _) (I1.hok.fresh (Nat.le_refl _))
theorem range_it {pins:List (Addr×Obj)}{σ:St}{H:Hp}{s:Shared}{R:It->Hp->Prop}{E:Value->Shared->Prop}{lo hi:Int}{t u v:Tok}{tk:Nat}(I:Inv X pins σ H s)(h1 : -(2 ^ 62)≤lo)(h2:lo < 2 ^ 62)(h3 : -(2 ^ 62)≤hi)(h4:hi < 2 ^ 62)(q:R (Itr lo (hi - lo).toNat) H):wpAny (model X.prog X.w) X.A (pyIter (.ref s.heap.objs.size)) (PIE X pins σ tg R) E { s with heap:=s.heap.push { cls:=.type "range", data:=.fields #[.int lo t,.int hi u,.int 1 v] },toks:=tk }:=by
 refine wpAny_pyIter_range (IsRange.new ..) (small_one h1 h2 h3 h4) ?_;have I1:Inv X pins σ H { s with heap:=s.heap.push { cls:=.type "range", data:=.fields #[.int lo t,.int hi u,.int 1 v] },toks:=tk }:=I.kept fun b o e=>Heap.get?_push_of_some _ e
 refine⟨(s.heap.push { cls:=.type "range", data:=.fields #[.int lo t,.int hi u,.int 1 v] }).objs.size,[(s.heap.push { cls:=.type "range", data:=.fields #[.int lo t,.int hi u,.int 1 v] }).objs.size],_,_,H,rfl,
  I1.kept (t':=tk) fun b o e=>Heap.get?_push_of_some _ e,turn_range _ lo (hi - lo).toNat,?_,fun b hb=>?_,q⟩
 . have e1:lo+((0:Nat):Int)*1=lo:=by simp
   have e2:(((hi - lo).toNat:Nat):Int) - ((0:Nat):Int)=Builtin.Range.rangeSize lo hi 1:=by rw[rangeSize_one];split<;>omega
   show IsRangeIter _ _ (lo+((0:Nat):Int)*1) ((((hi - lo).toNat:Nat):Int) - ((0:Nat):Int)) 1;rw[e1,e2];exact Heap.get?_push_size _ rfl
 . have e:b=(s.heap.push { cls:=.type "range", data:=.fields #[.int lo t,.int hi u,.int 1 v] }).objs.size:=by simpa using hb
   subst e;exact I1.fpOk (Nat.le_refl _) (I1.hok.fresh (Nat.le_refl _))
def iRng1 (ta:TA):TI:=fun σ H R=>ta σ H fun vs H1=>∃j:Int,vs=[.int j]/\-(2 ^ 62)≤j/\j < 2 ^ 62/\R (Itr 0 j.toNat) H1
theorem bu {a:Expr}{ta:TA}{p pos:Pos}(hg:Gl X "range")(hm:X.mg "range" = none)(ha:PA X [a] ta)(hs:starEach [a] X.env=[(false,eval a X.env)]:=by rfl):PI X tg (.Call (.Name "range" p) [a] [] pos) (iRng1 ta):=by
 intro pins s σ H R I h;refine Call_ (cY I hg hm boot_range (PyProof.Rows.callWith_type1 (thn (ha pos pins s σ H _ I h) fun us s1 ⟨vs,H1,I1,r1,q1⟩=>?_) hs rfl));obtain⟨j,e,q1,q2,q⟩:=q1;subst e;cases r1 with
 | cons r rr =>
  cases rr;obtain⟨t,rfl⟩:=r;exact call_range_1 (range_it I1 (by omega) (by omega) q1 q2 (by simpa using q))
def tFor (wi:TI)(g:TG)(tb:TS):TS:=fun D σ H=>wi σ H fun J H1=>∃W:Nat->Nat->St->Hp->Prop,(∃m,W 0 m σ H1)/\∀i m σ H,W i m σ H →
 (J.stop i H/\D.nx σ H)∨(J.go i H/\∃N:St->Hp->Prop,(∀σ' H',N σ' H'->∃m',m' < m/\W (i+1) m' σ' H')/\∀x H',J.yld i H x H'->g x σ H' fun σ2 H2=>tb { D with nx:=N,ct:=N,bk:=D.nx } σ2 H2)
def bZ (fp:List Addr)(h:Heap):List (Addr×Obj):=fp.filterMap fun b=>(h.get? b).map fun o=>(b,o)
theorem bi {fp:List Addr}{h:Heap}{b:Addr}{o:Obj}(hb:b∈fp)(e:h.get? b=some o):(b,o)∈bZ fp h:=List.mem_filterMap.mpr ⟨b,hb,by rw[e];rfl⟩
theorem of_pinsAt {fp:List Addr}{h:Heap}{p:Addr×Obj}(hp:p∈bZ fp h):p.1∈fp/\h.get? p.1=some p.2:=by
 obtain⟨b,hb,e⟩:=List.mem_filterMap.mp hp;cases q:h.get? b with
 | none=>rw[q]at e;cases e
 | some o =>
  rw[q]at e;have e':(b,o)=p:=Option.some.inj e;subst e';exact⟨hb,q⟩
theorem Inv.pinned {pins:List (Addr×Obj)}{σ:St}{H:Hp}{s:Shared}{fp:List Addr}(I:Inv X pins σ H s)(hf:∀b∈fp,FpOk X pins H b)(ho:∀b∈fp,∃o,s.heap.get? b=some o/\∀v,o.data≠.cell v):Inv X (pins++bZ fp s.heap) σ H s:=
 I.pins_of fun p hp=>(List.mem_append.mp hp).elim (fun z=>I.pin p (List.mem_append_right _ z)) fun z=>by
  obtain⟨hb,e⟩:=of_pinsAt z;obtain⟨f0,f1,f2,_⟩:=hf p.1 hb;obtain⟨o,e',d⟩:=ho p.1 hb;rw[e]at e';cases e';exact⟨e,f0,f1,f2,d⟩
theorem Inv.unpinned {pins pl:List (Addr×Obj)}{σ:St}{H:Hp}{s:Shared}(I:Inv X (pins++pl) σ H s):Inv X pins σ H s:=I.pins_of fun p hp=>I.pin p (List.mem_append_right _ (List.mem_append_left _ hp))
theorem cC {iter:Expr}{body:List Stmt}{wi:TI}{g:TG}{tb:TS}{pos:Pos}(hp:PassesOwn (model X.prog X.w) X.A X.env X.xe)(hc:X.calm=true)(hi:PI X tg iter wi)(hg:PG X tg g)(hb:PSs X body tb)(hs:∀x,foldedSetIterable iter X.env x=pure x:=by intro _;rfl):PS X (.For tg iter body [] pos) (tFor wi g tb):=by
 intro pins s σ H D I h;refine wpAny_For (thn (hi pins s σ H _ I h) fun v s1 h1=>thn h1 fun itv s2 h2=>?_) hs;obtain⟨it,fp,tn,J,H2,e,I2,T,st2,f2,W,⟨m0,w0⟩,turn⟩:=h2;subst e;have stat:∀{H':Hp},(∀b∈fp,H' b=none)->∀b∈fp,FpOk X pins H' b:=fun hn b hb=>⟨hn b hb,(f2 b hb).2⟩;refine codeAny_forLoop_any (fun n s'=>∃i σ' H',Inv X pins σ' H' s'/\tn i s'.heap/\(∀b∈fp,H' b=none)/\W i n σ' H') ?_ m0 ⟨0,σ,H2,I2,st2,fun b hb=>(f2 b hb).1,w0⟩;rintro n s3 ⟨i,σ3,H3,I3,st3,fr3,w3⟩;rcases turn i n σ3 H3 w3 with⟨stop,qn⟩ | ⟨go,N,hN,step⟩
 . refine wpAny_passesOwn hp (thn (T.done X rfl rfl rfl hc i pins s3 σ3 H3 X.xe I3 (stat fr3) st3 stop) fun r s4 ⟨hr,I4⟩=>?_);subst hr;exact wpAny_execs_nil ⟨σ3,H3,I4,qn⟩
 . refine wpAny_passesOwn hp (thn (T.item X rfl rfl rfl hc i pins s3 σ3 H3 X.xe I3 (stat fr3) st3 go) fun r s4 ⟨u,hr,h4⟩=>?_);subst hr;refine wpAny_passesOwn hp (thn h4 fun _ s5 ⟨x,H5,I5,r5,y5,st5,fr5⟩=>?_);have I5':=I5.pinned (stat fr5) (T.obj _ _ st5);refine wpAny_passesOwn hp (thn (hg _ s5 σ3 H5 x u _ I5' r5 (step x H5 y5)) fun _ s6 ⟨σ6,H6,I6,q6⟩=>?_);refine wpAny_passesOwn hp (thn (hb _ s6 σ6 H6 _ I6 q6) fun f s7 q7=>?_);have again:∀{σ7:St} {H7:Hp},Inv X (pins++bZ fp s5.heap) σ7 H7 s7->N σ7 H7->∃m,m < n/\∃i σ' H',Inv X pins σ' H' s7/\tn i s7.heap/\(∀b∈fp,H' b=none)/\W i m σ' H':=fun{σ7 H7} I7 n7=>by
    obtain⟨m',hm,w7⟩:=hN σ7 H7 n7;refine⟨m',hm,i+1,σ7,H7,I7.unpinned,T.keep _ _ _ st5 fun b hb o e=>(I7.pin (b,o) (List.mem_append_right _ (List.mem_append_right _ (bi hb e)))).1,fun b hb=>?_,w7⟩;obtain⟨o,e,d⟩:=T.obj _ _ st5 b hb;exact(I7.pin (b,o) (List.mem_append_right _ (List.mem_append_right _ (bi hb e)))).2.1
   cases f with
   | next=>obtain⟨σ7,H7,I7,n7⟩:=q7;exact again I7 n7
   | cont=>obtain⟨σ7,H7,I7,n7⟩:=q7;exact again I7 n7
   | brk=>obtain⟨σ7,H7,I7,q7⟩:=q7;exact⟨σ7,H7,I7.unpinned,q7⟩
   | ret v=>obtain⟨x7,σ7,H7,I7,r7,q7⟩:=q7;exact⟨x7,σ7,H7,I7.unpinned,r7,q7⟩
end
theorem cS {K:PySem.W.Frag}{a:Addr}{xs:List V}{g:TG}{tb:TS}{D:Ends}{σ:St}{H:Hp}(Pv:Nat->St->Hp->Prop)(h0:Pv 0 σ H)(hl:∀i σ H,i≤xs.length->Pv i σ H->SqL K H a xs)(hs:∀i x σ H,xs[i]? = some x->Pv i σ H->g x σ H fun σ2 H2=>tb { D with nx:=Pv (i+1),ct:=Pv (i+1),bk:=D.nx } σ2 H2)(hd:∀σ H,Pv xs.length σ H->D.nx σ H) :
 ∃W:Nat->Nat->St->Hp->Prop,(∃m,W 0 m σ H)/\∀i m σ H,W i m σ H →
  ((Itl K a).stop i H/\D.nx σ H)∨((Itl K a).go i H/\∃N:St->Hp->Prop,(∀σ' H',N σ' H'->∃m',m' < m/\W (i+1) m' σ' H')/\∀x H',(Itl K a).yld i H x H'->g x σ H' fun σ2 H2=>tb { D with nx:=N,ct:=N,bk:=D.nx } σ2 H2):=by
 refine⟨fun i m σ H=>m=xs.length - i/\i≤xs.length/\Pv i σ H,⟨xs.length,by simp,Nat.zero_le _,h0⟩,?_⟩
 rintro i m σ H ⟨rfl,hi,p⟩;have q:=hl i σ H hi p;by_cases hlt:i < xs.length
 . refine .inr ⟨⟨xs,xs[i],q,by simp[hlt]⟩,Pv (i+1),fun σ' H' p'=>⟨xs.length - (i+1),by omega,rfl,hlt,p'⟩,fun x H' y=>?_⟩
   obtain⟨e,y⟩:=y;subst e;exact hs i x σ _ (y xs q) p
 . have e:i=xs.length:=by omega
   subst e;exact .inl ⟨⟨xs,q,Nat.le_refl _⟩,hd σ H p⟩
theorem cw {lo:Int}{n:Nat}{g:TG}{tb:TS}{D:Ends}{σ:St}{H:Hp}(Pv:Nat->St->Hp->Prop)(h0:Pv 0 σ H)(hs:∀i σ H,i < n->Pv i σ H->g (.int (lo+i)) σ H fun σ2 H2=>tb { D with nx:=Pv (i+1),ct:=Pv (i+1),bk:=D.nx } σ2 H2)(hd:∀σ H,Pv n σ H->D.nx σ H) :
 ∃W:Nat->Nat->St->Hp->Prop,(∃m,W 0 m σ H)/\∀i m σ H,W i m σ H →
  ((Itr lo n).stop i H/\D.nx σ H)∨((Itr lo n).go i H/\∃N:St->Hp->Prop,(∀σ' H',N σ' H'->∃m',m' < m/\W (i+1) m' σ' H')/\∀x H',(Itr lo n).yld i H x H'->g x σ H' fun σ2 H2=>tb { D with nx:=N,ct:=N,bk:=D.nx } σ2 H2):=by
 refine⟨fun i m σ H=>m=n - i/\i≤n/\Pv i σ H,⟨n,by simp,Nat.zero_le _,h0⟩,?_⟩
 rintro i m σ H ⟨rfl,hi,p⟩;by_cases hlt:i < n
 . refine .inr ⟨hlt,Pv (i+1),fun σ' H' p'=>⟨n - (i+1),by omega,rfl,hlt,p'⟩,fun x H' y=>?_⟩
   obtain⟨e,y⟩:=y;subst e y;exact hs i σ _ hlt p
 . have e:i=n:=by omega
   subst e;exact .inl ⟨Nat.le_refl _,hd σ H p⟩
end L2
namespace L2
open PySem PySem.Spec PyProof.Rows
abbrev R2:=V->V->Hp->VK->Prop
def OpR (X:Cx)(f:Value->Value->Sem Value)(r:R2):Prop:=
 ∀(pins:List (Addr×Obj)) (s:Shared) (σ:St) (H:Hp) (x y:V) (v u:Value) (Q:VK),Inv X pins σ H s->RelV x v->RelV y u->r x y H Q →
  wpAny (model X.prog X.w) X.A (f v u) (EP X pins σ Q) X.xe s
def UnR (X:Cx)(f:Value->Sem Value)(r:V->Hp->VK->Prop):Prop:=
 ∀(pins:List (Addr×Obj)) (s:Shared) (σ:St) (H:Hp) (x:V) (v:Value) (Q:VK),Inv X pins σ H s->RelV x v->r x H Q →
  wpAny (model X.prog X.w) X.A (f v) (EP X pins σ Q) X.xe s
def bR (X:Cx)(f:Value)(r:List V->Hp->VK->Prop):Prop:=
 ∀(pins:List (Addr×Obj)) (s:Shared) (σ:St) (H:Hp) (xs:List V) (us:List Value) (Q:VK),Inv X pins σ H s->Vals xs us->r xs H Q →
  wpAny (model X.prog X.w) X.A (call f us) (EP X pins σ Q) X.xe s
def tOp (r:R2)(ta tb:TE):TE:=fun σ H Q=>ta σ H fun x H1=>tb σ H1 fun y H2=>r x y H2 Q
def tUn (r:V->Hp->VK->Prop)(ta:TE):TE:=fun σ H Q=>ta σ H fun x H1=>r x H1 Q
def rI (C:Int->Int->Prop)(g:Int->Int->V):R2:=fun x y H Q=>∃i j,x = .int i/\y = .int j/\C i j/\Q (g i j) H
def rI0 (g:Int->Int->V):R2:=fun x y H Q=>∃i j,x = .int i/\y = .int j/\Q (g i j) H
def rU (g:Int->V):V->Hp->VK->Prop:=fun x H Q=>∃i,x = .int i/\Q (g i) H
section
variable {X:Cx}{a b c:Expr}{ta tb tc:TE}{pos:Pos}
theorem binT (ha:PE X a ta)(hb:PE X b tb){pins:List (Addr×Obj)}{s:Shared}{σ:St}{H:Hp}{R:V->V->Hp->Prop}(I:Inv X pins σ H s)(h:ta σ H fun x H1=>tb σ H1 fun y H2=>R x y H2){Q:Value->Shared->Prop}{f:Value->Value->Sem Value}(hf:∀v u s2 x y H2,Inv X pins σ H2 s2->RelV x v->RelV y u->R x y H2->wpAny (model X.prog X.w) X.A (f v u) Q X.xe s2):wpAny (model X.prog X.w) X.A (eval a X.env) (fun v s₁=>wpAny (model X.prog X.w) X.A (eval b X.env) (fun u s₂=>wpAny (model X.prog X.w) X.A (f v u) Q X.xe s₂) X.xe s₁) X.xe s:=by
 refine thn (ha pins s σ H _ I h) fun v s1 ⟨x,H1,I1,r1,q1⟩=>?_;refine thn (hb pins s1 σ H1 _ I1 q1) fun u s2 ⟨y,H2,I2,r2,q2⟩=>?_;exact hf v u s2 x y H2 I2 r1 r2 q2
theorem aq {op:Operator}{r:R2}(ho:OpR X (binaryOp op) r)(ha:PE X a ta)(hb:PE X b tb):PE X (.BinOp a op b pos) (tOp r ta tb):=by
 intro pins s σ H Q I h;exact wpAny_BinOp (binT ha hb I h fun v u s2 x y H2 I2 rx ry q=>ho pins s2 σ H2 x y v u Q I2 rx ry q)
theorem pe_un {op:UnaryOp}{r:V->Hp->VK->Prop}(ho:UnR X (unaryOp op) r)(ha:PE X a ta):PE X (.UnaryOp op a pos) (tUn r ta):=by
 intro pins s σ H Q I h;exact UnaryOp_ (thn (ha pins s σ H _ I h) fun v s1 ⟨x,H1,I1,r1,q1⟩=>ho pins s1 σ H1 x v Q I1 r1 q1)
theorem opI {f:Value->Value->Sem Value}{C:Int->Int->Prop}{g:Int->Int->Int}(rule:∀(i j:Int) (t u:Tok) (s:Shared) (Q:Value->Shared->Prop) (E:Value->Shared->Prop),C i j->Q (.int (g i j) s.toks) { s with toks:=s.toks+1 }->wpAny (model X.prog X.w) X.A (f (.int i t) (.int j u)) Q E s) :
 OpR X f (rI C fun i j=>.int (g i j)):=by
 intro pins s σ H x y v u Q I rx ry h;obtain⟨i,j,rfl,rfl,hc,q⟩:=h;obtain⟨t,rfl⟩:=rx;obtain⟨t',rfl⟩:=ry;exact rule i j t t' s _ _ hc ⟨.int (g i j),H,I.tok _,⟨_,rfl⟩,q⟩
theorem opI0 {f:Value->Value->Sem Value}{g:Int->Int->Int}(rule:∀(i j:Int) (t u:Tok) (s:Shared) (Q:Value->Shared->Prop) (E:Value->Shared->Prop),Q (.int (g i j) s.toks) { s with toks:=s.toks+1 }->wpAny (model X.prog X.w) X.A (f (.int i t) (.int j u)) Q E s) :
 OpR X f (rI0 fun i j=>.int (g i j)):=by
 intro pins s σ H x y v u Q I rx ry h;obtain⟨i,j,rfl,rfl,q⟩:=h;obtain⟨t,rfl⟩:=rx;obtain⟨t',rfl⟩:=ry;exact rule i j t t' s _ _ ⟨.int (g i j),H,I.tok _,⟨_,rfl⟩,q⟩
def CDiv (i j:Int):Prop:=0 < j/\j < 1073741824
def CMul (i j:Int):Prop:=(-(2 ^ 64) < i/\i < 2 ^ 64)∨(-(2 ^ 64) < j/\j < 2 ^ 64)
theorem CMul.ok {i j:Int}(h:CMul i j):IntMulOk i j:=by
 rcases h with⟨h1,h2⟩ | ⟨h1,h2⟩
 . exact .of_left (intBits_le_64 h1 h2)
 . exact .of_right (intBits_le_64 h1 h2)
theorem bK:OpR X (binaryOp .Add) (rI0 fun i j=>.int (i+j)):=opI0 fun _ _ _ _ _ _ _ q=>add_int q
theorem bz:OpR X (binaryOp .Mult) (rI CMul fun i j=>.int (i*j)):=opI fun _ _ _ _ _ _ _ hc q=>mul_int q hc.ok
theorem op_fdiv:OpR X (binaryOp .FloorDiv) (rI CDiv fun i j=>.int (i / j)):=opI fun i j _ _ _ _ _ hc q=>by
 have h1:(0:Int) < j:=hc.1;have h2:j < 1073741824:=hc.2;exact floordiv_int (by omega) (by rw[Int.fdiv_eq_ediv_of_nonneg i (by omega)];exact q) (.inl (PyProof.noPylong_small (by omega)))
theorem bh:OpR X (binaryOp .Mod) (rI (fun _ j=>0 < j) fun i j=>.int (i % j)):=opI fun i j _ _ _ _ _ hc q=>by
 have h1:(0:Int) < j:=hc;exact mod_int' (by omega) (by rw[Int.fmod_eq_emod_of_nonneg i (by omega)];exact q)
theorem unI {f:Value->Sem Value}{g:Int->Int}(rule:∀(i:Int) (t:Tok) (s:Shared) (Q:Value->Shared->Prop) (E:Value->Shared->Prop),Q (.int (g i) s.toks) { s with toks:=s.toks+1 }->wpAny (model X.prog X.w) X.A (f (.int i t)) Q E s) :
 UnR X f (rU fun i=>.int (g i)):=by
 intro pins s σ H x v Q I rx h;obtain⟨i,rfl,q⟩:=h;obtain⟨t,rfl⟩:=rx;exact rule i t s _ _ ⟨.int (g i),H,I.tok _,⟨_,rfl⟩,q⟩
theorem un_neg:UnR X (unaryOp .USub) (rU fun i=>.int (-i)):=unI fun _ _ _ _ _ q=>neg_int q
end
def scal:V->V->Bool
 | .non,.non=>true | .non,.int _=>true | .int _,.non=>true | .non,.bl _=>true | .bl _,.non=>true | .non,.str _=>true | .str _,.non=>true
 | .int _,.int _=>true | .bl _,.bl _=>true | .str _,.str _=>true | .byt _,.byt _=>true
 | .int _,.str _=>true | .str _,.int _=>true | .bl _,.str _=>true | .str _,.bl _=>true
 | _,_=>false
def rEq:R2:=fun x y H Q=>scal x y=true/\Q (.bl (decide (x=y))) H
def rNe:R2:=fun x y H Q=>scal x y=true/\Q (.bl (!decide (x=y))) H
theorem da {i j:Int}:decide (V.int i=V.int j)=(i == j):=by
 rw[Bool.eq_iff_iff];simp
theorem dt {i j:Bool}:decide (V.bl i=V.bl j)=(i == j):=by
 rw[Bool.eq_iff_iff];simp
theorem d9 {i j:Str}:decide (V.str i=V.str j)=(i == j):=by
 rw[Bool.eq_iff_iff];simp
theorem db {i j:Array UInt8}:decide (V.byt i=V.byt j)=(i.toList == j.toList):=by
 rw[Bool.eq_iff_iff];cases i;cases j;simp
section
variable {X:Cx}{a b c:Expr}{ta tb tc:TE}{pos:Pos}
theorem ao {pins:List (Addr×Obj)}{σ:St}{H:Hp}{s:Shared}{Q:VK}{k k':Bool}(I:Inv X pins σ H s)(q:Q (.bl k) H)(e:k=k'):EP X pins σ Q (.bool k') s:=by
 subst e;exact⟨.bl k,H,I,rfl,q⟩
theorem bP:OpR X (compareOp .Eq) rEq:=by
 intro pins s σ H x y v u Q I rx ry h;obtain⟨hs,q⟩:=h;cases x with
 | non =>
  cases rx;cases y with
  | non=>cases ry;exact PySem.EqNone.eq_none_none (ao I q (by simp))
  | bl j=>cases ry;exact PySem.EqNone.eq_none_bool (ao I q (by simp))
  | int j=>obtain⟨t',rfl⟩:=ry;exact PySem.EqNone.eq_none_int (ao I q (by simp))
  | str j=>obtain⟨t',rfl⟩:=ry;exact PySem.EqNone.eq_none_str (ao I q (by simp))
  | _=>exact absurd (show false=true from hs) Bool.false_ne_true
 | bl i =>
  cases rx;cases y with
  | non=>cases ry;exact PySem.EqNone.eq_bool_none (ao I q (by simp))
  | bl j=>cases ry;exact eq_bool (ao I q dt)
  | str j=>obtain⟨t',rfl⟩:=ry;exact PySem.EqMixed.eq_bool_str (ao I q (by simp))
  | _=>exact absurd (show false=true from hs) Bool.false_ne_true
 | int i =>
  obtain⟨t,rfl⟩:=rx;cases y with
  | non=>cases ry;exact PySem.EqNone.eq_int_none (ao I q (by simp))
  | int j=>obtain⟨t',rfl⟩:=ry;exact eq_int (ao I q da)
  | str j=>obtain⟨t',rfl⟩:=ry;exact PySem.EqMixed.eq_int_str (ao I q (by simp))
  | _=>exact absurd (show false=true from hs) Bool.false_ne_true
 | str i =>
  obtain⟨t,rfl⟩:=rx;cases y with
  | non=>cases ry;exact PySem.EqNone.eq_str_none (ao I q (by simp))
  | bl j=>cases ry;exact PySem.EqMixed.eq_str_bool (ao I q (by simp))
  | int j=>obtain⟨t',rfl⟩:=ry;exact PySem.EqMixed.eq_str_int (ao I q (by simp))
  | str j=>obtain⟨t',rfl⟩:=ry;exact eq_str (ao I q d9)
  | _=>exact absurd (show false=true from hs) Bool.false_ne_true
 | byt i =>
  obtain⟨t,rfl⟩:=rx;cases y with
  | byt j=>obtain⟨t',rfl⟩:=ry;exact PySem.W.eq_bytes (ao I q db)
  | _=>exact absurd (show false=true from hs) Bool.false_ne_true
 | _=>cases y<;>exact absurd (show false=true from hs) Bool.false_ne_true
theorem dA:OpR X (compareOp .NotEq) rNe:=by
 intro pins s σ H x y v u Q I rx ry h;obtain⟨hs,q⟩:=h;cases x with
 | non =>
  cases rx;cases y with
  | non=>cases ry;exact PySem.EqNone.ne_none_none (ao I q (by simp))
  | bl j=>cases ry;exact PySem.EqNone.ne_none_bool (ao I q (by simp))
  | int j=>obtain⟨t',rfl⟩:=ry;exact PySem.EqNone.ne_none_int (ao I q (by simp))
  | str j=>obtain⟨t',rfl⟩:=ry;exact PySem.EqNone.ne_none_str (ao I q (by simp))
  | _=>exact absurd (show false=true from hs) Bool.false_ne_true
 | bl i =>
  cases rx;cases y with
  | non=>cases ry;exact PySem.EqNone.ne_bool_none (ao I q (by simp))
  | bl j=>cases ry;exact ne_bool (ao I q (congrArg not dt))
  | str j=>obtain⟨t',rfl⟩:=ry;exact PySem.EqMixed.ne_bool_str (ao I q (by simp))
  | _=>exact absurd (show false=true from hs) Bool.false_ne_true
 | int i =>
  obtain⟨t,rfl⟩:=rx;cases y with
  | non=>cases ry;exact PySem.EqNone.ne_int_none (ao I q (by simp))
  | int j=>obtain⟨t',rfl⟩:=ry;exact ne_int (ao I q (congrArg not da))
  | str j=>obtain⟨t',rfl⟩:=ry;exact PySem.EqMixed.ne_int_str (ao I q (by simp))
  | _=>exact absurd (show false=true from hs) Bool.false_ne_true
 | str i =>
  obtain⟨t,rfl⟩:=rx;cases y with
  | non=>cases ry;exact PySem.EqNone.ne_str_none (ao I q (by simp))
  | bl j=>cases ry;exact PySem.EqMixed.ne_str_bool (ao I q (by simp))
  | int j=>obtain⟨t',rfl⟩:=ry;exact PySem.EqMixed.ne_str_int (ao I q (by simp))
  | str j=>obtain⟨t',rfl⟩:=ry;exact ne_str (ao I q (congrArg not d9))
  | _=>exact absurd (show false=true from hs) Bool.false_ne_true
 | byt i =>
  obtain⟨t,rfl⟩:=rx;cases y with
  | byt j=>obtain⟨t',rfl⟩:=ry;exact PySem.W.ne_bytes (ao I q (congrArg not db))
  | _=>exact absurd (show false=true from hs) Bool.false_ne_true
 | _=>cases y<;>exact absurd (show false=true from hs) Bool.false_ne_true
theorem aT (b:Expr){op:CmpOp}(h:op≠.In:=by decide)(h2:op≠.NotIn:=by decide):behindInMarks op b=false:=by
 have e1:(op == CmpOp.In)=false:=by cases op<;>first | rfl | exact absurd rfl h
 have e2:(op == CmpOp.NotIn)=false:=by cases op<;>first | rfl | exact absurd rfl h2
 cases b<;>simp[behindInMarks,e1,e2]
theorem bC {op:CmpOp}{r:R2}(ho:OpR X (compareOp op) r)(ha:PE X a ta)(hb:PE X b tb)(hm:behindInMarks op b=false):PE X (.Compare a [op] [b] pos) (tOp r ta tb):=by
 intro pins s σ H Q I h;exact wpAny_Compare1 (binT ha hb I h fun v u s2 x y H2 I2 rx ry q=>ho pins s2 σ H2 x y v u Q I2 rx ry q) hm
def tTest (t:TE):TT:=fun σ H Q=>t σ H fun x H'=>∃k,x = .bl k/\Q k H'
theorem aL {op:CmpOp}{r:R2}(ho:OpR X (compareOp op) r)(ha:PE X a ta)(hb:PE X b tb)(hm:behindInMarks op b=false):PT X (.Compare a [op] [b] pos) (tTest (tOp r ta tb)):=by
 intro pins s σ H Q I h;refine wpAny_isTrue_Compare1 (thn (ha pins s σ H _ I h) fun v s1 ⟨x,H1,I1,r1,q1⟩=>thn (hb pins s1 σ H1 _ I1 q1) fun u s2 ⟨y,H2,I2,r2,q2⟩ =>
  thn (ho pins s2 σ H2 x y v u _ I2 r1 r2 q2) fun c s3 ⟨z,H3,I3,r3,k,e,q3⟩=>?_) hm
 subst e;cases r3;exact wpAny_truthy_bool ⟨H3,I3,q3⟩
theorem cG:(sizeLine:Nat) < 2 ^ 63:=by rw[sizeLine_eq];decide
theorem aG:OpR X (binaryOp .Add) (fun x y H Q=>∃i j,x = .str i/\y = .str j/\i.length+j.length≤sizeLine/\Q (.str (i++j)) H):=by
 intro pins s σ H x y v u Q I rx ry h;obtain⟨i,j,rfl,rfl,hz,q⟩:=h;obtain⟨t,rfl⟩:=rx;obtain⟨t',rfl⟩:=ry;exact add_str (fun t' tk=>⟨.str (i++j),H,I.tok _,⟨_,rfl⟩,q⟩) hz
theorem dv {x:V}{us:List Value}(r:Vals [x] us):∃u,us=[u]/\RelV x u:=by
 cases r with
 | cons r1 r2=>cases r2;exact⟨_,rfl,r1⟩
theorem dg {x y:V}{us:List Value}(r:Vals [x,y] us):∃u w',us=[u,w']/\RelV x u/\RelV y w':=by
 cases r with
 | cons r1 r2 =>
  cases r2 with
  | cons r3 r4=>cases r4;exact⟨_,_,rfl,r1,r3⟩
end
end L2
namespace L2
open PySem PySem.Spec PyProof.Rows
structure ObjM (h:Heap) (x dx C:Addr) (mA:Str->Option Value):Prop where
 obj:h.get? x=some (PySem.W.instObj C dx)
 ns:h.Ns1 dx mA
 ne:dx≠x
theorem lookIn_ns {h:Heap}{dx:Addr}{mA:Str->Option Value}(n:h.Ns1 dx mA):∃od,h.get? dx=some od/\∀name,PySem.W.lookIn name od=some (mA name):=by
 obtain⟨o,es,ep,ho,hd,hk,_,hm⟩:=n;refine⟨o,ho,fun name=>?_⟩;have e:=hm name;unfold nsFind findBy at e;rw[←Array.find?_toList]at e;unfold PySem.W.lookIn;rw[hd];dsimp only
 split
 . rename_i y q;rw[q]at e;exact congrArg some e
 . rename_i q;rw[q]at e;have a:es.toList.any (·.refKey)=false:=by
    rw[List.any_eq_false];intro y hy;obtain⟨z,t,hkey⟩:=hk y (Array.mem_toList_iff.mp hy);simp[DictEntry.refKey,hkey]
   have a':¬es.toList.any (·.refKey)=true:=by rw[a];exact Bool.false_ne_true
   rw[if_neg a'];exact congrArg some e
theorem ObjM.look {h:Heap}{x dx C:Addr}{mA:Str->Option Value}(I:ObjM h x dx C mA):∃od,PySem.W.InstAt h x (PySem.W.instObj C dx) C (some od)/\∀name,PySem.W.lookIn name od=some (mA name):=
 let ⟨od,ho,hl⟩:=lookIn_ns I.ns
 ⟨od,⟨I.obj,rfl,rfl,ho⟩,hl⟩
section
variable {prog:Program}{w:World}{A:Around}{E:Value->Shared->Prop}{s:Shared}{K:PySem.W.Frag}{x dx C f:Addr}{mA:Str->Option Value}{name:Str}{v:Value}
theorem get_meth {pl:Sem Bool}{Q:Value×List Value->Shared->Prop}(X:K.In s.heap)(I:ObjM s.heap x dx C mA)(hg:PySem.W.plainGet K C name=true)(hf:PySem.W.findIn K (.ref C) name=some (some (.ref f)))(ht:PySem.W.isFn K (.ref f)=true)(hv:mA name=none)(h:Q (.ref f,[.ref x]) s):wpAny (model prog w) A (getMethod (.ref x) name pl) Q E s:=by
 obtain⟨od,J,hl⟩:=I.look;exact PySem.W.method_fn X J (PySem.W.plainGet_of hg).1 (PySem.W.plainGet_of hg).2 hf (beq_iff_eq.mp ht) (by show(PySem.W.lookIn name od).map (·.isSome)=some false;rw[hl,hv];rfl) h
theorem make_map0 {R:Result->Shared->Prop}(X:K.In s.heap)(hm:PySem.W.makesIn K C=true)(hi:PySem.W.findIn K (.ref C) "__init__" = some (some (.builtin "object.__init__")))(hb:∀self,PySem.W.Looks (model prog w) s.heap (bindSpecial (.builtin "object.__init__") self) (.builtin "object.__init__", [self]))(h:codeAny (model prog w) (A.under (.builtin "type.__call__" ⟨[.ref C],[]⟩)) (.call (.builtin "object.__init__") ⟨[.ref (s.heap.objs.size+1)],[]⟩) (PySem.W.InitBack (s.heap.objs.size+1) R) { s with heap:=(s.heap.push PySem.W.emptyDict).push (PySem.W.instObj C s.heap.objs.size) }) :
 codeAny (model prog w) A (.call (.ref C) ⟨[],[]⟩) R s:=by
 obtain⟨hh,g,d,t,os⟩:=s;exact PySem.W.make_core (PySem.W.makes_of X hm) (PySem.W.looks_findIn X hi) hb (.inr ⟨rfl,rfl⟩) h
end
theorem RelO.none_of {o:Option Value}(r:RelO none o):o=none:=by
 cases o with
 | none=>rfl
 | some u=>exact(show False from r).elim
section
variable {P:Program}{w:World}{H H':Hp}{h h':Heap}{a C dx:Addr}{fs fs':List (Str×V)}
theorem d8 (hok:HOk P w H h)(e:H a=some (.ins C dx fs)):∃mA,ObjM h a dx C mA/\(∀f,RelO (fs.lookup f) (mA f))/\PySem.Within mA (fs.map (·.1))/\fs.length≤1000/\H dx=some (.own a):=by
 obtain⟨d,z,ne,ob,mA,n,r,q⟩:=(show ObjOk P w H h a (.ins C dx fs)from hok a _ e)
 exact⟨mA,⟨ob,n,ne⟩,r,q,z,d⟩
end
structure Cls (K:PySem.W.Frag) (C:Addr):Prop where
 pg:PySem.W.plainGet K C Str.empty=true
 hd:PySem.W.hasDictIn K C=true
 po:PySem.W.plainOver K C=true
 sa:PySem.W.findIn K (.ref C) "__setattr__" = some (some (.builtin "object.__setattr__"))
theorem Cls.get {K:PySem.W.Frag}{C:Addr}(c:Cls K C)(f:Str):PySem.W.plainGet K C f=true:=c.pg
structure Meth (K:PySem.W.Frag) (C:Addr) (m:Str) (f:Addr):Prop where
 at_:PySem.W.findIn K (.ref C) m=some (some (.ref f))
 fn:PySem.W.isFn K (.ref f)=true
 kp:PySem.W.keepIn K (.ref f)=true
section
variable {X:Cx}{pins:List (Addr×Obj)}{σ:St}{H:Hp}{s:Shared}{a C dx:Addr}{fs:List (Str×V)}{f:Str}{v:V}{A:Around}{E:Value->Shared->Prop}
theorem getmeth_ok {m:Str}{g:Addr}{pl:Sem Bool}{Q:Value×List Value->Shared->Prop}(I:Inv X pins σ H s)(e:H a=some (.ins C dx fs))(c:Cls X.K C)(k:Meth X.K C m g)(l:fs.lookup m=none)(h:Q (.ref g,[.ref a]) s):wpAny (model X.prog X.w) A (getMethod (.ref a) m pl) Q E s:=by
 obtain⟨mA,O,r,_,_,_⟩:=d8 I.hok e;have hn:mA m=none:=RelO.none_of (by rw[←l];exact r m)
 exact get_meth I.kIn O (c.get m) k.at_ k.fn hn h
theorem Inv.made (I:Inv X pins σ H s):Inv X pins σ (upd (upd H s.heap.objs.size (.own (s.heap.objs.size+1))) (s.heap.objs.size+1) (.ins C s.heap.objs.size [])) { s with heap:=(s.heap.push PySem.W.emptyDict).push (PySem.W.instObj C s.heap.objs.size) }:=by
 have e1:(s.heap.push PySem.W.emptyDict).get? s.heap.objs.size=some PySem.W.emptyDict:=Heap.get?_push_size s.heap rfl;have e2:((s.heap.push PySem.W.emptyDict).push (PySem.W.instObj C s.heap.objs.size)).get? (s.heap.objs.size+1)=some (PySem.W.instObj C s.heap.objs.size):=by
  have:=Heap.get?_push_size (s.heap.push PySem.W.emptyDict) (o:=PySem.W.instObj C s.heap.objs.size) rfl
  rwa [Heap.size_push]at this
 have e3:(s.heap.push PySem.W.emptyDict).Ns s.heap.objs.size (fun _=>none):=⟨PySem.W.emptyDict,#[],_,e1,rfl,(fun e he=>absurd he (by simp)),fun _=>rfl⟩
 have I1:=I.laid (a:=s.heap.objs.size) (o:=.own (s.heap.objs.size+1)) (h':=s.heap.push PySem.W.emptyDict) (t':=s.toks) (fun b u q=>Heap.get?_push_of_some _ q) (Nat.le_refl _) ⟨_,e1⟩;refine I1.laid (a:=s.heap.objs.size+1) (o:=.ins C s.heap.objs.size []) (t':=s.toks) (fun b u q=>Heap.get?_push_of_some _ q) (Nat.le_of_eq (Heap.size_push _ _)) ?_;have ne:s.heap.objs.size≠s.heap.objs.size+1:=Nat.ne_of_lt (Nat.lt_succ_self _);refine⟨by rw[am ne,ac],Nat.zero_le _,ne,e2,fun _=>none,(Heap.Ns1.of_empty e3).at fun o q=>Heap.get?_push_of_some _ q,fun _=>True.intro,fun y hy=>absurd rfl hy⟩
end
section
variable {X:Cx}{o e value:Expr}{f:Str}{pos pos' tpos:Pos}{ta tv:TE}
end
section
variable {X:Cx}{pins:List (Addr×Obj)}{σ:St}{H:Hp}{s:Shared}{A:Around}{E:Value->Shared->Prop}{Q:Value->Shared->Prop}{c:Value}{b:Bool}
inductive TyOf (K:PySem.W.Frag) (H:Hp):V->Value->Prop where
 | non:TyOf K H .non (.type "NoneType")
 | bl (x:Bool):TyOf K H (.bl x) (.type "bool")
 | int (i:Int):TyOf K H (.int i) (.type "int")
 | str (x:Str):TyOf K H (.str x) (.type "str")
 | flt (x:UInt64):TyOf K H (.flt x) (.type "float")
 | lst {a:Addr} {xs:List V} (e:H a=some (.lst xs)):TyOf K H (.ref a) (.type "list")
 | frz {a:Addr} {o:Obj} {xs:List V} (e:H a=some (.frz o (.lst xs))):TyOf K H (.ref a) (.type "list")
 | tup {a:Addr} {xs:List V} (e:H a=some (.tup xs)):TyOf K H (.ref a) (.type "tuple")
 | dK {a:Addr} {kvs:List (Key×V)} (e:H a=some (.dK kvs)):TyOf K H (.ref a) (.type "dict")
 | dT {a:Addr} {kvs:List (List Key×V)} (e:H a=some (.dT kvs)):TyOf K H (.ref a) (.type "dict")
 | ins {a C dx:Addr} {fs:List (Str×V)} (e:H a=some (.ins C dx fs)) (cl:Cls K C) (ha:PySem.W.findIn K (.ref C) "__class__" = some (some (.builtin "object.__class__")))
  (hn:PySem.W.specialIn K (.builtin "object.__class__") "__get__" = some (some (.builtin "getset_descriptor.__get__"))) (htk:PySem.W.takesIn K (.builtin "object.__class__")=some true)
  (hm:PySem.W.mroIn K C (.type "object")=some true):TyOf K H (.ref a) (.ref C)
theorem cr {x:V}{u t:Value}(I:Inv X pins σ H s)(rx:RelV x u)(ty:TyOf X.K H x t)(e:PySem.W.kitOne X.K t c=some b)(h:∀tk,Q (.bool b) { s with toks:=tk }) :
 wpAny (model X.prog X.w) A (call (.builtin "isinstance") [u,c]) Q E s:=by
 cases ty with
 | non=>cases(show u=Value.none from rx);exact PySem.W.kia_one PySem.W.kitx_none I.kIn True.intro e (fun z=>nomatch z) h
 | bl y=>cases(show u=Value.bool y from rx);exact PySem.W.kia_one PySem.W.kitx_bool I.kIn True.intro e (fun z=>nomatch z) h
 | int i=>obtain⟨t,q⟩:=(show ∃t,u=Value.int i t from rx);cases q;exact PySem.W.kia_one PySem.W.kitx_int I.kIn True.intro e (fun z=>nomatch z) h
 | str y=>obtain⟨t,q⟩:=(show ∃t,u=Value.str y t from rx);cases q;exact PySem.W.kia_one PySem.W.kitx_str I.kIn True.intro e (fun z=>nomatch z) h
 | flt y=>obtain⟨t,q⟩:=(show ∃t,u=Value.float y t from rx);cases q;exact PySem.W.kia_one PySem.W.kitx_float I.kIn True.intro e (fun z=>nomatch z) h
 | @lst a xs ea =>
  cases(show u=Value.ref a from rx)
  obtain⟨_,_,n,_,h1⟩:=(show ObjOk X.prog X.w H s.heap a (.lst xs)from I.hok a _ ea)
  exact PySem.W.kia_one PySem.W.kitx_list I.kIn ⟨_,h1,rfl⟩ e (fun z=>nomatch z) h
 | @frz a ob xs ea =>
  cases(show u=Value.ref a from rx)
  obtain⟨_,_,_,n,_,h1⟩:=(show ObjOk X.prog X.w H s.heap a (.frz ob (.lst xs))from I.hok a _ ea)
  exact PySem.W.kia_one PySem.W.kitx_list I.kIn ⟨_,h1,rfl⟩ e (fun z=>nomatch z) h
 | @tup a xs ea =>
  cases(show u=Value.ref a from rx)
  obtain⟨_,_,_,p⟩:=(show ObjOk X.prog X.w H s.heap a (.tup xs)from I.hok a _ ea)
  obtain⟨o,h1,h2,_⟩:=p;exact PySem.W.kia_one PySem.W.kitx_tuple I.kIn ⟨o,h1,h2⟩ e (fun z=>nomatch z) h
 | @dK a kvs ea =>
  cases(show u=Value.ref a from rx)
  obtain⟨_,_,vs,_,p⟩:=(show ObjOk X.prog X.w H s.heap a (.dK kvs)from I.hok a _ ea)
  obtain⟨o,es,ep,h1,h2,_⟩:=p;exact PySem.W.kia_one PySem.W.kitx_dict I.kIn ⟨o,h1,h2.1⟩ e (fun z=>nomatch z) h
 | @dT a kvs ea =>
  cases(show u=Value.ref a from rx)
  obtain⟨_,_,xs,_,o,es,ep,h1,h2,_⟩:=(show ObjOk X.prog X.w H s.heap a (.dT kvs)from I.hok a _ ea)
  exact PySem.W.kia_one PySem.W.kitx_dict I.kIn ⟨o,h1,h2.1⟩ e (fun z=>nomatch z) h
 | @ins a C dx fs ea cl ha hn htk hm =>
  cases(show u=Value.ref a from rx)
  obtain⟨mA,O,_⟩:=d8 I.hok ea;obtain⟨od,J,_⟩:=O.look;exact PySem.W.kia_one (PySem.W.kitx_own (cl.get _) cl.hd ha hn htk hm) I.kIn J e (fun z=>nomatch z) h
end
end L2
namespace L2
open PySem PySem.Spec PyProof.Rows
structure Room (k:Nat) (A:Around):Prop where
 hd:A.handled=none
 dp:A.depth+3*k+5 < recursionLimit
 un:A.units+16*k+200 < cLine
theorem Room.mono {j k:Nat}{A:Around}(r:Room k A)(h:j≤k):Room j A:=⟨r.hd,by have:=r.dp;omega,by have:=r.un;omega⟩
theorem Room.deeper {k:Nat}{A:Around}(r:Room (k+1) A)(env:Env):Room k (A.deeper env):=
 ⟨r.hd,by have:=r.dp;show A.depth+1+3*k+5 < _;omega,by have:=r.un;show A.units+3+16*k+200 < _;omega⟩
theorem Room.depth {k:Nat}{A:Around}(r:Room k A):A.depth < recursionLimit:=by have:=r.dp;omega
theorem Room.units {k:Nat}{A:Around}(r:Room k A):A.units+64 < cLine:=by have:=r.un;omega
def tNil:TA:=fun _ H Q=>Q [] H
def cm (ta:TE)(tr:TA):TA:=fun σ H Q=>ta σ H fun x H1=>tr σ H1 fun xs H2=>Q (x::xs) H2
section
variable {X:Cx}{e:Expr}{es:List Expr}{te:TE}{t:TA}{pos:Pos}
theorem a9:PA X [] tNil:=fun _ _ _ _ H Q I h=>Calls.spliced_nil ⟨[],H,I,.nil,h⟩
theorem a6 (ha:PE X e te)(hr:PA X es t)(hs:starEach (e::es) X.env=(false,eval e X.env)::starEach es X.env:=by rfl):PA X (e::es) (cm te t):=by
 intro pos pins s σ H Q I h;rw[hs];show wpAny _ _ (spliced ((false,eval e X.env)::backTo pos (starEach es X.env))) _ _ s;refine Calls.spliced_cons (thn (ha pins s σ H _ I h) fun u s1 ⟨x,H1,I1,r1,q1⟩=>?_);exact thn (hr pos pins s1 σ H1 _ I1 q1) fun us s2 ⟨xs,H2,I2,r2,q2⟩=>⟨x::xs,H2,I2,.cons r1 r2,q2⟩
def tTup (t:TA):TE:=fun σ H Q=>t σ H fun xs H1=>xs.length≤sizeLine/\∀p,H1 p=none->Q (.ref p) (upd H1 p (.tup xs))
def tLst (t:TA):TE:=fun σ H Q=>t σ H fun xs H1=>xs.length≤sizeLine/\∀p,H1 p=none->Q (.ref p) (upd H1 p (.lst xs))
theorem bx {x1}(h:PA X es t):PE X (.Tuple es x1 pos) (tTup t):=by
 intro pins s σ H Q I hq;refine wpAny_Tuple_spliced (thn (h pos pins s σ H _ I hq) fun us s1 ⟨xs,H1,I1,r,z,q⟩=>⟨by rw[←r.length];exact z,?_⟩)
 have hf:H1 s1.heap.objs.size=none:=I1.hok.fresh (Nat.le_refl _);refine⟨.ref s1.heap.objs.size,upd H1 s1.heap.objs.size (.tup xs),I1.laid (t':=s1.toks) (fun b u e=>Heap.get?_push_of_some _ e) (Nat.le_refl _) ?_,rfl,q _ hf⟩;exact⟨z,us,r,⟨_,Heap.get?_push_size _ rfl,rfl,_,rfl⟩⟩
theorem b8 (h:PA X es t):PE X (.List es pos) (tLst t):=by
 intro pins s σ H Q I hq;refine wpAny_List_spliced (thn (h pos pins s σ H _ I hq) fun us s1 ⟨xs,H1,I1,r,z,q⟩=>⟨by rw[←r.length];exact z,?_⟩)
 have hf:H1 s1.heap.objs.size=none:=I1.hok.fresh (Nat.le_refl _);refine⟨.ref s1.heap.objs.size,upd H1 s1.heap.objs.size (.lst xs),I1.laid (t':=s1.toks) (fun b u e=>Heap.get?_push_of_some _ e) (Nat.le_refl _) ?_,rfl,q _ hf⟩;exact⟨z,us,0,r,Heap.get?_push_size _ rfl⟩
end
abbrev Sp:=List V->Hp->VK->XK->Prop
abbrev CXT:=List Env->Hp->Shared->XK->Value->Shared->Prop
structure Env0 (P:Program) (w:World) (K:PySem.W.Frag) (mg:Str->Option Value) (base:Heap) (A:Around) (outer:List Env) (s:Shared) (H:Hp):Prop where
 frames:A.frames=some outer
 mod:Mod K mg base
 bs:∀b o,base.get? b=some o->s.heap.get? b=some o/\H b=none
 bsz:base.objs.size≤s.heap.objs.size
 funs:s.heap.FunFrames base outer
 frf:∀b∈frs outer,H b=none
 hok:HOk P w H s.heap
 bare:AllBare s.gens
def CE (outer:List Env)(P:Program)(w:World)(H:Hp)(s:Shared)(Q:VK)(u:Value)(s':Shared):Prop:=
 ∃v H',s'.os=s.os/\AllBare s'.gens/\Un (frs outer) [] H H' s.heap s'.heap/\HOk P w H' s'.heap/\RelV v u/\Q v H'
def CR (CX:CXT)(outer:List Env)(P:Program)(w:World)(H:Hp)(s:Shared)(Q:VK)(E:XK)(r:Result)(s':Shared):Prop:=
 match r with
 | .ok (.ret u)=>CE outer P w H s Q u s'
 | .ok _=>False
 | .error e=>CX outer H s E e s'
structure FnOk (P:Program) (w:World) (K:PySem.W.Frag) (mg:Str->Option Value) (base:Heap) (CX:CXT) (k:Nat) (f:Addr) (fd:FuncData) (ps:List Str) (sp:Sp):Prop where
 len:∀vs H Q E,sp vs H Q E->vs.length=ps.length
 run:∀(A:Around) (outer:List Env) (s:Shared) (H:Hp) (args:Args) (us:List Value) (vs:List V) (Q:VK) (E:XK),Room k A->Env0 P w K mg base A outer s H->BindsTo s fd args (ps.zip us)->Vals vs us->sp vs H Q E →
  codeAny (model P w) A (.call (.ref f) args) (CR CX outer P w H s Q E) s
section
variable {X:Cx}{pins:List (Addr×Obj)}{σ:St}{H:Hp}{s s':Shared}
theorem Inv.env0 (I:Inv X pins σ H s):Env0 X.prog X.w X.K X.mg X.base X.A X.stack s H:=
 ⟨I.ok.frames,I.ok.mod,I.bs,Nat.le_trans I.ok.bsz I.sz,I.stack,I.stkFree,I.hok,I.bare⟩
theorem Inv.after {Q:VK}{u:Value}(I:Inv X pins σ H s)(h:CE X.stack X.prog X.w H s Q u s'):EP X pins σ Q u s':=by
 obtain⟨v,H',os,bare,un,hok,r,q⟩:=h;obtain⟨hh,g,d,t,os'⟩:=s';obtain rfl:os'=s.os:=os;exact⟨v,H',I.call (h':=hh) (g':=g) (d':=d) (t':=t) (ch:=[]) un hok bare (fun b z=>absurd z (by simp)),r,q⟩
end
def dy (sp:Sp)(dvs:List V)(E:XK)(t:TA):TE:=fun σ H Q=>t σ H fun vs H1=>sp (vs++dvs) H1 Q E
def Binds (K:PySem.W.Frag)(fd:FuncData)(ps:List Str)(ds:List Value):Prop:=
 ∀(s:Shared) (us:List Value),K.In s.heap->(us++ds).length=ps.length->BindsTo s fd ⟨us,[]⟩ (ps.zip (us++ds))
theorem Binds.all {K:PySem.W.Frag}{fd:FuncData}{ps:List Str}(h:∀us:List Value,us.length=ps.length->bindArgs fd ⟨us,[]⟩=pure (ps.zip us)):Binds K fd ps []:=fun s us _ hl=>by
 rw[List.append_nil]at hl⊢;exact .of_eq (h us hl)
def cg (CX:CXT)(X:Cx)(E:XK):Prop:=∀(pins:List (Addr×Obj)) (σ:St) (H:Hp) (s:Shared) (e:Value) (s':Shared),Inv X pins σ H s->CX X.stack H s E e s'->X.xe e s'
section
variable {X:Cx}{CX:CXT}{k:Nat}{f C:Addr}{fd:FuncData}{ps:List Str}{sp:Sp}{dvs:List V}{ds:List Value}{E:XK}{x m:Str}{p pos apos:Pos}{e o:Expr}{es:List Expr}{ta:TE}{t:TA}
theorem cW {pins:List (Addr×Obj)}{σ:St}{H:Hp}{s:Shared}{Q:VK}{us:List Value}{vs:List V}(F:FnOk X.prog X.w X.K X.mg X.base CX k f fd ps sp)(hr:Room k X.A)(hb:Binds X.K fd ps ds)(hd:Vals dvs ds)(hx:cg CX X E)(I:Inv X pins σ H s)(r:Vals vs us)(h:sp (vs++dvs) H Q E):wpAny (model X.prog X.w) X.A (call (.ref f) us) (EP X pins σ Q) X.xe s:=by
 have r2:Vals (vs++dvs) (us++ds):=r.append hd;have hl:(us++ds).length=ps.length:=by rw[←r2.length];exact F.len _ _ _ _ h
 refine wpAny_call (codeAny_mono (F.run X.A X.stack s H ⟨us,[]⟩ (us++ds) (vs++dvs) Q E hr I.env0 (hb s us I.kIn hl) r2 h) fun r s' hq=>?_);cases r with
 | error e=>exact hx pins σ H s e s' I hq
 | ok fl =>
  cases fl with
  | ret u=>exact I.after hq
  | next=>exact False.elim hq
  | brk=>exact False.elim hq
  | cont=>exact False.elim hq
theorem aE (F:FnOk X.prog X.w X.K X.mg X.base CX k f fd ps sp)(hr:Room k X.A)(hg:Gl X x)(hm:X.mg x=some (.ref f))(hk:PySem.W.keepIn X.K (.ref f)=true)(hb:Binds X.K fd ps ds)(hd:Vals dvs ds)(hx:cg CX X E)(ha:PA X (e::es) t)(hdb:(x == ("__debug__" : Str))=false:=by decide)(he:starEach (e::es) X.env=(false,eval e X.env)::starEach es X.env:=by rfl)(hpl:(backTo pos (starEach es X.env)).any (·.1)=false:=by rfl) :
 PE X (.Call (.Name x p) (e::es) [] pos) (dy sp dvs E t):=by
 intro pins s σ H Q I h;refine wpAny_Call_Name_kw (bj I hg hm ?_ hdb);refine PySem.W.callWith_K (h₀:=X.base) I.ok.mod.kin hk (thn (ha pos pins s σ H _ I h) fun us s1 ⟨vs,H1,I1,r,q⟩=>⟨I1.kIn,?_⟩) he hpl;exact cW F hr hb hd hx I1 r q
theorem be (F:FnOk X.prog X.w X.K X.mg X.base CX k f fd ps sp)(hr:Room k X.A)(hg:Gl X x)(hm:X.mg x=some (.ref f))(hk:PySem.W.keepIn X.K (.ref f)=true)(hb:Binds X.K fd ps ds)(hd:Vals dvs ds)(hx:cg CX X E)(hdb:(x == ("__debug__" : Str))=false:=by decide):PE X (.Call (.Name x p) [] [] pos) (dy sp dvs E tNil):=by
 intro pins s σ H Q I h;refine wpAny_Call_Name_kw (bj I hg hm ?_ hdb);exact PySem.W.callWith_K0 I.kIn hk (cW (us:=[]) F hr hb hd hx I .nil h)
end
section
variable {X:Cx}{CX:CXT}{k:Nat}{f C:Addr}{fd:FuncData}{ps ks:List Str}{sp:Sp}{E:XK}{x m:Str}{p pos apos kpos:Pos}{e o:Expr}{es:List Expr}{kws:List Keyword}{te ta:TE}{t tk:TA}{nm:Option Str}
variable {g:List Value->List Value->List Value}{gV:List V->List V->List V}
end
structure FnScope (N P:List Str) (sc:Scope):Prop where
 kind:sc.kind = .function
 co:sc.isCoroutine=false
 gen:sc.isGenerator=false
 nd:N.Nodup
 pre:N.take P.length=P
 par:∀x∈P,sc.names.lookup x=some .local∨sc.names.lookup x=some .cell
 nofree:∀y∈sc.names,y.2≠.free
theorem cx {kindOf:Str->Option NameKind}{x:Str}:∀{binds:List (Str×Value)} {m:Str->Option Value},(∀v,(x,v)∉binds)->bindL kindOf binds m x=m x
 | [],_,_=>rfl
 | (n,v)::r,m,h=>by
  unfold bindL;rw[cx fun w hw=>h w (List.mem_cons_of_mem _ hw)]
  split
  . have:x≠n:=by rintro rfl;exact h v List.mem_cons_self
    simp[this]
  . rfl
theorem cz {kindOf:Str->Option NameKind}{x:Str}:∀{binds:List (Str×Value)} {m:Str->Option Value},(∀v,(x,v)∉binds)->bindC kindOf binds m x=m x
 | [],_,_=>rfl
 | (n,v)::r,m,h=>by
  unfold bindC;rw[cz fun w hw=>h w (List.mem_cons_of_mem _ hw)]
  split
  . rfl
  . have:x≠n:=by rintro rfl;exact h v List.mem_cons_self
    simp[this]
theorem cy {kindOf:Str->Option NameKind}{x:Str}{v:Value}:∀{P:List Str} {vs:List Value} {i:Nat} {m:Str->Option Value},P.Nodup->P[i]? = some x->vs[i]? = some v->kindOf x=some .local →
 bindL kindOf (P.zip vs) m x=some v
 | [],_,_,_,_,h,_,_=>by simp at h
 | _::_,[],_,_,_,_,h,_=>by simp at h
 | p::P,w::vs,0,m,nd,h1,h2,hk=>by
  simp at h1 h2;subst h1;subst h2;show bindL kindOf ((p,w)::P.zip vs) m p=_;unfold bindL;rw[cx fun v hv=>(List.nodup_cons.mp nd).1 (List.of_mem_zip hv).1,if_pos hk];simp
 | p::P,w::vs,i+1,m,nd,h1,h2,hk=>by
  show bindL kindOf ((p,w)::P.zip vs) m x=_;unfold bindL;exact cy (i:=i) (List.nodup_cons.mp nd).2 (by simpa using h1) (by simpa using h2) hk
theorem cA {kindOf:Str->Option NameKind}{x:Str}{v:Value}:∀{P:List Str} {vs:List Value} {i:Nat} {m:Str->Option Value},P.Nodup->P[i]? = some x->vs[i]? = some v->kindOf x≠some .local →
 bindC kindOf (P.zip vs) m x=some v
 | [],_,_,_,_,h,_,_=>by simp at h
 | _::_,[],_,_,_,_,h,_=>by simp at h
 | p::P,w::vs,0,m,nd,h1,h2,hk=>by
  simp at h1 h2;subst h1;subst h2;show bindC kindOf ((p,w)::P.zip vs) m p=_;unfold bindC;rw[cz fun v hv=>(List.nodup_cons.mp nd).1 (List.of_mem_zip hv).1,if_neg hk];simp
 | p::P,w::vs,i+1,m,nd,h1,h2,hk=>by
  show bindC kindOf ((p,w)::P.zip vs) m x=_;unfold bindC;exact cA (i:=i) (List.nodup_cons.mp nd).2 (by simpa using h1) (by simpa using h2) hk
def bB (N:List Str)(vs:List V):St:=vs.map some++List.replicate (N.length - vs.length) none
def cxOf (CX:CXT)(P:Program)(w:World)(K:PySem.W.Frag)(mg:Str->Option Value)(base:Heap)(N:List Str)(qual:Str)(scope:Scope)(f:Addr)(cd:Value)(A:Around)(outer:List Env)(s:Shared)(H:Hp)(E:XK):Cx where
 prog:=P
 w:=w
 K:=K
 mg:=mg
 base:=base
 A:=A.deeper (envOfC qual scope s.heap.objs.size f cd)
 N:=N
 s₀:=s
 H₀:=H
 env:=envOfC qual scope s.heap.objs.size f cd
 outer:=outer
 stack:=envOfC qual scope s.heap.objs.size f cd::outer
 ex:=[]
 calm:=true
 fn:=fun _=>true
 pn:=[]
 xe:=fun e s'=>wpAny (model P w) (A.deeper (envOfC qual scope s.heap.objs.size f cd)) (leaving (envOfC qual scope s.heap.objs.size f cd) e) (fun _ s''=>CX outer H s E e s'') (fun e' s''=>CX outer H s E e' s'') s'
theorem cV {sc:Scope}{n:Nat}{x:Str}(h:sc.names.lookup x=some .cell):∃c,(cellsFrom n sc.names []).lookup x=some c:=by
 have q:=PySem.W.cellsFrom_some sc.names n [] (.inl h);exact Option.isSome_iff_exists.mp q
theorem inv_start {CX:CXT}{P:Program}{w:World}{K:PySem.W.Frag}{mg:Str->Option Value}{base:Heap}{N ps:List Str}{qual:Str}{scope:Scope}{f:Addr}{cd:Value}{A:Around}{outer:List Env}{s s1:Shared}{H:Hp}{E:XK}{us:List Value}{vs:List V}(S:FnScope N ps scope)(hd:A.handled=none)(e0:Env0 P w K mg base A outer s H)(hl:vs.length=ps.length)(r:Vals vs us)(x:InCallC s s.heap.objs.size (bindL (envOfC qual scope s.heap.objs.size f cd).kindOf (ps.zip us) fun _=>none) (cellsFrom (s.heap.objs.size+1) scope.names []) (bindC (envOfC qual scope s.heap.objs.size f cd).kindOf (ps.zip us) fun _=>none) s1):Inv (cxOf CX P w K mg base N qual scope f cd A outer s H E) [] (bB N vs) H s1:=by
 have hpl:ps.length≤N.length:=by have:=congrArg List.length S.pre;rw[List.length_take]at this;omega
 obtain⟨h1,tk,rfl,hk⟩:=x.done;have noA:∀b:Addr,b∉(cxOf CX P w K mg base N qual scope f cd A outer s H E).ex:=fun b z=>absurd (show b∈([]:List Addr)from z) (by simp)
 refine⟨⟨e0.mod,S.kind,rfl,rfl,Nat.le_refl _,fun y z c h1 h2=>?_,fun y hy=>?_,fun y c _ h=>?_,fun _=>hd,Around.frames_deeper e0.frames,.inr ⟨rfl,rfl⟩,fun b z=>absurd z (noA b),e0.bs,e0.bsz,fun b _ _=>noA b,fun b z=>absurd z (noA b),e0.funs,e0.frf⟩,
  rfl,e0.bare,Un.kept hk,⟨_,x.toInCall.ns,fun i y v h1 h2 h3=>?_⟩,fun y c h=>⟨_,x.cell y c h⟩,e0.hok.fresh (Nat.le_refl _),fun y c h=>?_,fun p hp=>absurd (show p∈([]:List (Addr×Obj))from hp) (by simp),e0.hok.kept hk,?_⟩
 . exact name_of_addr x.apart (PySem.mem_of_lookup h1) (PySem.mem_of_lookup h2)
 . have hy:scope.names.lookup y=some .cell∨scope.names.lookup y=some .free:=hy;rcases hy with hy | hy
   . exact cV hy
   . exact absurd rfl (S.nofree _ (PySem.mem_of_lookup hy))
 . exact Nat.le_of_lt (x.above y c (PySem.mem_of_lookup h))
 . have hi:i < vs.length:=by
    unfold bB at h2;by_cases hi:i < vs.length
    . exact hi
    . rw[List.getElem?_append_right (by simpa using hi)]at h2
      rw[List.getElem?_replicate]at h2
      split at h2<;>cases h2
   have ha:vs[i]? = some v:=by
    unfold bB at h2;rw[List.getElem?_append_left (by simpa using hi),List.getElem?_map]at h2
    cases e:vs[i]? with
    | none=>rw[e]at h2;cases h2
    | some a=>rw[e]at h2;cases h2;rfl
   obtain⟨u,hu,rv⟩:=r.get ha;have hp:ps[i]? = some y:=by
    rw[←S.pre,List.getElem?_take_of_lt (by omega)];exact h1
   have ndP:ps.Nodup:=by rw[←S.pre];exact S.nd.sublist (List.take_sublist _ _)
   refine⟨u,rv,?_⟩;rcases S.par y (List.mem_of_getElem? hp)with k | k
   . exact .inl ⟨k,cy ndP hp hu k⟩
   . obtain⟨c,e⟩:=cV (n:=s.heap.objs.size+1) k;refine .inr ⟨.inl k,c,e,?_⟩;have q:=x.cell y c e;rw[cA ndP hp hu (by show scope.names.lookup y≠_;rw[k];decide)]at q
     exact q
 . exact e0.hok.fresh (Nat.le_of_lt (x.above y c (PySem.mem_of_lookup h)))
 . unfold bB;show _=N.length;rw[List.length_append,List.length_map,List.length_replicate];omega
theorem fz {CX:CXT}{P:Program}{w:World}{K:PySem.W.Frag}{mg:Str->Option Value}{base:Heap}{k:Nat}{f:Addr}{name qual:Str}{params:Arguments}{body:List Stmt}{scope:Scope}{dV kV doc pm cdv ct oc:Value}{an od:Option Addr}{osl:Array (Option Value)}{N ps:List Str}{sp:Sp}(lk:K.lookup f=some ⟨oc,od,.func (PySem.W.fnOf name qual params body scope dV kV doc pm an cdv ct),osl⟩)(hcd:PySem.W.codeIn K cdv qual=true)(S:FnScope N ps scope)(len:∀vs H Q E,sp vs H Q E->vs.length=ps.length)(hbody:∀(A:Around) (outer:List Env) (s:Shared) (H:Hp) (vs:List V) (Q:VK) (E:XK),Room k (A.deeper (envOfC qual scope s.heap.objs.size f cdv))->sp vs H Q E->∃t,PSs (cxOf CX P w K mg base N qual scope f cdv A outer s H E) body t/\t { nx:=fun _ H'=>Q .non H',rt:=Q } (bB N vs) H) :
 FnOk P w K mg base CX (k+1) f (PySem.W.fnOf name qual params body scope dV kV doc pm an cdv ct) ps sp:=by
 refine⟨len,fun A outer s H args us vs Q E hr e0 hb r hsp=>?_⟩;have hl:=len _ _ _ _ hsp;have KX:K.In s.heap:=e0.mod.kin.keeps fun b o e=>(e0.bs b o e).1;have lim:s.heap.NoLimit:=e0.mod.nolimit.keeps fun b o e=>(e0.bs b o e).1;have hkind:∀y∈ps.zip us,scope.names.lookup y.1=some .local∨(scope.names.lookup y.1=some .cell/\((cellsFrom (s.heap.objs.size+1) scope.names []).lookup y.1).isSome=true):=fun⟨n,v⟩ hy=>by
  rcases S.par n (List.of_mem_zip hy).1 with q | q
  . exact .inl q
  . exact .inr ⟨q,PySem.W.cellsFrom_some _ _ _ (.inl q)⟩
 refine codeAny_call_function hr.depth (KX _ _ lk) rfl S.co S.gen rfl (PySem.W.codeRec_of KX hcd) (hb _ _ _ _ ?_);refine wpAny_newFunctionEnv_cells S.kind hkind fun env he s1 x=>?_;subst he;refine⟨lim.keeps x.toInCall.keep,codeAny_func ?_⟩;obtain⟨t,ht,hq⟩:=hbody A outer s H vs Q E (hr.deeper _) hsp;have I:Inv (cxOf CX P w K mg base N qual scope f cdv A outer s H E) [] (bB N vs) H s1:=inv_start S hr.hd e0 hl r x;refine wpAny_mono (ht [] s1 (bB N vs) H _ I hq) (fun fl s' hs=>?_) fun e s' hs=>hs;have fin:∀{σ':St} {H':Hp} {v:V} {u:Value},Inv (cxOf CX P w K mg base N qual scope f cdv A outer s H E) [] σ' H' s'->RelV v u->Q v H'->CE outer P w H s Q u s':=
  fun{σ' H' v u} J rv q=>⟨v,H',J.os,J.bare,J.base,J.hok,rv,q⟩
 cases fl with
 | ret u =>
  obtain⟨v,σ',H',J,rv,q⟩:=hs;exact fin J rv q
 | next =>
  obtain⟨σ',H',J,q⟩:=hs;exact fin (v:=V.non) (u:=Value.none) J rfl q
 | brk =>
  obtain⟨_,_,_,q⟩:=hs;exact False.elim q
 | cont =>
  obtain⟨_,_,_,q⟩:=hs;exact False.elim q
end L2
namespace L2
open PySem PySem.Spec PyProof.Rows
section
variable {X:Cx}{x:Str}{p pos:Pos}{e:Expr}{es:List Expr}{t:TA}{id T:String}{r:List V->Hp->VK->Prop}
def tCB (r:List V->Hp->VK->Prop)(t:TA):TE:=fun σ H Q=>t σ H fun vs H1=>r vs H1 Q
theorem ai (hc:bR X (.builtin id) r)(hg:Gl X x)(hm:X.mg x=none)(hv:bootBuiltins x=some (.builtin id))(ha:PA X (e::es) t)(hn:x ≠ "__name__" := by decide)(hdb:(x == ("__debug__" : Str))=false:=by decide)
 (he:starEach (e::es) X.env=(false,eval e X.env)::starEach es X.env:=by rfl) (hpl:(backTo pos (starEach es X.env)).any (·.1)=false:=by rfl):PE X (.Call (.Name x p) (e::es) [] pos) (tCB r t):=by
 intro pins s σ H Q I h;refine wpAny_Call_Name_kw (cY I hg hm hv ?_ hn hdb);exact PyProof.Rows.callWith_builtin1 (thn (ha pos pins s σ H _ I h) fun us s1 ⟨vs,H1,I1,r1,q1⟩=>hc pins s1 σ H1 vs us Q I1 r1 q1) he hpl
end
end L2
namespace HT
open PySem PyProof.Rows
section
open PySem.SeqAt
open PySem.AutoSeq1 (wpAny_loadPart')
open PySem.MeetsSeq PySem.MeetsSeq2 PySem.MeetsSeq3
end
section
variable {prog:Program}{w:World}{A:Around}{E:Value->Shared->Prop}{s:Shared}
def sIx (n d:Nat):Option Int->Nat
 | none=>d
 | some v=>if v < 0 then (v+(n:Int)).toNat else min v.toNat n
end
end HT
namespace L2
open PySem PySem.Spec PyProof.Rows
abbrev TO:=St->Hp->(Option Int->Hp->Prop)->Prop
def PO (X:Cx)(e:Option Expr)(t:TO):Prop:=
 ∀(pins:List (Addr×Obj)) (s:Shared) (σ:St) (H:Hp) (Q:Option Int->Hp->Prop),Inv X pins σ H s->t σ H Q →
  wpAny (model X.prog X.w) X.A (evalPart e X.env) (fun u s'=>∃o H',Inv X pins σ H' s'/\IsPart u o/\Q o H') X.xe s
def tNoPart:TO:=fun _ H Q=>Q none H
def tPart (t:TE):TO:=fun σ H Q=>t σ H fun x H1=>∃i,x = .int i/\Q (some i) H1
section
variable {X:Cx}{e:Expr}{te:TE}{lo hi:Option Expr}{tl th:TO}{pos p2:Pos}
theorem aY:PO X none tNoPart:=by
 intro pins s σ H Q I h;rw[evalPart_none];exact wpAny_pure ⟨none,H,I,.none,h⟩
theorem aN (h:PE X e te):PO X (some e) (tPart te):=by
 intro pins s σ H Q I hw;rw[evalPart_some];refine thn (h pins s σ H _ I hw) fun u s1 ⟨x,H1,I1,r1,q1⟩=>?_;obtain⟨i,rfl,q⟩:=q1;obtain⟨t,rfl⟩:=r1;exact⟨some i,H1,I1,.int i t,q⟩
def SlR (X:Cx)(r:V->Option Int->Option Int->Hp->VK->Prop):Prop:=
 ∀(pins:List (Addr×Obj)) (s:Shared) (σ:St) (H:Hp) (x:V) (v vl vu:Value) (lo hi:Option Int) (sl:Addr) (Q:VK),Inv X pins σ H s->RelV x v->s.heap.IsSliceOf sl vl vu .none->IsPart vl lo->IsPart vu hi->r x lo hi H Q →
  ∃T id,typeLookup (.type T) "__getitem__" = pure (some (.builtin id))/\s.TypeIs v T/\wpAny (model X.prog X.w) X.A (getItem v (.ref sl)) (EP X pins σ Q) X.xe s
def tSl (r:V->Option Int->Option Int->Hp->VK->Prop)(te:TE)(tl th:TO):TE:=fun σ H Q=>te σ H fun x H1=>tl σ H1 fun l H2=>th σ H2 fun u H3=>r x l u H3 Q
theorem aI {r:V->Option Int->Option Int->Hp->VK->Prop}(hr:SlR X r)(he:PE X e te)(hl:PO X lo tl)(hu:PO X hi th):PE X (.Subscript e (.Slice lo hi none p2) pos) (tSl r te tl th):=by
 intro pins s σ H Q I h;refine Subscript_ (thn (he pins s σ H _ I h) fun v s1 ⟨x,H1,I1,r1,q1⟩=>?_);refine wpAny_Slice (thn (hl pins s1 σ H1 _ I1 q1) fun vl s2 ⟨l,H2,I2,pl,q2⟩=>thn (hu pins s2 σ H2 _ I2 q2) fun vu s3 ⟨u,H3,I3,pu,q3⟩=>?_);rw[evalPart_none];refine wpAny_pure ?_;have I4:Inv X pins σ H3 { s3 with heap:=s3.heap.push { cls:=.type "slice", data:=.fields #[vl,vu,.none] } }:=I3.kept (t':=s3.toks) fun b ob q=>Heap.get?_push_of_some _ q
 obtain⟨T,id,hT,ht,hg⟩:=hr pins { s3 with heap:=s3.heap.push { cls:=.type "slice", data:=.fields #[vl,vu,.none] } } σ H3 x v vl vu l u s3.heap.objs.size Q I4 r1 (Heap.IsSliceOf.new ..) pl pu q3
 show wpAny (model X.prog X.w) X.A (subscriptTail e (.Slice lo hi none p2) v (.ref s3.heap.objs.size)) (EP X pins σ Q) X.xe { s3 with heap:=s3.heap.push { cls:=.type "slice", data:=.fields #[vl,vu,.none] } }
 exact tail_any (ops:=[.ref s3.heap.objs.size,v]) ht hT hg (by with_unfolding_all rfl)
def cutV (xs:List V)(lo hi:Option Int):List V:=(xs.drop (HT.sIx xs.length 0 lo)).take (HT.sIx xs.length xs.length hi - HT.sIx xs.length 0 lo)
theorem bQ (xs:List V)(lo hi:Option Int):(cutV xs lo hi).length≤xs.length:=by
 unfold cutV;rw[List.length_take,List.length_drop];omega
end
end L2
namespace L2
open PySem PySem.Spec PyProof.Rows
def ixN (n:Nat)(i:Int):Option Nat:=if 0≤i then (if i < n then some i.toNat else none)else if -(n:Int)≤i then some (i+n).toNat else none
def atI {α:Type}(xs:List α)(i:Int):Option α:=(ixN xs.length i).bind fun j=>xs[j]?
theorem ixN_seq {n:Nat}{i:Int}{j:Nat}(h:ixN n i=some j):seqIndex? i n=some j/\j < n/\-(n:Int)≤i/\i < n:=by
 unfold ixN at h;by_cases h0:0≤i
 . rw[if_pos h0]at h;by_cases h1:i < n
   . rw[if_pos h1]at h;have e:i.toNat=j:=Option.some.inj h;exact⟨by rw[seqIndex_of h0 h1,e],by omega,by omega,h1⟩
   . rw[if_neg h1]at h;cases h
 . rw[if_neg h0]at h;by_cases h1 : -(n:Int)≤i
   . rw[if_pos h1]at h;have e:(i+n).toNat=j:=Option.some.inj h;exact⟨by rw[seqIndex_neg (by omega) h1,e],by omega,h1,by omega⟩
   . rw[if_neg h1]at h;cases h
theorem de {α:Type}{xs:List α}{i:Int}{v:α}(h:atI xs i=some v):∃j,seqIndex? i xs.length=some j/\xs[j]? = some v/\j < xs.length/\-(xs.length:Int)≤i/\i < xs.length:=by
 unfold atI at h;cases e:ixN xs.length i with
 | none=>rw[e]at h;cases h
 | some j =>
  rw[e]at h;obtain⟨h1,h2,h3,h4⟩:=ixN_seq e;exact⟨j,h1,h,h2,h3,h4⟩
theorem bq {α:Type}{xs:List α}{j:Nat}{v:α}(h:xs[j]? = some v):atI xs (j:Int)=some v:=by
 have hj:j < xs.length:=(List.getElem?_eq_some_iff.mp h).1;have e:ixN xs.length (j:Int)=some j:=by
  unfold ixN;rw[if_pos (by omega),if_pos (by omega)];simp
 unfold atI;rw[e];exact h
def PlainIx (b:Expr):Prop:=∀o i,subscripted b false o i=operate [o,i] (getItem o i)
def IxR (X:Cx)(r:R2):Prop:=
 ∀(value slice:Expr) (pins:List (Addr×Obj)) (s:Shared) (σ:St) (H:Hp) (x y:V) (v u:Value) (Q:VK),Inv X pins σ H s->RelV x v->RelV y u->r x y H Q →
  subscripted slice false v u=operate [v,u] (getItem v u)->wpAny (model X.prog X.w) X.A (subscriptTail value slice v u) (EP X pins σ Q) X.xe s
def MtR (X:Cx)(id:String)(r:V->List V->Hp->VK->Prop):Prop:=
 ∀(pins:List (Addr×Obj)) (s:Shared) (σ:St) (H:Hp) (x:V) (xs:List V) (v:Value) (us:List Value) (Q:VK),Inv X pins σ H s->RelV x v->Vals xs us->r x xs H Q →
  wpAny (model X.prog X.w) X.A (call (.builtin id) (v::us)) (EP X pins σ Q) X.xe s
section
variable {X:Cx}{a b:Expr}{ta tb:TE}{pos:Pos}
theorem bO {r:R2}(hr:IxR X r)(ha:PE X a ta)(hb:PE X b tb)(hs:PlainIx b):PE X (.Subscript a b pos) (tOp r ta tb):=by
 intro pins s σ H Q I h;exact Subscript_ (binT ha hb I h fun v u s2 x y H2 I2 rx ry q=>hr a b pins s2 σ H2 x y v u Q I2 rx ry q (hs _ _))
def rIxL (K:PySem.W.Frag):R2:=fun x y H Q=>∃p xs i v,x = .ref p/\y = .int i/\SqL K H p xs/\atI xs i=some v/\Q v H
def rIxS:R2:=fun x y H Q=>∃z i c,x = .str z/\y = .int i/\z.length≤sizeLine/\atI z.cps.toList i=some c/\Q (.str ⟨#[c]⟩) H
theorem ix_list:IxR X (rIxL X.K):=by
 intro value slice pins s σ H x y v u Q I rx ry h hs;obtain⟨p,xs,i,z,rfl,rfl,hq,he,q⟩:=h;cases rx;obtain⟨t,rfl⟩:=ry;obtain⟨its,r,pl,hz⟩:=I.list hq;obtain⟨j,h1,h2,h3,h4,h5⟩:=de he;obtain⟨w,ew,rw'⟩:=r.get h2;have hl:=r.length;have hn:=cG;have fin:EP X pins σ Q w s:=⟨z,H,I,rw',q⟩;by_cases h0:0≤i
 . have hj:i.toNat=j:=by
    rw[seqIndex_of h0 h5]at h1;exact Option.some.inj h1
   exact item_listR pl.isList h0 (by omega) (by rw[hj];simpa using ew) fin hs
 . have hj:(i+(its.toArray.size:Int)).toNat=j:=by
    rw[seqIndex_neg (by omega) h4]at h1
    rw[List.size_toArray,←hl];exact Option.some.inj h1
   exact subscriptTail_builtinR (x:=w) pl.isList.typeIs slot_list_getitem.lookup
    (wpAny_getItem_list_neg (Q:=fun r s'=>r=w/\EP X pins σ Q r s') pl.isList (by omega) (by rw[List.size_toArray]<;>omega) (by omega) (by rw[hj];simpa using ew) ⟨rfl,fin⟩) hs
theorem dl:IxR X rIxS:=by
 intro value slice pins s σ H x y v u Q I rx ry h hs;obtain⟨z,i,c,rfl,rfl,hz,he,q⟩:=h;obtain⟨t,rfl⟩:=rx;obtain⟨t',rfl⟩:=ry;obtain⟨j,h1,h2,h3,h4,h5⟩:=de he;have hl:z.cps.toList.length=z.length:=by simp[Str.length]
 rw[hl]at h1 h4 h5;have hn:=cG;exact tail_any (typeIs_str s z t) slot_str_getitem.lookup (getItem_str (c:=c) (by
  have e1:decide (i < -(2 ^ 63:Int))=false:=decide_eq_false (by omega)
  have e2:decide (i ≥ 2 ^ 63)=false:=decide_eq_false (by omega)
  rw[e1,e2,Bool.or_false]) (by rw[h1];simpa using h2) ⟨.str ⟨#[c]⟩,H,I.tok _,⟨_,rfl⟩,q⟩) hs
theorem slice_bounds (lo hi:Option Int)(n:Nat):(sliceBounds lo hi none n).1=((HT.sIx n 0 lo:Nat):Int)/\(sliceBounds lo hi none n).2.1=((HT.sIx n n hi:Nat):Int)/\(sliceBounds lo hi none n).2.2=1:=by
 refine⟨?_,?_,rfl⟩
 . cases lo with
   | none=>simp[sliceBounds,HT.sIx]
   | some i =>
    simp only[sliceBounds,HT.sIx,Option.getD_none,show(1:Int) > 0 by decide,if_true]
    by_cases h:i < 0
    . simp only[h,if_true]<;>omega
    . simp only[h,if_false]<;>omega
 . cases hi with
   | none=>simp[sliceBounds,HT.sIx]
   | some i =>
    simp only[sliceBounds,HT.sIx,Option.getD_none,show(1:Int) > 0 by decide,if_true]
    by_cases h:i < 0
    . simp only[h,if_true]<;>omega
    . simp only[h,if_false]<;>omega
theorem slicePick_cut (its:List Value)(lo hi:Option Int):slicePick its.toArray lo hi none=((its.drop (HT.sIx its.length 0 lo)).take (HT.sIx its.length its.length hi - HT.sIx its.length 0 lo)).toArray:=by
 obtain⟨h1,h2,h3⟩:=slice_bounds lo hi its.toArray.size;unfold slicePick;rw[h1,h2,h3];simp only[sliceRange_one,pick_run,List.size_toArray]<;>rfl
def rSlL (K:PySem.W.Frag):V->Option Int->Option Int->Hp->VK->Prop:=fun x lo hi H Q=>∃a xs,x = .ref a/\SqL K H a xs/\∀p,H p=none->Q (.ref p) (upd H p (.lst (cutV xs lo hi)))
theorem sl_list:SlR X (rSlL X.K):=by
 intro pins s σ H x v vl vu lo hi sl Q I rx hs pl pu h;obtain⟨a,xs,rfl,hx,q⟩:=h;cases rx;obtain⟨its,r,ht,hz⟩:=I.list hx;have hlen:=r.length;refine⟨"list", _,slot_list_getitem.lookup,ht.isList.typeIs,?_⟩;refine wpAny_getItem_list_slice ht.isList hs pl pu .none (by simp) ?_ (by rw[List.size_toArray]<;>omega)
 rw[slicePick_cut,←hlen];refine⟨.ref s.heap.objs.size,_,I.laid (t':=s.toks) (o:=.lst (cutV xs lo hi)) (fun b ob q=>Heap.get?_push_of_some _ q) (Nat.le_refl _) ?_,rfl,q _ (I.hok.fresh (Nat.le_refl _))⟩;exact⟨Nat.le_trans (bQ xs lo hi) hz,_,0,(r.drop (HT.sIx xs.length 0 lo)).take (HT.sIx xs.length xs.length hi - HT.sIx xs.length 0 lo),Heap.get?_push_size _ rfl⟩
def b0:V->Bool
 | .non=>true
 | .bl _=>true
 | .int _=>true
 | .str _=>true
 | _=>false
def eqV:V->V->Bool
 | .non,.non=>true
 | .bl a,.bl b=>a == b
 | .bl a,.int b=>(if a then 1 else 0) == b
 | .int a,.bl b=>a == (if b then 1 else 0)
 | .int a,.int b=>a == b
 | .str a,.str b=>a == b
 | _,_=>false
theorem dn {A:Around}{s:Shared}{y x:V}{u v:Value}(ry:RelV y u)(rx:RelV x v)(fy:b0 y=true)(fx:b0 x=true):SeqAt.EqAt A s u v (eqV y x):=by
 cases y with
 | non =>
  cases ry;cases x with
  | non=>cases rx;exact SeqAt.EqAt.same _
  | bl b=>cases rx;exact SeqAt.EqAt.none_bool b
  | int b=>obtain⟨t,rfl⟩:=rx;exact SeqAt.EqAt.none_int b t
  | str b=>obtain⟨t,rfl⟩:=rx;exact SeqAt.EqAt.none_str b t
  | _=>exact absurd (show false=true from fx) Bool.false_ne_true
 | bl a =>
  cases ry;cases x with
  | non=>cases rx;exact SeqAt.EqAt.bool_none a
  | bl b=>cases rx;exact SeqAt.EqAt.bool_bool a b
  | int b=>obtain⟨t,rfl⟩:=rx;exact SeqAt.EqAt.bool_int a b t
  | str b=>obtain⟨t,rfl⟩:=rx;exact SeqAt.EqAt.bool_str a b t
  | _=>exact absurd (show false=true from fx) Bool.false_ne_true
 | int a =>
  obtain⟨t',rfl⟩:=ry;cases x with
  | non=>cases rx;exact SeqAt.EqAt.int_none a t'
  | bl b=>cases rx;exact SeqAt.EqAt.int_bool a t' b
  | int b=>obtain⟨t,rfl⟩:=rx;exact SeqAt.EqAt.int_int a t' b t
  | str b=>obtain⟨t,rfl⟩:=rx;exact SeqAt.EqAt.int_str a t' b t
  | _=>exact absurd (show false=true from fx) Bool.false_ne_true
 | str a =>
  obtain⟨t',rfl⟩:=ry;cases x with
  | non=>cases rx;exact SeqAt.EqAt.str_none a t'
  | bl b=>cases rx;exact SeqAt.EqAt.str_bool a t' b
  | int b=>obtain⟨t,rfl⟩:=rx;exact SeqAt.EqAt.str_int a t' b t
  | str b=>obtain⟨t,rfl⟩:=rx;exact SeqAt.EqAt.str_str a t' b t
  | _=>exact absurd (show false=true from fx) Bool.false_ne_true
 | _=>exact absurd (show false=true from fy) Bool.false_ne_true
def eqU (x:V)(u:Value):Bool:=match u with
 | .none=>eqV .non x
 | .bool b=>eqV (.bl b) x
 | .int i _=>eqV (.int i) x
 | .str z _=>eqV (.str z) x
 | _=>false
theorem cZ {x y:V}{u:Value}(r:RelV y u)(f:b0 y=true):eqU x u=eqV y x:=by
 cases y with
 | non=>cases r;rfl
 | bl b=>cases r;rfl
 | int i=>obtain⟨t,rfl⟩:=r;rfl
 | str z=>obtain⟨t,rfl⟩:=r;rfl
 | _=>exact absurd (show false=true from f) Bool.false_ne_true
theorem cI {x:V}:∀{xs:List V} {us:List Value},Vals xs us->xs.all b0=true->us.any (eqU x)=xs.any fun y=>eqV y x
 | _,_,.nil,_=>rfl
 | y::xs,u::us,.cons r t,f=>by
  rw[List.all_cons,Bool.and_eq_true]at f;rw[List.any_cons,List.any_cons,cZ r f.1,cI t f.2]
theorem bF {A:Around}{s:Shared}{x:V}{v:Value}(rx:RelV x v)(fx:b0 x=true):∀{xs:List V} {us:List Value},Vals xs us->xs.all b0=true->∀u∈us,SeqAt.EqAt A s u v (eqU x u)
 | _,_,.nil,_=>fun u hu=>by cases hu
 | y::xs,u::us,.cons r t,f=>fun u' hu=>by
  rw[List.all_cons,Bool.and_eq_true]at f;rcases List.mem_cons.mp hu with rfl | hu
  . rw[cZ r f.1];exact dn r rx f.1 fx
  . exact bF rx fx t f.2 u' hu
def inV (x:V)(xs:List V):Bool:=xs.any fun y=>eqV y x
def rIn (K:PySem.W.Frag)(neg:Bool):R2:=fun x y H Q=>∃p xs,y = .ref p/\(SqL K H p xs∨SqT K H p xs)/\b0 x=true/\xs.all b0=true/\Q (.bl (if neg then !inV x xs else inV x xs)) H
theorem op_in_seq:OpR X (compareOp .In) (rIn X.K false):=by
 intro pins s σ H x y v u Q I rx ry h;obtain⟨p,xs,rfl,hq,fx,fs,q⟩:=h;cases ry;rcases hq with hq | hq
 . obtain⟨its,r,pl,hz⟩:=I.list hq;refine SeqAt.in_listAt (eqU x) pl.isList (fun w hw=>bF rx fx r fs w (by simpa using hw)) ⟨.bl _,H,I,rfl,?_⟩
   rw[show its.toArray.any (eqU x)=its.any (eqU x) by simp,cI r fs]
   exact q
 . obtain⟨its,r,pl,hz⟩:=I.tuple hq;refine SeqAt.in_tupleAt (eqU x) pl (fun w hw=>bF rx fx r fs w (by simpa using hw)) ⟨.bl _,H,I,rfl,?_⟩
   rw[show its.toArray.any (eqU x)=its.any (eqU x) by simp,cI r fs]
   exact q
theorem call_len_seq:bR X (.builtin "len") (fun xs H Q=>∃p ys,xs=[.ref p]/\(SqL X.K H p ys∨SqT X.K H p ys)/\Q (.int ys.length) H):=by
 intro pins s σ H xs us Q I r h;obtain⟨p,ys,rfl,hq,q⟩:=h;obtain⟨u,rfl,rx⟩:=dv r;cases rx;have hn:=cG;rcases hq with hq | hq
 . obtain⟨its,r',pl,hz⟩:=I.list hq;have hlen:=r'.length;exact Calls.call_len_list pl.isList (by simp only[List.size_toArray]<;>omega) ⟨.int ys.length,H,I.tok _,⟨s.toks+1,by rw[List.size_toArray,hlen]⟩,q⟩
 . obtain⟨its,r',pl,hz⟩:=I.tuple hq;have hlen:=r'.length;exact len_tuple pl (by simp only[List.size_toArray]<;>omega) ⟨.int ys.length,H,I.tok _,⟨s.toks+1,by rw[List.size_toArray,hlen]⟩,q⟩
theorem call_len_str:bR X (.builtin "len") (fun xs H Q=>∃z,xs=[.str z]/\z.length≤sizeLine/\Q (.int z.length) H):=by
 intro pins s σ H xs us Q I r h;obtain⟨z,rfl,hz,q⟩:=h;obtain⟨u,rfl,t,rfl⟩:=dv r;have hn:=cG;exact len_str (by omega) ⟨.int z.length,H,I.tok _,⟨_,rfl⟩,q⟩
def tyV (K:PySem.W.Frag)(T:String)(x:V)(H:Hp):Prop:=match x with
 | .str _=>T = "str"
 | .int _=>T = "int"
 | .ref p=>(T = "list"/\∃xs,SqL K H p xs)∨(T = "tuple"/\∃o,K.lookup p=some o/\o.cls = .type "tuple"/\o.dict=none) ∨
  (T = "dict"/\((∃kvs,H p=some (.dK kvs))∨∃kvs,H p=some (.dT kvs)))∨(T = "set"/\∃S n,H p=some (.set S n))
 | _=>False
theorem dh {pins:List (Addr×Obj)}{σ:St}{H:Hp}{s:Shared}{T:String}{x:V}{v:Value}(I:Inv X pins σ H s)(r:RelV x v)(ty:tyV X.K T x H):s.TypeIs v T/\∀a,v = .ref a->∃ob,s.heap.get? a=some ob/\ob.dict=none:=by
 cases x with
 | str z =>
  obtain⟨t,rfl⟩:=r;cases(show T = "str" from ty)
  exact⟨typeIs_str s z t,fun _ e=>nomatch e⟩
 | int i =>
  obtain⟨t,rfl⟩:=r;cases(show T = "int" from ty)
  exact⟨typeIs_int s i t,fun _ e=>nomatch e⟩
 | ref p =>
  cases r;rcases ty with⟨rfl,xs,hq⟩ | ⟨rfl,o,hk,hc,hd⟩ | ⟨rfl,hk⟩ | ⟨rfl,S,n,hk⟩
  . obtain⟨its,_,pl,_⟩:=I.list hq;refine⟨pl.isList.typeIs,fun a e=>?_⟩;cases e;obtain⟨o,n,e,c,hd,_⟩:=pl;exact⟨o,e,hd⟩
  . refine⟨⟨o,I.kIn p o hk,hc⟩,fun a e=>?_⟩;cases e;exact⟨o,I.kIn _ o hk,hd⟩
  . have z:∃o,s.heap.get? p=some o/\o.ExactDict:=by
     rcases hk with⟨kvs,hk⟩ | ⟨kvs,hk⟩
     . obtain⟨_,_,_,_,o,_,_,e,ex,_⟩:=I.hok p _ hk;exact⟨o,e,ex⟩
     . obtain⟨_,_,_,_,o,_,_,e,ex,_⟩:=I.hok p _ hk;exact⟨o,e,ex⟩
    obtain⟨o,e,ex⟩:=z;refine⟨⟨o,e,ex.1⟩,fun a e2=>?_⟩;cases e2;exact⟨o,e,ex.2.1⟩
  . obtain⟨o,_,_,_,e,ex,_⟩:=I.hok p _ hk;refine⟨⟨o,e,ex.1⟩,fun a e2=>?_⟩;cases e2;exact⟨o,e,ex.2.1⟩
 | _=>exact False.elim ty
def tBM0 (K:PySem.W.Frag)(T:String)(r:V->List V->Hp->VK->Prop)(to:TE):TE:=fun σ H Q=>to σ H fun x H1=>tyV K T x H1/\r x [] H1 Q
def tBM (K:PySem.W.Frag)(T:String)(r:V->List V->Hp->VK->Prop)(to:TE)(t:TA):TE:=fun σ H Q=>to σ H fun x H1=>tyV K T x H1/\t σ H1 fun xs H2=>r x xs H2 Q
variable {o e:Expr}{es:List Expr}{to:TE}{t:TA}{name:Str}{apos cpos:Pos}{T id:String}{r:V->List V->Hp->VK->Prop}
theorem pe_bm0 (pa:PlainAttrs T)(slot:Slot T name id)(hty:typeOf (.builtin id)=pure (.type "method_descriptor"))(hm:MtR X id r)(ho:PE X o to)(hbase:attributeBase o name X.env (eval o X.env)=eval o X.env:=by rfl)(hline:(apos.endLine == cpos.line)=true:=by rfl):PE X (.Call (.Attribute o name apos) [] [] cpos) (tBM0 X.K T r to):=by
 intro pins s σ H Q I h;refine wpAny_Call_method0_late hbase hline (thn (ho pins s σ H _ I h) fun v s1 ⟨x,H1,I1,r1,ty,q1⟩=>?_);obtain⟨h1,h2⟩:=dh I1 r1 ty;exact⟨T,id,pa,slot,hty,h1,h2,Calls.callWith_builtin rfl (PySem.evalArgs_none (hm pins s1 σ H1 x [] v [] Q I1 r1 .nil q1))⟩
theorem cQ (pa:PlainAttrs T)(slot:Slot T name id)(hty:typeOf (.builtin id)=pure (.type "method_descriptor"))(hm:MtR X id r)(ho:PE X o to)(ha:PA X (e::es) t)(hbase:attributeBase o name X.env (eval o X.env)=eval o X.env:=by rfl)
 (hfew:((backTo cpos (starEach (e::es) X.env)).all (fun x => !x.1)&&(backToKw cpos (keywordEach [] X.env)).all (fun x=>x.1.isSome)
   && decide ((e::es).length+([]:List Keyword).length+(if ([]:List Keyword).isEmpty then 0 else 1) < 30))=true:=by rfl)
 (hline:(apos.endLine == cpos.line)=true:=by rfl) (hs:starEach (e::es) X.env=(false,eval e X.env)::starEach es X.env:=by rfl) (hplain:(backTo cpos (starEach es X.env)).any (·.1)=false:=by rfl) :
 PE X (.Call (.Attribute o name apos) (e::es) [] cpos) (tBM X.K T r to t):=by
 intro pins s σ H Q I h;refine wpAny_Call_method_late hbase hfew hline rfl (thn (ho pins s σ H _ I h) fun v s1 ⟨x,H1,I1,r1,ty,q1⟩=>?_);obtain⟨h1,h2⟩:=dh I1 r1 ty;refine⟨T,id,pa,slot,hty,h1,h2,?_⟩;have hA:=ha cpos pins s1 σ H1 _ I1 q1;rw[hs]at hA⊢;refine Calls.callWith_builtin (by show(false||(backTo cpos (starEach es X.env)).any (·.1))=false;rw[hplain]<;>rfl) (Calls.evalArgs_plain ?_)
 exact thn hA fun us s2 ⟨vs,H2,I2,r2,q2⟩=>hm pins s2 σ H2 x vs v us Q I2 r1 r2 q2
end
end L2
namespace L2
open PySem PySem.Spec PyProof.Rows
def MtM (X:Cx)(id:String)(r:V->List V->Hp->VK->Prop):Prop:=
 ∀(pins:List (Addr×Obj)) (s:Shared) (σ:St) (H:Hp) (x:V) (xs:List V) (v:Value) (us:List Value) (Q:VK),Inv X pins σ H s->RelV x v->Vals xs us->r x xs H Q →
  wpAny (model X.prog X.w) X.A (call (.builtin id) (v::us)) (EP X pins σ Q) X.xe s
theorem Vals.one:∀{x:V} {us:List Value},Vals [x] us->∃u,us=[u]/\RelV x u
 | _,_,.cons r .nil=>⟨_,rfl,r⟩
theorem Vals.eraseIdx:∀{xs:List V} {us:List Value} (i:Nat),Vals xs us->Vals (xs.eraseIdx i) (us.eraseIdx i)
 | _,_,_,.nil=>.nil
 | _,_,0,.cons _ t=>t
 | _,_,i+1,.cons r t=>.cons r (Vals.eraseIdx i t)
theorem cq {α:Type}:∀(l:List α) (i:Nat),(l.eraseIdx i).length≤l.length
 | [],_=>Nat.le_refl _
 | _::_,0=>Nat.le_succ _
 | _::r,i+1=>Nat.succ_le_succ (cq r i)
section
variable {X:Cx}{pins:List (Addr×Obj)}{σ:St}{H:Hp}{s:Shared}{l b:Addr}{xs ys zs:List V}
theorem Inv.lset {its its':List Value}{n:Nat}{f:Array Value->Array Value}{t':Nat}(I:Inv X pins σ H s)(hH:H l=some (.lst xs))(e:s.heap.get? l=some { cls:=.type "list", data:=.seq its.toArray n })(hf:f its.toArray=its'.toArray)(hv:Vals ys its')(hz:ys.length≤sizeLine) :
 Inv X pins σ (upd H l (.lst ys)) { s with heap:=s.heap.update l (Obj.mapSeq f),toks:=t' }:=by
 have q:=PySem.IsL.update e f;rw[hf]at q;refine I.write (x:=l) (e:=l) (by rw[hH];exact trivial) (.inl rfl) (fun b' u hb hu=>(Heap.get?_update_other s.heap (Obj.mapSeq f) (Ne.symm hb)).trans hu) ⟨_,q⟩ ?_
 exact⟨hz,its',_,hv,q⟩
theorem Inv.lnew {its:List Value}{t':Nat}(I:Inv X pins σ H s)(hv:Vals ys its)(hz:ys.length≤sizeLine):Inv X pins σ (upd H s.heap.objs.size (.lst ys)) { s with heap:=s.heap.push { cls:=.type "list", data:=.seq its.toArray },toks:=t' }:=
 I.laid (fun _ _ q=>Heap.get?_push_of_some _ q) (Nat.le_refl _) ⟨hz,its,0,hv,Heap.get?_push_size _ rfl⟩
theorem Inv.fresh (I:Inv X pins σ H s):H s.heap.objs.size=none:=I.hok.fresh (Nat.le_refl _)
theorem Inv.lstM (I:Inv X pins σ H s)(hH:H l=some (.lst xs)):xs.length≤sizeLine/\∃(its:List Value) (n:Nat),Vals xs its/\xs.length=its.length/\s.heap.get? l=some { cls:=.type "list", data:=.seq its.toArray n }:=by
 obtain⟨z,its,n,r,e⟩:=I.hok l _ hH;exact⟨z,its,n,r,r.length,e⟩
end
section
variable {X:Cx}
def d4:V->List V->Hp->VK->Prop:=fun x vs H Q=>∃l xs y,x = .ref l/\vs=[y]/\H l=some (.lst xs)/\xs.length < sizeLine/\Q .non (upd H l (.lst (xs++[y])))
theorem bL:MtM X "list.append" d4:=by
 intro pins s σ H x vs v us Q I rx rv h;obtain⟨l,xs,y,rfl,rfl,hH,hz,q⟩:=h;cases rx;obtain⟨u,rfl,ru⟩:=rv.one;obtain⟨z,its,n,r,hl,e⟩:=I.lstM hH;refine call_meets F.slot_list_append ⟨_,e,rfl⟩ F.entry_list_append (F.args_list_append_2 _ _) (PySem.list_append l its.toArray n u (by rw[List.size_toArray];omega)) ⟨e,?_⟩
 refine⟨.non,_,I.lset (its':=its++[u]) hH e (by simp) (r.append (.cons ru .nil)) ?_,rfl,q⟩
 rw[List.length_append,List.length_singleton];omega
def rPopAt:V->List V->Hp->VK->Prop:=fun x vs H Q=>∃l xs i k y,x = .ref l/\vs=[.int i]/\H l=some (.lst xs)/\-(2 ^ 63)≤i/\i < 2 ^ 63/\seqIndex? i xs.length=some k/\xs[k]? = some y/\Q y (upd H l (.lst (xs.eraseIdx k)))
theorem mt_popAt:MtM X "list.pop" rPopAt:=by
 intro pins s σ H x vs v us Q I rx rv h;obtain⟨l,xs,i,k,y,rfl,rfl,hH,h1,h2,hk,hy,q⟩:=h;cases rx;obtain⟨u,rfl,ru⟩:=rv.one;obtain⟨t,rfl⟩:=ru;obtain⟨z,its,n,r,hl,e⟩:=I.lstM hH;obtain⟨w,hw,rw'⟩:=r.get hy;refine call_meets F.slot_list_pop ⟨_,e,rfl⟩ F.entry_list_pop (F.args_list_pop_2 _ _)
  (MeetsSeq.list_pop_at l its.toArray n i t k w (fitsIndex_both h1 h2) (by rw[List.size_toArray,←hl];exact hk) (by rw[←Array.getElem?_toList];exact hw) (by rw[List.size_toArray];omega)) ⟨e,?_⟩
 refine⟨y,_,I.lset (its':=its.eraseIdx k) hH e ?_ (r.eraseIdx k) ?_,rw',q⟩
 . show its.toArray.eraseIdxIfInBounds k=(its.eraseIdx k).toArray;rw[List.eraseIdxIfInBounds_toArray]
 . have:=cq xs k;omega
def rCat:R2:=fun x y H Q=>∃l b xs zs,x = .ref l/\y = .ref b/\H l=some (.lst xs)/\H b=some (.lst zs)/\xs.length+zs.length≤sizeLine/\∀p,H p=none->Q (.ref p) (upd H p (.lst (xs++zs)))
theorem bJ:OpR X (binaryOp .Add) rCat:=by
 intro pins s σ H x y v u Q I rx ry h;obtain⟨l,b,xs,zs,rfl,rfl,hH,hB,hz,q⟩:=h;cases rx;cases ry;obtain⟨z,its,n,r,hl,e⟩:=I.lstM hH;obtain⟨z2,its2,n2,r2,hl2,e2⟩:=I.lstM hB;refine PySem.P.add_list e e2 ?_ (by rw[List.size_toArray,List.size_toArray];omega)
 have ea:its.toArray++its2.toArray=(its++its2).toArray:=by simp
 rw[ea];exact⟨.ref _,_,I.lnew (t':=s.toks) (r.append r2) (by rw[List.length_append];omega),rfl,q _ I.fresh⟩
end
section
variable {prog:Program}{w:World}{A:Around}{E:Value->Shared->Prop}{s:Shared}
end
section
variable {X:Cx}
end
end L2
namespace L2
open PySem PySem.Spec PyProof.Rows
section
variable {κ:Type}[DecidableEq κ]
end
section
variable {P:Program}{w:World}{H:Hp}{h:Heap}{a:Addr}
end
section
variable {X:Cx}{pins:List (Addr×Obj)}{σ:St}{H:Hp}{s:Shared}{a:Addr}{y v:V}{u r:Value}{o:Option V}{A:Around}{E:Value->Shared->Prop}
end
section
variable {X:Cx}{pins:List (Addr×Obj)}{σ:St}{H:Hp}{s:Shared}{a:Addr}{kvs:List (Key×V)}{k:Key}{u:Value}{A:Around}{E:Value->Shared->Prop}
end
section
variable {X:Cx}{o i e value:Expr}{pos pos' tpos:Pos}{td ty tv:TE}
end
section
variable {X:Cx}{pos:Pos}
end
section
variable {X:Cx}{pins:List (Addr×Obj)}{σ:St}{H:Hp}{s:Shared}{a:Addr}{y d:V}{u r:Value}{o:Option V}{A:Around}{E:Value->Shared->Prop}
end
section
variable {X:Cx}{o e f:Expr}{apos cpos:Pos}{td ty tx:TE}
end
section
variable {X:Cx}{pins:List (Addr×Obj)}{σ:St}{H:Hp}{s:Shared}{a:Addr}{kvs:List (Key×V)}{A:Around}{E:Value->Shared->Prop}
end
section
variable {X:Cx}{pins:List (Addr×Obj)}{σ:St}{H:Hp}{s:Shared}{a:Addr}{y:V}{u:Value}{A:Around}{E:Value->Shared->Prop}
end
end L2
namespace Att
open PySem PySem.W PySem.Calls PyProof.Rows
theorem ints_of_wellAll {P:Params}{h:Heap}:∀(ns:List Int) (vs:List Value),WellAll P h vs (ns.map WData.int)->IntsAre vs ns:=by
 intro ns
 induction ns with
 | nil =>
  intro vs w;rw[List.map_nil]at w;cases w;exact .nil
 | cons n ns ih =>
  intro vs w;rw[List.map_cons]at w;cases w with
  | cons a b =>
   cases a;exact .cons _ _ (ih _ b)
theorem script_of {l:OpenLaw}{n:Nat}(hn:l.most=some n){P:Params}{h:Heap}{args:List WData}{vals:List Value}(hpre:l.row.toRowW.claim.pre args=true)(hwl:WellAll P h vals args):∃a vs ns,vals=[Value.ref a]/\args=[WData.list (ns.map WData.int)]/\h.get? a=some { cls:=.type "list", data:=.seq vs.toArray }/\IntsAre vs ns/\ns.length≤n:=by
 have hsh:WShape.hasAll [] args [.list .int]=true:=(pre_splitW hpre).1;have hc:l.pre.holds [] { args:=args }=true:=(pre_splitW hpre).2;obtain⟨d,r,rfl,h1,h2⟩:=hasAllW_cons hsh;obtain rfl:=hasAllW_nil h2;obtain⟨xs,rfl,h3⟩:=hasW_list h1;obtain⟨ns,rfl⟩:=items_int h3;have hlen:ns.length≤n:=by
  unfold OpenLaw.pre at hc;have h4:(WTm.not (.lt (.lit (.int (n:Int))) (.len (.arg 0)))).holds [] { args:=[.list (ns.map .int)] }=true:=by
   have h4:=(holds_andW hc).1;rw[hn]at h4;exact h4
  have h5:=condW_of h4 (w_not (w_lt w_lit (w_len_list (w_arg rfl))));rw[List.length_map]at h5;refine Nat.le_of_not_lt fun q=>?_;have q':(n:Int) < ((ns.length:Nat):Int):=by omega
  first
   | (rw[decide_eq_true q']at h5;exact absurd h5 (by decide))
   | (simp at h5;omega)
 cases hwl with
 | cons w1 w2 =>
  cases w2;cases w1 with
  | list ho hall=>exact⟨_,_,ns,rfl,rfl,ho,ints_of_wellAll ns _ hall,hlen⟩
theorem post_true (l:OpenLaw)(args:List WData):l.row.toRowW.claim.post args (.bool true) args=true:=
 postW_of (r:=l.row.toRowW) (X:=(true == true))
  (show WShape.has [] (.bool true) .bool=true by first | rfl | decide | simp[WShape.has,WShape.arms,WShape.armsAll])
  (show(WTm.eq .res (.lit (.bool true))).value [] { args:=args,res:=some (.bool true),after:=args }=some (.bool (true == true))from w_eq_bool (w_res rfl) w_lit) rfl
section
variable {prog:Program}{w:World}{A:Around}{E:Value->Shared->Prop}{s:Shared}{K:Frag}
end
end Att
namespace L2
open PySem PySem.Spec PyProof.Rows
theorem cj:∀{vs:List Value} {ns:List Int},IntsAre vs ns->Vals (ns.map V.int) vs
 | _,_,.nil=>.nil
 | _,_,.cons n t h=>.cons ⟨t,rfl⟩ (cj h)
def Only (H:Hp):Prop:=∀b,H b=none∨∃o xs,H b=some (.frz o (.lst xs))
theorem law_call {P:Program}{w:World}{K:PySem.W.Frag}{mg mb:Str->Option Value}{CX:CXT}{k:Nat}{fa a:Addr}{fd:FuncData}{x:Str}{sp:Sp}{s₁:Shared}{vs:List Value}{ns:List Int}(KX:K.In s₁.heap)(hns:s₁.heap.Ns mainGlobals mg)(hb:s₁.heap.Ns builtinsNs mb)(hbb:∀x:Str,x ≠ "__name__"->mb x=bootBuiltins x)(hlim:s₁.heap.NoLimit)(hbm:∃bm ob,mg "__builtins__" = some (.ref bm)/\bm≠builtinsNs/\s₁.heap.get? bm=some ob/\ob.cls = .type "module"/\ob.dict=some builtinsNs/\ob.data = .plain)(hg:s₁.gens = #[])(ha:s₁.heap.get? a=some { cls:=.type "list", data:=.seq vs.toArray })(hi:IntsAre vs ns)(hl:ns.length≤sizeLine)(hr:Room k callerA)
 (F:∀base:Heap,K.In base->base.Ns mainGlobals mg->FnOk P w K mg base CX k fa fd [x] sp) (hbind:∀(s:Shared) (u:Value),BindsTo s fd ⟨[u],[]⟩ [(x,u)])
 (hsp:∀H:Hp,Only H->SqL K H a (ns.map V.int)->sp [.ref a] H (fun v _=>v = .bl true) fun _ _ _=>False)
 (hCX:∀H e s',CX [] H s₁ (fun _ _ _=>False) e s'->False) :
 codeAny (model P w) callerA (.call (.ref fa) ⟨[.ref a],[]⟩) (fun r s'=>r = .ok (.ret (.bool true))/\OldK s₁.heap s'.heap/\s'.os=s₁.os/\AllBare s'.gens) s₁:=by
 have rv:=cj hi;have lenV:=hi.length;have core:∀H:Hp,Only H->SqL K H a (ns.map V.int)->HOk P w H s₁.heap->(∀b,H b≠none->b=a)->(H a≠none->K.lookup a=none) →
  codeAny (model P w) callerA (.call (.ref fa) ⟨[.ref a],[]⟩) (fun r s'=>r = .ok (.ret (.bool true))/\OldK s₁.heap s'.heap/\s'.os=s₁.os/\AllBare s'.gens) s₁:=by
  intro H hO hS hok hA hK;have base_of:∀{b:Addr} {o:Obj},s₁.heap.get? b=some o->H b=none->(hidT s₁.heap H).get? b=some o:=fun e n=>hidT_get e n;have noA:∀{b:Addr} {o:Obj} {es:Array DictEntry} {ep:Nat},s₁.heap.get? b=some o->o.data = .dict es ep->H b=none:=fun{b o es ep} e d=>by
   cases q:H b with
   | none=>rfl
   | some u =>
    have e':b=a:=hA b (by rw[q];simp)
    subst e';rw[ha]at e;cases e;have d':Data.seq vs.toArray _=Data.dict es ep:=d;cases d'
  have nsK:∀{b:Addr} {m:Str->Option Value},s₁.heap.Ns b m->(hidT s₁.heap H).Ns b m:=fun{b m} ⟨o,es,ep,e,d,r⟩=>⟨o,es,ep,base_of e (noA e d),d,r⟩;have hKb:K.In (hidT s₁.heap H):=fun b o e=>base_of (KX b o e) (by
   cases q:H b with
   | none=>rfl
   | some u =>
    have e':b=a:=hA b (by rw[q];simp)
    subst e';rw[hK (by rw[q];simp)]at e;cases e)
  have hM:Mod K mg (hidT s₁.heap H):=⟨hKb,nsK hns,⟨mb,nsK hb,hbb⟩,let ⟨mc,h1,h2⟩:=hlim;⟨mc,nsK h1,h2⟩,by
   obtain⟨bm,ob,b1,b2,b3,b4⟩:=hbm;refine⟨bm,ob,b1,b2,base_of b3 ?_,b4⟩;cases q:H bm with
   | none=>rfl
   | some u =>
    have e':bm=a:=hA bm (by rw[q];simp)
    subst e';rw[ha]at b3;cases b3;exact absurd b4.1 (by show ¬Value.type "list" = .type "module"; decide +kernel)⟩
  have e0:Env0 P w K mg (hidT s₁.heap H) callerA [] s₁ H:=⟨rfl,hM,fun b o e=>of_hidT e,Nat.le_of_eq (hidT_size _ _),trivial,fun b hb=>absurd (show b∈([]:List Addr)from hb) (by simp),hok,.of_eq hg⟩
  refine codeAny_mono ((F _ hKb (nsK hns)).run callerA [] s₁ H ⟨[.ref a],[]⟩ [.ref a] [.ref a] _ _ hr e0 (hbind s₁ (.ref a)) (.cons rfl .nil) (hsp H hO hS)) fun r s' h=>?_;cases r with
  | error e=>exact(hCX H e s' h).elim
  | ok fl =>
   cases fl with
   | next=>exact False.elim h
   | brk=>exact False.elim h
   | cont=>exact False.elim h
   | ret u =>
    obtain⟨v,H',os,bare,un,hok',r',q⟩:=h;have q':v = .bl true:=q;subst q';obtain rfl:u=Value.bool true:=r';refine⟨rfl,OldK.of_keep fun b o e=>?_,os,bare⟩;cases q:H b with
    | none=>exact un.keep b o e q (by intro z;exact absurd (show b∈([]:List Addr)from z) (by simp)) (by simp)
    | some u =>
     rcases hO b with z | ⟨ob,xs,z⟩
     . rw[q]at z;cases z
     . have z2:=un.frzs b ob _ z;obtain⟨e1,_⟩:=hok b _ z;obtain⟨e2,_⟩:=hok' b _ z2;rw[e]at e1;cases e1;exact e2
 cases hk:K.lookup a with
 | some o =>
  have e:=KX a o hk;rw[ha]at e;cases e;refine core (fun _=>none) (fun _=>.inl rfl) (.inr ⟨_,vs.toArray,_,hk,rfl,rfl,rfl,by rw[List.size_toArray,lenV];exact hl,by simpa using rv⟩) (fun b u z=>by have z':(none:Option HO)=some u:=z;cases z') (fun b z=>absurd rfl z) fun z=>absurd rfl z
 | none =>
  refine core (fun b=>if b=a then some (.frz { cls:=.type "list", data:=.seq vs.toArray } (.lst (ns.map V.int)))else none) (fun b=>?_) (.inl (.inr ⟨{ cls:=.type "list", data:=.seq vs.toArray },if_pos rfl⟩)) (fun b u z=>?_) (fun b z=>?_) fun _=>hk
  . by_cases hb:b=a
    . exact .inr ⟨_,_,if_pos hb⟩
    . exact .inl (if_neg hb)
  . by_cases hb:b=a
    . have z':=(if_pos hb).symm.trans z;cases z';subst hb;exact⟨ha,by rw[List.length_map];exact hl,vs,_,rv,ha⟩
    . have z':=(if_neg hb).symm.trans z;cases z'
  . by_cases hb:b=a
    . exact hb
    . exact absurd (if_neg hb) z
end L2
namespace L2
open PySem PySem.Spec PyProof.Rows
end L2
namespace L2
open PySem PySem.Spec PyProof.Rows
def aa (s:Stmt):Arguments:=match s with
 | .FunctionDef _ a _ _ _ _ _ _ _ _=>a
 | _=>{ posonlyargs:=[],args:=[],vararg:=none,kwonlyargs:=[],kw_defaults:=[],kwarg:=none,defaults:=[] }
def a8 (s:Stmt):List Stmt:=match s with
 | .FunctionDef _ _ b _ _ _ _ _ _ _=>b
 | _=>[]
def a7 (s:Stmt):Scope:=match s with
 | .FunctionDef _ _ _ _ _ _ sc _ _ _=>sc
 | _=>{ kind:=.function,names:=[],isGenerator:=false,isCoroutine:=false }
abbrev CX0:CXT:=fun _ _ _ _ _ _=>False
abbrev E0:XK:=fun _ _ _=>False
theorem aH {X:Cx}:cg CX0 X E0:=fun _ _ _ _ _ _ _ h=>h.elim
structure Fun (K:PySem.W.Frag) (x qual:Str) (st:Stmt) (f:Addr) (fd:FuncData):Prop where
 ex:∃(oc:Value) (od:Option Addr) (kV doc pm:Value) (an:Option Addr) (cdv ct:Value) (osl:Array (Option Value)),
  fd=PySem.W.fnOf x qual (aa st) (a8 st) (a7 st) .none kV doc pm an cdv ct/\K.lookup f=some ⟨oc,od,.func fd,osl⟩/\PySem.W.codeIn K cdv qual=true
 kp:PySem.W.keepIn K (.ref f)=true
section
variable {P:Program}{w:World}{K:PySem.W.Frag}{mg:Str->Option Value}{base:Heap}
theorem Fun.ok {x qual:Str}{st:Stmt}{f:Addr}{fd:FuncData}{N ps:List Str}{k:Nat}{sp:Sp}(F:Fun K x qual st f fd)(S:FnScope N ps (a7 st))(len:∀vs H Q E,sp vs H Q E->vs.length=ps.length)(hbody:∀(cdv:Value) (A:Around) (outer:List Env) (s:Shared) (H:Hp) (vs:List V) (Q:VK) (E:XK),Room k (A.deeper (envOfC qual (a7 st) s.heap.objs.size f cdv))->sp vs H Q E->∃t,PSs (cxOf CX0 P w K mg base N qual (a7 st) f cdv A outer s H E).nox (a8 st) t/\t { nx:=fun _ H'=>Q .non H',rt:=Q } (bB N vs) H):FnOk P w K mg base CX0 (k+1) f fd ps sp:=by
 obtain⟨oc,od,kV,doc,pm,an,cdv,ct,osl,rfl,lk,hcd⟩:=F.ex;refine fz lk hcd S len fun A outer s H vs Q E hr hsp=>?_;obtain⟨t,h,q⟩:=hbody cdv A outer s H vs Q E hr hsp;exact⟨t,h.nox,q⟩
theorem Fun.binds {x qual:Str}{st:Stmt}{f:Addr}{fd:FuncData}{ps:List Str}(F:Fun K x qual st f fd)(h:∀(kV doc pm:Value) (an:Option Addr) (cdv ct:Value) (us:List Value),us.length=ps.length->bindArgs (PySem.W.fnOf x qual (aa st) (a8 st) (a7 st) .none kV doc pm an cdv ct) ⟨us,[]⟩=pure (ps.zip us)):Binds K fd ps []:=by
 obtain⟨oc,od,kV,doc,pm,an,cdv,ct,osl,rfl,lk,hcd⟩:=F.ex;exact .all (h kV doc pm an cdv ct)
theorem aK {x qual:Str}{st:Stmt}{f:Addr}{oc:Value}{od an:Option Addr}{osl:Array (Option Value)}{kV doc pm cdv ct:Value}(l:K.lookup f=some ⟨oc,od,.func (PySem.W.fnOf x qual (aa st) (a8 st) (a7 st) .none kV doc pm an cdv ct),osl⟩)(c:PySem.W.codeIn K cdv qual=true)(k:PySem.W.keepIn K (.ref f)=true):Fun K x qual st f (PySem.W.fnOf x qual (aa st) (a8 st) (a7 st) .none kV doc pm an cdv ct):=⟨⟨oc,od,kV,doc,pm,an,cdv,ct,osl,rfl,l,c⟩,k⟩
end
theorem fu {A:Around}{k:Nat}(hr:Room k A):A.units+1 < cLine:=Nat.lt_of_le_of_lt (Nat.add_le_add_left (by decide:1≤64) _) hr.units
theorem bt {n:Nat}(h:n≤1000):n < sizeLine:=Nat.lt_of_le_of_lt h (by decide)
section
variable {X:Cx}
theorem pv (i:Nat){x:Str}{pos:Pos}(hN:X.N[i]? = some x:=by rfl)(hv:Vis X.env.scope x:=by first | exact Or.inl rfl | exact Or.inr (Or.inl rfl) | exact Or.inr (Or.inr rfl))(hd:(x == ("__debug__" : Str))=false:=by decide)
 (hcd:(x == ("__classdict__" : Str))=false:=by decide):PE X (.Name x pos) (tVar i):=dk hN hv hd hcd
end
theorem iteF {A B:Prop}(h:B):if false=true then A else B:=by
 rw[if_neg Bool.false_ne_true];exact h
theorem iteT {A B:Prop}(h:A):if true=true then A else B:=by
 rw[if_pos rfl];exact h
def Same (H H':Hp):Prop:=∀b o,H b=some o->H' b=some o
theorem Same.refl (H:Hp):Same H H:=fun _ _ h=>h
theorem Same.trans {H H1 H2:Hp}(a:Same H H1)(b:Same H1 H2):Same H H2:=fun c o h=>b c o (a c o h)
theorem Same.free {H H':Hp}(e:Same H H'){l:Addr}(h:H' l=Option.none):H l=Option.none:=by
 cases q:H l with
 | none=>rfl
 | some o =>
  rw[e l o q]at h;cases h
theorem Same.seq {K:PySem.W.Frag}{H H':Hp}{a:Addr}{xs:List V}(e:Same H H')(h:SqL K H a xs):SqL K H' a xs:=by
 rcases h with(h | ⟨o,h⟩) | h
 . exact .inl (.inl (e _ _ h))
 . exact .inl (.inr ⟨o,e _ _ h⟩)
 . exact .inr h
section
variable {κ:Type}[DecidableEq κ]
end
end L2
namespace L2
open PySem PySem.Spec PyProof.Rows
def oldB (N M:List Str)(sc:Scope):Bool:=(List.range N.length).all fun i=>match M[i]? with
 | some y=>(sc.names.lookup y != some .local)&&(sc.names.lookup y != some .cell)&&((sc.names.lookup y != some .free)||(N[i]? == some y))
 | none=>true
structure CompS (scN:List (Str×NameKind)) (N M:List Str) (x:Str) (sc:Scope):Prop where
 kind:sc.kind = .function
 keys:(sc.names.map (·.1)).Nodup
 fr:∀p∈sc.names,p.2 = .free->scN.lookup p.1=some .cell∨scN.lookup p.1=some .free
 nd:M.Nodup
 len:M.length=N.length+1
 last:M[N.length]? = some x
 own:sc.names.lookup x=some .local∨sc.names.lookup x=some .cell
 old:oldB N M sc=true
theorem oldB_at {N M:List Str}{sc:Scope}(h:oldB N M sc=true){i:Nat}{y:Str}(hi:i < N.length)(e:M[i]? = some y):sc.names.lookup y≠some .local/\sc.names.lookup y≠some .cell/\(sc.names.lookup y=some .free->N[i]? = some y):=by
 have q:=List.all_eq_true.mp h i (List.mem_range.mpr hi);rw[e]at q;simp only[Bool.and_eq_true,Bool.or_eq_true,bne_iff_ne,beq_iff_eq,ne_eq]at q;obtain⟨⟨q1,q2⟩,q3⟩:=q;exact⟨q1,q2,fun z=>q3.elim (fun w=>absurd z w) id⟩
theorem b9 {l:List (Str×NameKind)}(nd:(l.map (·.1)).Nodup){p:Str×NameKind}(h:p∈l):l.lookup p.1=some p.2:=by
 induction l with
 | nil=>cases h
 | cons q r ih =>
  obtain⟨h1,h2⟩:=List.nodup_cons.mp (show(q.1::r.map (·.1)).Nodup from nd)
  rw[List.lookup_cons];rcases List.mem_cons.mp h with e | h
  . subst e;rw[beq_self_eq_true]
  . have ne:(p.1 == q.1)=false:=by
     rw[beq_eq_false_iff_ne];intro e;exact h1 (e▸List.mem_map.mpr ⟨p,h,rfl⟩)
    rw[ne];exact ih h2 h
theorem closure_ok {scope:Scope}{env:Env}(h:∀p∈scope.names,p.2 = .free->∃c,env.cells.lookup p.1=some c):∃cl,closureFor scope env=pure cl/\(∀y c,(y,c)∈cl->env.cells.lookup y=some c/\(y,NameKind.free)∈scope.names)/\∀p∈scope.names,p.2 = .free->∃c,cl.lookup p.1=some c:=by
 have gen:∀(l:List (Str×NameKind)) (acc:List (Str×Addr)),(∀p∈l,p.2 = .free->∃c,env.cells.lookup p.1=some c) →
  ∃cl,(forIn l acc fun(p:Str×NameKind) (cs:List (Str×Addr))=>if p.2 == .free then (do let a ←cellOf env p.1;pure (ForInStep.yield ((p.1,a)::cs)))else (pure (ForInStep.yield cs):Sem (ForInStep (List (Str×Addr)))))=pure cl ∧
   (∀y c,(y,c)∈cl->(y,c)∈acc∨(env.cells.lookup y=some c/\(y,NameKind.free)∈l))/\(∀y c,acc.lookup y=some c->∃c',cl.lookup y=some c')/\∀p∈l,p.2 = .free->∃c,cl.lookup p.1=some c:=by
  intro l
  induction l with
  | nil=>intro acc _;exact⟨acc,rfl,fun y c e=>.inl e,fun y c e=>⟨c,e⟩,fun p hp=>nomatch hp⟩
  | cons q r ih =>
   intro acc hq;obtain⟨n,k⟩:=q;rw[List.forIn_cons];by_cases hk:k = .free
   . subst hk;obtain⟨c,hc⟩:=hq (n,.free) List.mem_cons_self rfl;have hc':env.cells.lookup n=some c:=hc;have e1:cellOf env n=pure c:=by unfold cellOf;rw[hc']
     obtain⟨cl,e,h1,h2,h3⟩:=ih ((n,c)::acc) fun p hp=>hq p (List.mem_cons_of_mem _ hp);refine⟨cl,?_,?_,?_,?_⟩
     . simp only[beq_self_eq_true,if_true,e1,pure_bind];exact e
     . intro y d hy;rcases h1 y d hy with z | ⟨z1,z2⟩
       . rcases List.mem_cons.mp z with z | z
         . cases z;exact .inr ⟨hc',List.mem_cons_self⟩
         . exact .inl z
       . exact .inr ⟨z1,List.mem_cons_of_mem _ z2⟩
     . intro y d hy;by_cases e':y=n
       . subst e';exact h2 y c (by rw[List.lookup_cons,beq_self_eq_true])
       . exact h2 y d (by rw[List.lookup_cons,beq_eq_false_iff_ne.mpr e'];exact hy)
     . intro p hp hf;rcases List.mem_cons.mp hp with z | z
       . subst z;exact h2 n c (by rw[List.lookup_cons,beq_self_eq_true])
       . exact h3 p z hf
   . have hkb:(k == NameKind.free)=false:=beq_eq_false_iff_ne.mpr hk;obtain⟨cl,e,h1,h2,h3⟩:=ih acc fun p hp=>hq p (List.mem_cons_of_mem _ hp);refine⟨cl,?_,?_,h2,?_⟩
     . simp only[hkb,Bool.false_eq_true,if_false,pure_bind];exact e
     . intro y d hy;rcases h1 y d hy with z | ⟨z1,z2⟩
       . exact .inl z
       . exact .inr ⟨z1,List.mem_cons_of_mem _ z2⟩
     . intro p hp hf;rcases List.mem_cons.mp hp with z | z
       . subst z;exact absurd hf hk
       . exact h3 p z hf
 obtain⟨cl,e,h1,_,h3⟩:=gen scope.names [] h;refine⟨cl,?_,fun y c hy=>(h1 y c hy).elim (fun z=>nomatch z) id,h3⟩;unfold closureFor;have e':(forIn scope.names ([]:List (Str×Addr)) fun(p:Str×NameKind) (cs:List (Str×Addr))=>if p.2 == .free then (do let a ←cellOf env p.1;pure (ForInStep.yield ((p.1,a)::cs)))else (pure (ForInStep.yield cs):Sem (ForInStep (List (Str×Addr)))))=pure cl:=e
 first
  | (simp only[bind_pure_comp,Functor.map_map]at e'⊢;simpa using e')
  | (show(forIn scope.names ([]:List (Str×Addr)) _ >>= fun cs=>pure cs)=pure cl
     rw[bind_pure];exact e')
theorem bd:∀(names:List (Str×NameKind)) (n:Nat) (acc:List (Str×Addr)) {y:Str},(∀p∈names,p.2 = .cell->p.1≠y)->(cellsFrom n names acc).lookup y=acc.lookup y
 | [],_,_,_,_=>rfl
 | (m,k)::r,n,acc,y,h=>by
  unfold cellsFrom
  split
  . rename_i hk;have hk':k = .cell:=by simpa using hk
    rw[bd r (n+1) _ fun p hp=>h p (List.mem_cons_of_mem _ hp),List.lookup_cons];have:(y == m)=false:=by rw[beq_eq_false_iff_ne];exact fun e=>h (m,k) List.mem_cons_self hk' e.symm
    rw[this]
  . exact bd r n acc fun p hp=>h p (List.mem_cons_of_mem _ hp)
theorem av:∀(names:List (Str×NameKind)) (n:Nat) (acc:List (Str×Addr)) {y:Str} {c:Addr},acc.lookup y=some c->∃d,(cellsFrom n names acc).lookup y=some d
 | [],_,_,_,c,h=>⟨c,h⟩
 | (m,k)::r,n,acc,y,c,h=>by
  unfold cellsFrom
  split
  . by_cases e:y=m
    . exact av r (n+1) _ (c:=n) (by rw[List.lookup_cons,beq_iff_eq.mpr e])
    . exact av r (n+1) _ (c:=c) (by rw[List.lookup_cons,beq_eq_false_iff_ne.mpr e];exact h)
  . exact av r n acc h
theorem ba:∀(names:List (Str×NameKind)) (n:Nat) (acc:List (Str×Addr)) {y:Str},(y,NameKind.cell)∈names->∃c,(cellsFrom n names acc).lookup y=some c
 | (m,k)::r,n,acc,y,h=>by
  unfold cellsFrom;rcases List.mem_cons.mp h with e | h
  . cases e;rw[if_pos (show(NameKind.cell == NameKind.cell)=true from rfl)]
    exact av r (n+1) _ (c:=n) (by rw[List.lookup_cons,beq_self_eq_true])
  . split
    . exact ba r _ _ h
    . exact ba r _ _ h
theorem b7:∀(names:List (Str×NameKind)) (h:Heap) (acc:List (Str×Addr)) {y:Str} {c:Addr},(y,c)∈cellsFrom h.objs.size names acc->(y,c)∈acc∨(h.objs.size≤c/\(y,NameKind.cell)∈names/\(pushCells h names).IsCell c none)
 | [],_,_,_,_,e=>.inl e
 | (m,k)::r,h,acc,y,c,e=>by
  unfold cellsFrom at e;unfold pushCells
  split at e
  . rename_i hk;have hk':k = .cell:=by simpa using hk
    rw[if_pos hk];have sz:(h.push { cls:=.type "cell", data:=.cell none }).objs.size=h.objs.size+1:=Heap.size_push ..;have e':(y,c)∈cellsFrom (h.push { cls:=.type "cell", data:=.cell none }).objs.size r ((m,h.objs.size)::acc):=by rw[sz];exact e
    rcases b7 r _ _ e' with z | ⟨z1,z2,z3⟩
    . rcases List.mem_cons.mp z with z | z
      . cases z;exact .inr ⟨Nat.le_refl _,by rw[hk'];exact List.mem_cons_self,⟨_,pushCells_keeps r _ _ _ (Heap.get?_push_size _ rfl),rfl⟩⟩
      . exact .inl z
    . exact .inr ⟨by rw[sz]at z1;omega,List.mem_cons_of_mem _ z2,z3⟩
  . rename_i hk;rw[if_neg hk];rcases b7 r h acc e with z | ⟨z1,z2,z3⟩
    . exact .inl z
    . exact .inr ⟨z1,List.mem_cons_of_mem _ z2,z3⟩
theorem bc:∀(names:List (Str×NameKind)) (n:Nat) (acc:List (Str×Addr)),(∀y c,(y,c)∈acc->c < n)->(∀y z c,(y,c)∈acc->(z,c)∈acc->y=z) →
 ∀y z c,(y,c)∈cellsFrom n names acc->(z,c)∈cellsFrom n names acc->y=z
 | [],_,_,_,h2,y,z,c,e1,e2=>h2 y z c e1 e2
 | (m,k)::r,n,acc,h1,h2,y,z,c,e1,e2=>by
  unfold cellsFrom at e1 e2
  split at e1
  . rename_i hk;rw[if_pos hk]at e2;refine bc r (n+1) ((m,n)::acc) ?_ ?_ y z c e1 e2
    . intro y c h;rcases List.mem_cons.mp h with h | h
      . cases h;exact Nat.lt_succ_self _
      . exact Nat.lt_succ_of_lt (h1 y c h)
    . intro y z c hy hz;rcases List.mem_cons.mp hy with a | a<;>rcases List.mem_cons.mp hz with b | b
      . cases a;cases b;rfl
      . cases a;exact absurd (h1 z n b) (Nat.lt_irrefl _)
      . cases b;exact absurd (h1 y n a) (Nat.lt_irrefl _)
      . exact h2 y z c a b
  . rename_i hk;rw[if_neg hk]at e2;exact bc r n acc h1 h2 y z c e1 e2
theorem newEnv_comp {M:Model}{A:Around}{E:Value->Shared->Prop}{s:Shared}{scope:Scope}{cl:List (Str×Addr)}{env:Env}{Q:Env->Shared->Prop}(hQ:∀h4:Heap,h4.Ns s.heap.objs.size (fun _=>none)->(∀b o,s.heap.get? b=some o->h4.get? b=some o)->(∀y c,(y,c)∈cellsFrom (s.heap.objs.size+1) scope.names cl->(y,c)∈cl∨(s.heap.objs.size+1≤c/\(y,NameKind.cell)∈scope.names/\h4.IsCell c none))->∀cenv:Env,{ cenv with scope:=relabel scope env }=compEnvC scope (cellsFrom (s.heap.objs.size+1) scope.names cl) s.heap.objs.size env->cenv.locals=s.heap.objs.size->Q cenv { s with heap:=h4 }) :
 wpAny M A (newFunctionEnv scope env.globals cl [] env.qual none .none (some env)) Q E s:=by
 simp only[newFunctionEnv,Option.isSome_some,if_true];refine wpAny_bind (wpAny_alloc ?_);refine wpAny_bind (wpAny_layCells _ (fun name kind cells=>by cases hkc:kind == NameKind.cell<;>simp[hkc]) _ _ _ _ ?_)
 have sz:(s.heap.push { cls:=.type "dict", data:=.dict #[] }).objs.size=s.heap.objs.size+1:=Heap.size_push ..;rw[show({ s with heap:=s.heap.push { cls:=.type "dict", data:=.dict #[] } }:Shared).heap.objs.size=s.heap.objs.size+1 from Heap.size_push ..]
 rw[List.forIn_nil];refine wpAny_bind (wpAny_pure (wpAny_pure ?_));refine hQ _ ((Heap.Ns.new s.heap (.type "dict")).keeps (pushCells_keeps _ _)) (fun b o e=>pushCells_keeps _ _ b o (Heap.get?_push_of_some _ e)) (fun y c h=>?_) _ rfl rfl;rw[←sz]at h⊢;exact b7 _ _ _ h
theorem compLoop_any {prog:Program}{w:World}{A:Around}{R:Result->Shared->Prop}{s:Shared}{elt target iter:Expr}{ifs:List Expr}{scope:Scope}{pos:Pos}{it acc:Value}{env:Env}(I:Nat->Shared->Prop)
 (turn:∀n s,I n s->wpAny (model prog w) A (pyNext it) (fun r s₁=>match r with
   | none=>R (.ok .next) s₁
   | some v=>wpAny (model prog w) A (letOwnedTupleGo target it v) (fun _ s₀=>wpAny (model prog w) A (assign target env v) (fun _ s₂ =>
    wpAny (model prog w) A (forIn ifs true fun c r=>if r=true then do let ok ←isTrue c env (eval c env);pure (ForInStep.yield ok)else pure (ForInStep.yield r)) (fun ok s₃ =>
     if ok=true then wpAny (model prog w) A (eval elt env) (fun x s₄ =>
      wpAny (model prog w) A (call (.builtin "list.append") [acc,x]) (fun _ s₅=>∃m,m < n/\I m s₅) (fun _ _=>False) s₄) (fun _ _=>False) s₃
     else ∃m,m < n/\I m s₃) (fun _ _=>False) s₂) (fun _ _=>False) s₀) (fun _ _=>False) s₁) (fun _ _=>False) s)
 (n:Nat) (h:I n s) :
 codeAny (model prog w) A (.compLoop (.ListComp elt [⟨target,iter,ifs,0⟩] scope pos) 0 it acc env) R s:=by
 refine codeAny_loop rfl I (fun n s hI=>?_) n h;show wpAny _ A ((compTurn (.ListComp elt [⟨target,iter,ifs,0⟩] scope pos) 0 it acc env).onRaise (fun x=>do noteFrame x env;theTreesLotGoes x)) _ _ s
 refine wpAny_noted ?_;rw[compTurn_list];refine wpAny_bind (wpAny_standAt (wpAny_bind (wpAny_mono (turn n s hI) (fun r s₁ h₁=>?_) fun _ _ h'=>h'.elim)));cases r with
 | none=>exact wpAny_pure h₁
 | some v =>
  refine wpAny_bind (wpAny_mono h₁ (fun _ s₀ h₀=>?_) fun _ _ h'=>h'.elim);refine wpAny_bind (wpAny_mono h₀ (fun _ s₂ h₂=>wpAny_bind (wpAny_mono h₂ (fun ok s₃ h₃=>?_) fun _ _ h'=>h'.elim)) fun _ _ h'=>h'.elim);cases ok with
  | false=>exact wpAny_pure ⟨rfl,h₃⟩
  | true =>
   exact wpAny_bind (wpAny_bind (wpAny_mono h₃ (fun x s₄ h₄=>wpAny_bind (wpAny_mono h₄ (fun _ s₅ h₅=>wpAny_pure (wpAny_pure ⟨rfl,h₅⟩)) fun _ _ h'=>h'.elim)) fun _ _ h'=>h'.elim))
end L2
namespace L2
open PySem PySem.Spec PyProof.Rows
def aJ (X:Cx)(scope:Scope)(cl:List (Str×Addr))(M:List Str)(s:Shared)(H:Hp)(fp:List Addr):Cx where
 prog:=X.prog
 w:=X.w
 K:=X.K
 mg:=X.mg
 base:=X.base
 A:=X.A
 N:=M
 s₀:=s
 H₀:=H
 env:=compEnvC scope (cellsFrom (s.heap.objs.size+1) scope.names cl) s.heap.objs.size X.env
 outer:=X.stack
 stack:=X.stack
 ex:=fp
 fn:=fun y=>scope.names.lookup y == some .cell
 calm:=X.calm
 pn:=X.pn
 xe:=fun _ _=>False
theorem az {env:Env}:∀{names:List (Str×NameKind)} {x:Str} {k:NameKind},(names.map fun(n,k)=>if (k == NameKind.free&&env.scope.kind == .function&&env.kindOf n == some .cell)then (n,NameKind.cell)else (n,k)).lookup x=some k →
 names.lookup x=some k∨(names.lookup x=some .free/\k = .cell)
 | [],_,_,h=>by simp at h
 | (n,j)::r,x,k,h=>by
  have ih:=@az env r x k;rw[List.map_cons]at h;dsimp only at h;by_cases hc:(j == NameKind.free&&env.scope.kind == .function&&env.kindOf n == some .cell)=true
  . rw[if_pos hc,List.lookup_cons]at h;rw[List.lookup_cons];cases hx:x == n with
    | true =>
     rw[hx]at h;have hj:j = .free:=by
      simp only[Bool.and_eq_true]at hc;simpa using hc.1.1
     exact .inr ⟨by rw[hj],(Option.some.inj h).symm⟩
    | false=>rw[hx]at h;exact ih h
  . rw[if_neg hc,List.lookup_cons]at h;rw[List.lookup_cons];cases hx:x == n with
    | true=>rw[hx]at h;exact .inl h
    | false=>rw[hx]at h;exact ih h
theorem aZ {env:Env}:∀{names:List (Str×NameKind)} {x:Str},names.lookup x=some .free →
 (names.map fun(n,k)=>if (k == NameKind.free&&env.scope.kind == .function&&env.kindOf n == some .cell)then (n,NameKind.cell)else (n,k)).lookup x=some .cell ∨
 (names.map fun(n,k)=>if (k == NameKind.free&&env.scope.kind == .function&&env.kindOf n == some .cell)then (n,NameKind.cell)else (n,k)).lookup x=some .free
 | [],_,h=>by simp at h
 | (n,j)::r,x,h=>by
  have ih:=@aZ env r x;rw[List.map_cons];dsimp only;rw[List.lookup_cons]at h;by_cases hc:(j == NameKind.free&&env.scope.kind == .function&&env.kindOf n == some .cell)=true
  . rw[if_pos hc,List.lookup_cons];cases hx:x == n with
    | true=>exact .inl rfl
    | false=>rw[hx]at h;exact ih h
  . rw[if_neg hc,List.lookup_cons];cases hx:x == n with
    | true=>rw[hx]at h;exact .inr h
    | false=>rw[hx]at h;exact ih h
theorem aP {env:Env}:∀{names:List (Str×NameKind)} {x:Str},names.lookup x=some .cell →
 (names.map fun(n,k)=>if (k == NameKind.free&&env.scope.kind == .function&&env.kindOf n == some .cell)then (n,NameKind.cell)else (n,k)).lookup x=some .cell
 | [],_,h=>by simp at h
 | (n,j)::r,x,h=>by
  have ih:=@aP env r x;rw[List.map_cons];dsimp only;rw[List.lookup_cons]at h;by_cases hc:(j == NameKind.free&&env.scope.kind == .function&&env.kindOf n == some .cell)=true
  . rw[if_pos hc,List.lookup_cons];cases hx:x == n with
    | true=>rfl
    | false=>rw[hx]at h;exact ih h
  . rw[if_neg hc,List.lookup_cons];cases hx:x == n with
    | true=>rw[hx]at h;exact h
    | false=>rw[hx]at h;exact ih h
section
variable {X:Cx}{pins:List (Addr×Obj)}{σ:St}{H:Hp}{s:Shared}{scope:Scope}{cl:List (Str×Addr)}{M:List Str}{x:Str}{fp:List Addr}{scN:List (Str×NameKind)}
theorem comp_start {h4:Heap}(I:Inv X pins σ H s)(S:CompS scN X.N M x scope)(hsc:X.env.scope.names=scN)(hcl1:∀y c,(y,c)∈cl->X.env.cells.lookup y=some c/\(y,NameKind.free)∈scope.names)(hcl2:∀p∈scope.names,p.2 = .free->∃c,cl.lookup p.1=some c)(hfp:∀b∈fp,FpOk X pins H b)(hlt:∀b∈fp,b < s.heap.objs.size){m:Str->Option Value}(hns:h4.Ns s.heap.objs.size m)(hk:∀b o,s.heap.get? b=some o->h4.get? b=some o)(hcell:∀y c,(y,c)∈cellsFrom (s.heap.objs.size+1) scope.names cl->(y,c)∈cl∨(s.heap.objs.size+1≤c/\(y,NameKind.cell)∈scope.names/\h4.IsCell c none)):Inv (aJ X scope cl M s H fp) pins (σ++[none]) H { s with heap:=h4 }:=by
 have clt:∀y c,(y,c)∈cl->c < s.heap.objs.size:=fun y c h=>let ⟨v,z⟩:=I.cell y c (hcl1 y c h).1;z.lt
 have kin:∀y:Str,(aJ X scope cl M s H fp).env.kindOf y=(scope.names.map fun(n,k)=>if (k == NameKind.free&&X.env.scope.kind == .function&&X.env.kindOf n == some .cell)then (n,NameKind.cell)else (n,k)).lookup y:=fun y=>rfl
 have frcell:∀y,scope.names.lookup y=some .free->(∀p∈scope.names,p.2 = .cell->p.1≠y):=fun y hy p hp hc e=>by
  have q:=b9 S.keys hp;rw[e,hy,hc]at q;cases q
 refine⟨⟨I.ok.mod,S.kind,I.ok.glob,I.ok.blt,Nat.le_refl _,fun y z c h1 h2=>?_,fun y hy=>?_,fun y c h1 h2=>?_,I.ok.hd,I.ok.frames,.inl rfl,fun b hb=>⟨Nat.ne_of_lt (hlt b hb),fun y c hc e=>?_⟩,I.bs,Nat.le_trans I.ok.bsz I.sz,fun b o e hb=>?_,fun b hb hf=>?_,I.stack,I.stkFree⟩,
  rfl,I.bare,Un.kept hk,⟨m,hns,fun i y v h1 h2 h3=>?_⟩,fun y c h=>?_,I.hok.fresh (Nat.le_refl _),fun y c h=>?_,fun p hp=>?_,I.hok.kept hk,?_⟩
 . exact bc scope.names _ cl (fun y c h=>Nat.lt_succ_of_lt (clt y c h)) (fun y z c a b=>I.ok.inj y z c (hcl1 y c a).1 (hcl1 z c b).1) y z c (PySem.mem_of_lookup h1) (PySem.mem_of_lookup h2)
 . rw[kin y]at hy;have key:scope.names.lookup y=some .cell∨scope.names.lookup y=some .free:=by
    rcases hy with hy | hy
    . rcases az hy with z | ⟨z,_⟩
      . exact .inl z
      . exact .inr z
    . rcases az hy with z | ⟨z,_⟩
      . exact .inr z
      . exact .inr z
   rcases key with z | z
   . exact ba scope.names _ cl (PySem.mem_of_lookup z)
   . obtain⟨c,hc⟩:=hcl2 (y,.free) (PySem.mem_of_lookup z) rfl;exact av scope.names _ cl hc
 . have hy:scope.names.lookup y=some .cell:=by
    have:(scope.names.lookup y == some NameKind.cell)=true:=h1;simpa using this
   rcases hcell y c (PySem.mem_of_lookup h2)with z | ⟨z,_⟩
   . have q:=b9 S.keys (hcl1 y c z).2;rw[hy]at q;cases q
   . exact Nat.le_of_succ_le z
 . subst e;rcases hcell y c (PySem.mem_of_lookup hc)with z | ⟨z,_⟩
   . exact(hfp c hb).2.2.2.2.1 y c (hcl1 y c z).1 rfl
   . exact absurd (Nat.lt_of_lt_of_le (hlt c hb) (Nat.le_of_succ_le z)) (Nat.lt_irrefl _)
 . rcases(hfp b hb).2.2.2.1 with z | z
   . exact I.ok.noex b o e z
   . exact absurd (Nat.lt_of_lt_of_le (Heap.lt_size e) (Nat.le_trans I.ok.bsz z)) (Nat.lt_irrefl _)
 . obtain⟨_,f1,f2,_⟩:=hfp b hb;rcases List.mem_cons.mp (I.stkSub b hf)with z | z
   . exact f1 z
   . exact f2 z
 . have hMi:i < M.length:=(List.getElem?_eq_some_iff.mp h1).1;by_cases hi:i < X.N.length
   . obtain⟨o1,o2,o3⟩:=oldB_at S.old hi h1;have hσ:σ[i]? = some (some v):=by
      rw[List.getElem?_append_left (by rw[I.len];exact hi)]at h2;exact h2
     have hfr:scope.names.lookup y=some .free:=by
      have h3':(aJ X scope cl M s H fp).env.kindOf y=some .local∨(aJ X scope cl M s H fp).env.kindOf y=some .cell∨(aJ X scope cl M s H fp).env.kindOf y=some .free:=h3;rw[kin y]at h3';rcases h3' with z | z | z
      . rcases az z with q | ⟨q,_⟩
        . exact absurd q o1
        . exact q
      . rcases az z with q | ⟨q,_⟩
        . exact absurd q o2
        . exact q
      . rcases az z with q | ⟨q,_⟩
        . exact q
        . exact q
     have hNi:=o3 hfr;have hout:=S.fr (y,.free) (PySem.mem_of_lookup hfr) rfl;rw[←hsc]at hout;obtain⟨m0,_,hl⟩:=I.loc;obtain⟨u,r,l⟩:=hl i y v hNi hσ (.inr hout);refine⟨u,r,.inr ⟨?_,?_⟩⟩
     . rw[kin y];exact aZ hfr
     . obtain⟨c,hc⟩:=hcl2 (y,.free) (PySem.mem_of_lookup hfr) rfl;have hXc:=(hcl1 y c (PySem.mem_of_lookup hc)).1;refine⟨c,(bd scope.names _ cl (frcell y hfr)).trans hc,?_⟩;rcases l with⟨kl,_⟩ | ⟨_,c',hc',z⟩
       . have kl':X.env.scope.names.lookup y=some .local:=kl;rw[kl']at hout;rcases hout with q | q<;>cases q
       . rw[hXc]at hc';cases hc';exact z.keeps hk
   . have e:i=X.N.length:=by have:=S.len;omega
     subst e;rw[List.getElem?_append_right (by rw[I.len];exact Nat.le_refl _),I.len,Nat.sub_self]at h2
     cases h2
 . rcases hcell y c (PySem.mem_of_lookup h)with z | ⟨_,_,z⟩
   . obtain⟨v,q⟩:=I.cell y c (hcl1 y c z).1;exact⟨v,q.keeps hk⟩
   . exact⟨_,z⟩
 . rcases hcell y c (PySem.mem_of_lookup h)with z | ⟨z,_,_⟩
   . exact I.freeC y c (hcl1 y c z).1
   . exact I.hok.fresh (Nat.le_of_succ_le z)
 . obtain⟨e,n,ne,nf,d⟩:=I.pin p hp;refine⟨hk _ _ e,n,Nat.ne_of_lt (Heap.lt_size e),fun hf=>?_,d⟩;rcases List.mem_cons.mp (I.stkSub p.1 hf)with z | z
   . exact ne z
   . exact nf z
 . rw[List.length_append,I.len];exact S.len.symm
theorem comp_back {H':Hp}{s':Shared}{pl:List (Addr×Obj)}{τ:St}(I:Inv X pins σ H s)(hfp:∀b∈fp,FpOk X pins H b)(J:Inv (aJ X scope cl M s H fp) pl τ H' s'):Inv X pins σ H' s':=
 I.call' (ch:=fp) J.os J.base J.hok J.bare fun b hb=>let ⟨_,f1,_,f3,f4,f5⟩:=hfp b hb;⟨f3,f1,f4,f5⟩
theorem comp_gone {H':Hp}{s':Shared}{h':Heap}{τ:St}(I:Inv X pins σ H s)(J:Inv X pins τ H' s')(hC:H' s.heap.objs.size=none)(hs:Heap.SameBut s.heap.objs.size s'.heap h'):Inv X pins τ H' { s' with heap:=h' }:=by
 refine J.turned (it:=s.heap.objs.size) (t':=s'.toks) (fun b o hb e=>(hs.2 b hb).trans e) hC (Nat.ne_of_gt I.lt) (.inr I.sz) (fun y c e z=>?_) (fun p hp z=>?_)
 . obtain⟨v,q⟩:=I.cell y c e;exact absurd q.lt (by rw[z];exact Nat.lt_irrefl _)
 . exact absurd (Heap.lt_size (I.pin p hp).1) (by rw[z];exact Nat.lt_irrefl _)
end
def PF (X:Cx)(ifs:List Expr)(t:TT):Prop:=
 ∀(pins:List (Addr×Obj)) (s:Shared) (σ:St) (H:Hp) (Q:Bool->Hp->Prop),Inv X pins σ H s->t σ H Q →
  wpAny (model X.prog X.w) X.A (forIn ifs true fun c r=>if r=true then do let ok ←isTrue c X.env (eval c X.env);pure (ForInStep.yield ok)else pure (ForInStep.yield r)) (TP X pins σ Q) X.xe s
def tYes:TT:=fun _ H Q=>Q true H
theorem dj {X:Cx}:PF X [] tYes:=fun pins s σ H Q I h=>wpAny_tests_nil ⟨H,I,h⟩
def dw (wi:TI)(tf:TT)(te:TE):TE:=fun σ H Q=>wi σ H fun J H1=>∀D,H1 D=none->∃W:Nat->Nat->List V->Hp->Prop,(∃m,W 0 m [] (upd H1 D (.lst [])))/\∀i m ys H2,W i m ys H2 →
 H2 D=some (.lst ys)/\((J.stop i H2/\Q (.ref D) H2)∨(J.go i H2/\∃N:List V->Hp->Prop,(∀ys' H',N ys' H'->∃m',m' < m/\W (i+1) m' ys' H')/\∀y H3,J.yld i H2 y H3 →
  tf (σ++[some y]) H3 fun c H4=>if c=true then te (σ++[some y]) H4 fun z H5=>H5 D=some (.lst ys)/\ys.length < sizeLine/\N (ys++[z]) (upd H5 D (.lst (ys++[z])))else N ys H4))
section
variable {X:Cx}{elt iter:Expr}{ifs:List Expr}{scope:Scope}{pos px:Pos}{x:Str}{wi:TI}{tf:TT}{te:TE}
theorem comp_turns {Y:Cx}{pins:List (Addr×Obj)}{σ:St}{H2:Hp}{s:Shared}{it D:Addr}{fp:List Addr}{tn:Nat->Heap->Prop}{J:It}{R:Result->Shared->Prop}{Q:Hp->Prop}{n:Nat}(hc:Y.calm=true)(hxe:Y.xe=fun _ _=>False)(hN:Y.N.Nodup)(hσ:σ.length=n)(hx:Y.N[n]? = some x)(hl:Loc Y.env.scope x)(hf:Y.fn x=true∨Y.env.scope.names.lookup x=some .local)(T:Turn Y.prog Y.w Y.K (.Name x px) J fp it tn)(f2:∀b∈fp,FpOk Y pins H2 b)(st2:tn 0 s.heap)(I2:Inv Y pins (σ++[none]) H2 s)(hif:PF Y ifs tf)(hel:PE Y elt te)(W:Nat->Nat->List V->Hp->Prop)(w0:∃m,W 0 m [] H2)(turn:∀i m ys H2,W i m ys H2->H2 D=some (.lst ys)/\((J.stop i H2/\Q H2)∨(J.go i H2/\∃N:List V->Hp->Prop,(∀ys' H',N ys' H'->∃m',m' < m/\W (i+1) m' ys' H')/\∀y H3,J.yld i H2 y H3->tf (σ++[some y]) H3 fun c H4=>if c=true then te (σ++[some y]) H4 fun z H5=>H5 D=some (.lst ys)/\ys.length < sizeLine/\N (ys++[z]) (upd H5 D (.lst (ys++[z])))else N ys H4)))(hR:∀H' s',Inv Y pins (σ++[none]) H' s'->Q H'->R (.ok .next) s'):codeAny (model Y.prog Y.w) Y.A (.compLoop (.ListComp elt [⟨.Name x px,iter,ifs,0⟩] scope pos) 0 (.ref it) (.ref D) Y.env) R s:=by
 have stat:∀{H':Hp},(∀b∈fp,H' b=none)->∀b∈fp,FpOk Y pins H' b:=fun hn b hb=>⟨hn b hb,(f2 b hb).2⟩;obtain⟨m0,w0⟩:=w0;refine compLoop_any (fun k s'=>∃i ys H',Inv Y pins (σ++[none]) H' s'/\tn i s'.heap/\(∀b∈fp,H' b=none)/\W i k ys H') ?_ m0 ⟨0,[],H2,I2,st2,fun b hb=>(f2 b hb).1,w0⟩;rintro k s3 ⟨i,ys,H3,I3,st3,fr3,w3⟩;obtain⟨hD,hcase⟩:=turn i k ys H3 w3;rcases hcase with⟨stop,q⟩ | ⟨go,N,hN',step⟩
 . refine thn (T.done Y rfl rfl rfl hc i pins s3 _ H3 _ I3 (stat fr3) st3 stop) fun r s4 ⟨hr,I4⟩=>?_;subst hr;exact hR H3 s4 I4 q
 . refine thn (T.item Y rfl rfl rfl hc i pins s3 _ H3 _ I3 (stat fr3) st3 go) fun r s4 ⟨u,hr,h4⟩=>?_;subst hr;refine thn h4 fun _ s5 ⟨y,H5,I5,r5,y5,st5,fr5⟩=>?_;have I5':=I5.pinned (stat fr5) (T.obj _ _ st5);have hset:(σ++[none]).set n (some y)=σ++[some y]:=by
    rw[List.set_append_right _ _ (by omega)]
    rw[hσ,Nat.sub_self];rfl
   refine wpAny_assign_Name (bA I5' hN hx hl r5 (fun s6 I6=>?_) hf);rw[hset]at I6;have noX:∀(e:Value) (s:Shared),Y.xe e s->False:=fun e s h=>by rw[hxe]at h;exact h
   refine wpAny_mono (hif _ s6 _ H5 _ I6 (step y H5 y5)) (fun c s7 ⟨H7,I7,q7⟩=>?_) fun e s h=>noX e s h;have back:∀{s':Shared} {ys':List V} {H':Hp},Inv Y (pins++bZ fp s5.heap) (σ++[some y]) H' s'->N ys' H'->∃m,m < k/\∃i ys H',Inv Y pins (σ++[none]) H' s'/\tn i s'.heap/\(∀b∈fp,H' b=none)/\W i m ys H':=fun{s' ys' H'} I' n'=>by
    obtain⟨m',hm,w'⟩:=hN' ys' H' n';refine⟨m',hm,i+1,ys',H',I'.unpinned.weak (by simp) (fun j v e=>?_),T.keep _ _ _ st5 fun b hb o e=>(I'.pin (b,o) (List.mem_append_right _ (List.mem_append_right _ (bi hb e)))).1,fun b hb=>?_,w'⟩
    . by_cases hj:j < σ.length
      . rw[List.getElem?_append_left hj]at e⊢;exact e
      . rw[List.getElem?_append_right (by omega)]at e
        cases hjj:j - σ.length with
        | zero=>rw[hjj]at e;cases e
        | succ t=>rw[hjj]at e;simp at e
    . obtain⟨o,e,d⟩:=T.obj _ _ st5 b hb;exact(I'.pin (b,o) (List.mem_append_right _ (List.mem_append_right _ (bi hb e)))).2.1
   cases c with
   | false =>
    rw[if_neg Bool.false_ne_true]at q7⊢;exact back I7 q7
   | true =>
    rw[if_pos rfl]at q7⊢;refine wpAny_mono (hel _ s7 _ H7 _ I7 q7) (fun v s8 ⟨z,H8,I8,r8,hD8,hl8,n8⟩=>?_) fun e s h=>noX e s h;have mt:MtM Y "list.append" d4:=bL;refine wpAny_mono (mt _ s8 _ H8 (.ref D) [z] (.ref D) [v] (fun _ H'=>N (ys++[z]) H') I8 rfl (.cons r8 .nil) ⟨D,ys,z,rfl,rfl,hD8,hl8,n8⟩) (fun _ s9 ⟨_,H9,I9,_,n9⟩=>back I9 n9) fun e s h=>noX e s h
theorem comp_core {M:List Str}{scN:List (Str×NameKind)}{pins:List (Addr×Obj)}{s:Shared}{σ:St}{H:Hp}{use:Option (Value->Sem Unit)}{Z:Value->Shared->Prop}{G:VK}{pos2:Pos}(S:CompS scN X.N M x scope)(hsc:X.env.scope.names=scN)(hc:X.calm=true)(hi:PI X (.Name x px) iter wi)(hif:∀cl s H fp,PF (aJ X scope cl M s H fp) ifs tf)(hel:∀cl s H fp,PE (aJ X scope cl M s H fp) elt te)(hs:∀v,foldedSetIterable iter X.env v=pure v)(I:Inv X pins σ H s)(h:dw wi tf te σ H G)(fin:∀(s3:Shared) (H3:Hp) (fp:List Addr) (cl:List (Str×Addr)) (D:Addr) (H':Hp) (s':Shared),Inv X pins σ H3 s3->(∀b∈fp,FpOk X pins H3 b)->Inv (aJ X scope cl M s3 H3 fp) pins (σ++[none]) H' s'->G (.ref D) H'->compPost (model X.prog X.w) X.A X.xe use Z (.ref D) s3.heap.objs.size (.ok .next) s'):wpAny (model X.prog X.w) X.A (comprehension (.ListComp elt [⟨.Name x px,iter,ifs,0⟩] scope pos) scope X.env pos2 (newList []) false (eval iter X.env) use) Z X.xe s:=by
 obtain⟨cl,hclo,hcl1,hcl2⟩:=closure_ok (scope:=scope) (env:=X.env) fun p hp hf=>I.ok.has p.1 (by have q:=S.fr p hp hf;rw[←hsc]at q;exact q)
 refine wpAny_comprehension_free rfl hs hclo S.kind (fun y hy hl=>by rw[b9 S.keys hy,hl]) (thn (hi pins s σ H _ I h) fun v s1 h1=>thn h1 fun itv s2 h2=>?_)
 obtain⟨it,fp,tn,J,H2,e,I2,T,st2,f2,q⟩:=h2;subst e;refine wpAny_newObj_type ?_;have fr:H2 s2.heap.objs.size=none:=I2.hok.fresh (Nat.le_refl _);have I3:Inv X pins σ (upd H2 s2.heap.objs.size (.lst [])) { s2 with heap:=s2.heap.push { cls:=.type "list", dict:=none,data:=.seq ([]:List Value).toArray } }:=
  I2.laid (t':=s2.toks) (fun b u e=>Heap.get?_push_of_some _ e) (Nat.le_refl _) ⟨Nat.zero_le _,[],0,.nil,Heap.get?_push_size _ rfl⟩
 obtain⟨W,w0,turn⟩:=q s2.heap.objs.size fr;have hlt2:∀b∈fp,b < s2.heap.objs.size:=fun b hb=>let ⟨o,e,_⟩:=T.obj 0 _ st2 b hb;Heap.lt_size e
 have f3:∀b∈fp,FpOk X pins (upd H2 s2.heap.objs.size (.lst [])) b:=fun b hb=>⟨by rw[am (Nat.ne_of_lt (hlt2 b hb))];exact(f2 b hb).1,(f2 b hb).2⟩
 refine newEnv_comp fun h4 hns hk hcell cenv hcenv hloc=>?_;rw[hcenv,hloc];have hlt3:∀b∈fp,b < ({ s2 with heap:=s2.heap.push { cls:=.type "list", dict:=none,data:=.seq ([]:List Value).toArray } }:Shared).heap.objs.size:=fun b hb=>by
  show b < (s2.heap.push _).objs.size;rw[Heap.size_push];exact Nat.lt_succ_of_lt (hlt2 b hb)
 have J4:=comp_start I3 S hsc hcl1 hcl2 f3 hlt3 hns hk hcell;have st4:tn 0 h4:=T.keep 0 _ _ st2 fun b hb o e=>hk b o (Heap.get?_push_of_some _ e);have f4:∀b∈fp,FpOk (aJ X scope cl M { s2 with heap:=s2.heap.push { cls:=.type "list", dict:=none,data:=.seq ([]:List Value).toArray } } (upd H2 s2.heap.objs.size (.lst [])) fp) pins (upd H2 s2.heap.objs.size (.lst [])) b:=fun b hb =>
  ⟨(f3 b hb).1,(J4.ok.exf b hb).1,J4.ok.exfs b hb,.inl hb,(J4.ok.exf b hb).2,(f3 b hb).2.2.2.2.2⟩
 have loc:Loc (relabel scope X.env) x/\((aJ X scope cl M { s2 with heap:=s2.heap.push { cls:=.type "list", dict:=none,data:=.seq ([]:List Value).toArray } } (upd H2 s2.heap.objs.size (.lst [])) fp).fn x=true∨(relabel scope X.env).names.lookup x=some .local):=by
  rcases S.own with z | z
  . have q:=lookup_relabel_local (env:=X.env) z;exact⟨.inl q,.inr q⟩
  . refine⟨.inr ?_,.inl ?_⟩
    . exact aP z
    . show(scope.names.lookup x == some NameKind.cell)=true;rw[z];rfl
 have loop:∀s5:Shared,s5={ ({ s2 with heap:=s2.heap.push { cls:=.type "list", dict:=none,data:=.seq ([]:List Value).toArray } }:Shared)with heap:=h4 } →
  codeAny (model X.prog X.w) X.A (.compLoop (.ListComp elt [⟨.Name x px,iter,ifs,0⟩] scope pos) 0 (.ref it) (.ref s2.heap.objs.size) (compEnvC scope (cellsFrom (({ s2 with heap:=s2.heap.push { cls:=.type "list", dict:=none,data:=.seq ([]:List Value).toArray } }:Shared).heap.objs.size+1) scope.names cl) ({ s2 with heap:=s2.heap.push { cls:=.type "list", dict:=none,data:=.seq ([]:List Value).toArray } }:Shared).heap.objs.size X.env))
   (compPost (model X.prog X.w) X.A X.xe use Z (.ref s2.heap.objs.size) ({ s2 with heap:=s2.heap.push { cls:=.type "list", dict:=none,data:=.seq ([]:List Value).toArray } }:Shared).heap.objs.size) s5:=by
  rintro s5 rfl;exact comp_turns (Y:=aJ X scope cl M { s2 with heap:=s2.heap.push { cls:=.type "list", dict:=none,data:=.seq ([]:List Value).toArray } } (upd H2 s2.heap.objs.size (.lst [])) fp)
   (Q:=fun H'=>G (.ref s2.heap.objs.size) H') hc rfl S.nd I.len S.last loc.1 loc.2 T f4 st4 J4 (hif _ _ _ _) (hel _ _ _ _) W w0 turn fun H' s' J' g=>fin _ _ fp cl _ H' s' I3 f3 J' g
 exact codeAny_compStart_list (loop _ rfl) (T.self _ 0 _ _ _ st4 (loop _ rfl))
theorem d5 (scN:List (Str×NameKind))(N M:List Str)(hi:PI X (.Name x px) iter wi)(hif:∀cl s H fp,PF (aJ X scope cl M s H fp) ifs tf)(hel:∀cl s H fp,PE (aJ X scope cl M s H fp) elt te)(S:CompS scN N M x scope:=by first | exact⟨rfl,by decide +kernel,by decide +kernel,by decide +kernel,rfl,rfl,.inl rfl,by decide +kernel⟩ | exact⟨rfl,by decide +kernel,by decide +kernel,by decide +kernel,rfl,rfl,.inr rfl,by decide +kernel⟩)
 (hN:X.N=N:=by rfl) (hsc:X.env.scope.names=scN:=by rfl) (hc:X.calm=true:=by rfl) (hs:∀v,foldedSetIterable iter X.env v=pure v:=by intro _;rfl):PE X (.ListComp elt [⟨.Name x px,iter,ifs,0⟩] scope pos) (dw wi tf te):=by
 intro pins s σ H Q I h;subst hN;rw[eval_ListComp];refine comp_core (use:=none) S hsc hc hi hif hel hs I h fun s3 H3 fp cl D H' s' I3 f3 J' g=>?_;obtain⟨m,hn,_⟩:=J'.loc;exact⟨m,hn,fun h' hs'=>⟨.ref D,H',comp_gone I3 (comp_back I3 f3 J') J'.free hs',rfl,g⟩⟩
end
end L2
namespace L2
open PySem PySem.Spec PyProof.Rows
section
variable {X:Cx}{pins:List (Addr×Obj)}{σ:St}{H:Hp}{s:Shared}{scope:Scope}{cl:List (Str×Addr)}{M:List Str}{kn:Nat}{fp:List Addr}{scN:List (Str×NameKind)}
end
section
variable {X:Cx}{elt iter:Expr}{ifs:List Expr}{scope:Scope}{pos:Pos}{tg:Expr}{kn:Nat}{g:TG}{wi:TI}{tf:TT}{te:TE}
end
end L2
namespace L2
open PySem PySem.Spec PyProof.Rows
section
variable {X:Cx}{pins:List (Addr×Obj)}{σ:St}{H:Hp}{s:Shared}{a:Addr}{kvs:List (Key×V)}{o:Obj}
end
section
variable {X:Cx}{tg:Expr}
end
end L2
namespace L2
open PySem PySem.Spec PyProof.Rows
section
variable {X:Cx}
theorem call_isinst:bR X (.builtin "isinstance") (fun xs H Q=>∃x t n b,xs=[x,.ty n]/\TyOf X.K H x t/\PySem.W.kitOne X.K t (.type n)=some b/\Q (.bl b) H):=by
 intro pins s σ H xs us Q I r h;obtain⟨x,t,n,b,rfl,ty,e,q⟩:=h;obtain⟨u,w',rfl,ru,rw'⟩:=dg r;cases rw';exact cr I ru ty e fun tk=>⟨.bl b,H,I.tok tk,rfl,q⟩
def eqVs (xs ys:List V):Bool:=xs.length == ys.length&&(List.range xs.length).all fun j=>eqV (xs.getD j .non) (ys.getD j .non)
theorem rc_flat {A:Around}{pins:List (Addr×Obj)}{s:Shared}{σ:St}{H:Hp}{a b:Addr}{xs ys:List V}(I:Inv X pins σ H s)(ha:SqL X.K H a xs)(hb:SqL X.K H b ys)(fx:xs.all b0=true)(fy:ys.all b0=true)(hu:A.units < cLine):SeqAt.RcAt A s (.ref a) (.ref b) (eqVs xs ys)/\SeqAt.RcNeAt A s (.ref a) (.ref b) (!eqVs xs ys):=by
 obtain⟨us,ru,pu,_⟩:=I.list ha;obtain⟨vs,rv,pv,_⟩:=I.list hb;have l1:=ru.length;have l2:=rv.length;by_cases hl:xs.length=ys.length
 . have he:∀j (h1:j < us.toArray.size) (h2:j < vs.toArray.size),SeqAt.EqAt A.in1 s us.toArray[j] vs.toArray[j] (eqV (xs.getD j .non) (ys.getD j .non)):=fun j h1 h2=>by
    rw[List.size_toArray]at h1 h2;have hj1:j < xs.length:=by omega
    have hj2:j < ys.length:=by omega
    obtain⟨u,hu,ru'⟩:=ru.get (i:=j) (x:=xs[j]) (by simp[hj1])
    obtain⟨v,hv,rv'⟩:=rv.get (i:=j) (x:=ys[j]) (by simp[hj2])
    have e1:us.toArray[j]=u:=by
     have:=List.getElem?_eq_some_iff.mp hu;obtain⟨_,q⟩:=this;simpa using q
    have e2:vs.toArray[j]=v:=by
     obtain⟨_,q⟩:=List.getElem?_eq_some_iff.mp hv;simpa using q
    have g1:xs.getD j .non=xs[j]:=by simp[List.getD_eq_getElem?_getD,hj1]
    have g2:ys.getD j .non=ys[j]:=by simp[List.getD_eq_getElem?_getD,hj2]
    rw[e1,e2,g1,g2];exact dn ru' rv' (List.all_eq_true.mp fx _ (List.getElem_mem hj1)) (List.all_eq_true.mp fy _ (List.getElem_mem hj2))
   have hsz:us.toArray.size=vs.toArray.size:=by rw[List.size_toArray,List.size_toArray];omega
   have e:eqVs xs ys=(List.range us.toArray.size).all fun j=>eqV (xs.getD j .non) (ys.getD j .non):=by
    unfold eqVs;rw[beq_iff_eq.mpr hl,Bool.true_and,List.size_toArray,←l1]
   rw[e];exact⟨SeqAt.RcAt.lists pu.isList pv.isList hsz hu he,SeqAt.RcNeAt.lists pu.isList pv.isList hsz hu he⟩
 . have hsz:(us.toArray.size != vs.toArray.size)=true:=by
    rw[bne_iff_ne,List.size_toArray,List.size_toArray];omega
   have e:eqVs xs ys=false:=by
    unfold eqVs;rw[beq_eq_false_iff_ne.mpr hl,Bool.false_and]
   rw[e];exact⟨SeqAt.RcAt.lists_lengths pu.isList pv.isList hsz hu,SeqAt.RcNeAt.lists_lengths pu.isList pv.isList hsz hu⟩
def rEqL (K:PySem.W.Frag)(neg:Bool):R2:=fun x y H Q=>∃a b xs ys,x = .ref a/\y = .ref b/\SqL K H a xs/\SqL K H b ys/\xs.all b0=true/\ys.all b0=true/\Q (.bl (if neg then !eqVs xs ys else eqVs xs ys)) H
theorem op_eqL (hu:X.A.units < cLine):OpR X (compareOp .Eq) (rEqL X.K false):=by
 intro pins s σ H x y v u Q I rx ry h;obtain⟨a,b,xs,ys,rfl,rfl,ha,hb,fx,fy,q⟩:=h;cases rx;cases ry;exact(rc_flat I ha hb fx fy hu).1 _ _ _ _ ⟨.bl _,H,I,rfl,q⟩
end
end L2
namespace Tw
end Tw
namespace Tw
end Tw
namespace Tw
end Tw
namespace Tw
open PySem L2
def zV (z:List Int):List V:=z.map V.int
theorem af {H:Hp}{p:Addr}{o:HO}(h:H p=none):Same H (upd H p o):=fun b u e=>by rw[am (au e h)];exact e
theorem aC {n:Nat}(h:n≤1000):n≤sizeLine:=Nat.le_of_lt (bt h)
end Tw
namespace L2
open PySem PySem.Spec PyProof.Rows
theorem comp_range {lo:Int}{n:Nat}{tf:TT}{te:TE}{σ:St}{H1:Hp}{D:Addr}{Q:Hp->Prop}(Pv:Nat->List V->Hp->Prop)(hD:∀i ys H,Pv i ys H->H D=some (.lst ys))(h0:Pv 0 [] (upd H1 D (.lst [])))(hs:∀i ys H,i < n->Pv i ys H->tf (σ++[some (.int (lo+i))]) H fun c H4=>if c=true then te (σ++[some (.int (lo+i))]) H4 fun z H5=>H5 D=some (.lst ys)/\ys.length < sizeLine/\Pv (i+1) (ys++[z]) (upd H5 D (.lst (ys++[z])))else Pv (i+1) ys H4)(hd:∀ys H,Pv n ys H->Q H):∃W:Nat->Nat->List V->Hp->Prop,(∃m,W 0 m [] (upd H1 D (.lst [])))/\∀i m ys H2,W i m ys H2->H2 D=some (.lst ys)/\(((Itr lo n).stop i H2/\Q H2)∨((Itr lo n).go i H2/\∃N:List V->Hp->Prop,(∀ys' H',N ys' H'->∃m',m' < m/\W (i+1) m' ys' H')/\∀y H3,(Itr lo n).yld i H2 y H3->tf (σ++[some y]) H3 fun c H4=>if c=true then te (σ++[some y]) H4 fun z H5=>H5 D=some (.lst ys)/\ys.length < sizeLine/\N (ys++[z]) (upd H5 D (.lst (ys++[z])))else N ys H4)):=by
 refine⟨fun i m ys H=>m=n - i/\i≤n/\Pv i ys H,⟨n,by simp,Nat.zero_le _,h0⟩,?_⟩
 rintro i m ys H ⟨rfl,hi,p⟩;refine⟨hD i ys H p,?_⟩;by_cases hlt:i < n
 . refine .inr ⟨hlt,Pv (i+1),fun ys' H' p'=>⟨n - (i+1),by omega,rfl,hlt,p'⟩,fun y H' yl=>?_⟩
   obtain⟨e,e2⟩:=yl;subst e e2;exact hs i ys _ hlt p
 . have e:i=n:=by omega
   subst e;exact .inl ⟨Nat.le_refl _,hd ys H p⟩
theorem yesI {A B:Hp->Prop}{σ:St}{H:Hp}(h:A H):tYes σ H (fun c H4=>if c=true then A H4 else B H4):=iteT (A:=A H) (B:=B H) h
theorem iteD {c:Prop}[Decidable c]{A B:Prop}(h1:c->A)(h2:¬c->B):if decide c=true then A else B:=by
 by_cases h:c
 . rw[decide_eq_true h];exact iteT (h1 h)
 . rw[decide_eq_false h];exact iteF (h2 h)
theorem iteB {b:Bool}{A B:Prop}(h1:b=true->A)(h2:b=false->B):if b=true then A else B:=by
 cases b with
 | true=>exact iteT (h1 rfl)
 | false=>exact iteF (h2 rfl)
end L2
namespace L2
open PySem PySem.Spec PyProof.Rows
open PySem.Builtin.Int (intBits)
section
variable {X:Cx}{tg:Expr}
theorem ixK (K:PySem.W.Frag)(h:X.K=K:=by rfl):IxR X (rIxL K):=h▸ix_list
theorem slK (K:PySem.W.Frag)(h:X.K=K:=by rfl):SlR X (rSlL K):=h▸sl_list
theorem inK (K:PySem.W.Frag)(h:X.K=K:=by rfl):OpR X (compareOp .In) (rIn K false):=h▸op_in_seq
theorem cO (K:PySem.W.Frag){l:Expr}{tl:TE}(hl:PE X l tl)(h:X.K=K:=by rfl):PI X tg l (ft K tl):=h▸pi_list hl
theorem lenK (K:PySem.W.Frag)(h:X.K=K:=by rfl):bR X (.builtin "len") (fun xs H Q=>∃p ys,xs=[.ref p]/\(SqL K H p ys∨SqT K H p ys)/\Q (.int ys.length) H):=h▸call_len_seq
theorem d7 (K:PySem.W.Frag)(h:X.K=K:=by rfl):bR X (.builtin "isinstance") (fun xs H Q=>∃x t n b,xs=[x,.ty n]/\TyOf K H x t/\PySem.W.kitOne K t (.type n)=some b/\Q (.bl b) H):=h▸call_isinst
theorem op_mulB:OpR X (binaryOp .Mult) (rI IntMulOk fun i j=>.int (i*j)):=opI fun _ _ _ _ _ _ _ hc q=>mul_int q hc
def Bits (i:Int):Prop:=intBits i≤2 ^ 20
theorem mul_bits {a b:Int}{m n:Nat}(ha:intBits a≤m)(hb:intBits b≤n)(h:m+n≤134217728):IntMulOk a b:=PyProof.Rows.mulOk_of_bits ha hb h
end
theorem bits_of_lay {ns:List Int}(h:PySem.W.WData.layableAll [PySem.W.WData.list (ns.map PySem.W.WData.int)]=true):∀n∈ns,Bits n:=by
 intro n hn;have h1:(PySem.W.WData.list (ns.map PySem.W.WData.int)).layable=true:=(PySem.W.layW_cons h).1;have h2:(PySem.W.WData.int n).layable=true:=PySem.W.layableW_item h1 _ (List.mem_map.mpr ⟨n,hn,rfl⟩);exact PyData.bits_of_layable h2
end L2
namespace Att
open PySem PySem.W PySem.Calls PyProof.Rows
theorem attach_bits {l:OpenLaw}{n:Nat}{q:Program}{loose:List Str}{XP:(Str->Option Value)->Heap->Prop}{YP:World->Heap->Prop}{d:DefRec}(hn:l.most=some n)(hdf:d.params.defaults=[])(call:∀(w:World) (s₀ s₁:Shared) (mg mb:Str->Option Value) (fa:Addr) (o:Obj) (pm cd doc:Value) (a:Addr) (vs:List Value) (ns:List Int),Ground q loose [] XP w s₀ mg mb s₁.heap->YP w s₁.heap->s₁.heap.get? fa=some o->o.data = .func (docDef d.name d.params d.body d.scope pm cd doc)->s₁.heap.CodeRec cd d.name->mg d.name=some (.ref fa)->s₁.heap.get? a=some { cls:=.type "list", data:=.seq vs.toArray }->IntsAre vs ns->ns.length≤n->(∀n∈ns,L2.Bits n)->s₁.gens = #[] →
 codeAny (model l.prog w) callerA (.call (.ref fa) ⟨[.ref a],[]⟩) (fun r s'=>r = .ok (.ret (.bool true))/\OldK s₁.heap s'.heap/\s'.os=s₁.os/\AllBare s'.gens) s₁) :
 WalkO q loose XP YP l.row.toRowW d [] (fun f vs=>PySem.call f vs):=by
 intro w s₀ s₁ mg mb G Y fa o pm cd doc dV kV ho hd hcd hD hmg hg args vals as hpre hlay hrd hwl hlo;obtain rfl:dV = .none:=Dflts.none hD hdf;obtain rfl:kV = .none:=Dflts.noKw hD;obtain⟨a,vs,ns,rfl,rfl,hobj,hints,hlen⟩:=Att.script_of hn hpre hwl;refine enter_call (codeAny_mono (call w s₀ s₁ mg mb fa o pm cd doc a vs ns G Y ho (fd_plain hd) hcd hmg hobj hints hlen (L2.bits_of_lay hlay) hg) fun r s' hq=>?_);obtain⟨rfl,h2,h3,h4⟩:=hq;exact⟨.inl ⟨.bool true,.bool true,[],rfl,fun _=>rfl,.bool true,Att.post_true l _,fun _=>⟨List.Pairwise.nil,fun _ hm=>(nomatch hm)⟩⟩,h2,h3,h4⟩
end Att
namespace L2
open PySem PySem.Spec PyProof.Rows
theorem walk_bits {l:PySem.W.OpenLaw}{n k:Nat}{q:Program}{loose:List Str}{XP:(Str->Option Value)->Heap->Prop}{YP:World->Heap->Prop}{d:DefRec}{K:Params->PySem.W.Frag}{CX:CXT}{sp:PySem.W.Frag->Sp}{x:Str}(hn:l.most=some n)(hn2:n≤sizeLine)(hdf:d.params.defaults=[])(hr:Room k callerA)(hY:∀(w:World) (h:Heap),YP w h->(K w.params).In h)(F:∀(w:World) (mg:Str->Option Value) (fa:Addr) (h:Heap),(K w.params).In h->h.Ns mainGlobals mg->mg d.name=some (.ref fa)->∃fd:FuncData,(∀(s:Shared) (u:Value),BindsTo s fd ⟨[u],[]⟩ [(x,u)])/\∀base:Heap,(K w.params).In base->base.Ns mainGlobals mg->FnOk l.prog w (K w.params) mg base CX k fa fd [x] (sp (K w.params)))(hsp:∀(K:PySem.W.Frag) (H:Hp) (a:Addr) (ns:List Int),ns.length≤n->(∀n∈ns,Bits n)->Only H->SqL K H a (ns.map V.int)->sp K [.ref a] H (fun v _=>v = .bl true) fun _ _ _=>False)(hCX:∀(H:Hp) (s:Shared) (e:Value) (s':Shared),CX [] H s (fun _ _ _=>False) e s'->False):PySem.W.WalkO q loose XP YP l.row.toRowW d [] (fun f vs=>PySem.call f vs):=by
 refine Att.attach_bits hn hdf fun w s₀ s₁ mg mb fa o pm cd doc a vs ns G Y ho hd hcd hmg hobj hints hlen hbits hg=>?_;have KX:=hY w _ Y;obtain⟨fd,hb,hF⟩:=F w mg fa _ KX G.T.g hmg;exact law_call KX G.T.g G.T.b G.T.builtins G.T.nolimit G.T.bmain hg hobj hints (Nat.le_trans hlen hn2) hr hF hb (fun H hO hS=>hsp _ H a ns hlen hbits hO hS) fun H e s'=>hCX H s₁ e s'
end L2
namespace L2
open PySem PySem.Spec PyProof.Rows
section
variable {prog:Program}{w:World}{A:Around}{E:Value->Shared->Prop}{s:Shared}
end
section
variable {X:Cx}{pos:Pos}
end
end L2
namespace L2
open PySem PySem.Spec PyProof.Rows
section
variable {X:Cx}
end
end L2
namespace L2
open PySem PySem.Spec PyProof.Rows
section
variable {X:Cx}
end
section
variable {X:Cx}{es:List Expr}{t:TA}{te:TE}
theorem bE {l:List Expr}{k:Nat}{p:Pos}(ha:PE X (.Tuple l k p) te)(hr:PA X es t):PA X (.Tuple l k p::es) (cm te t):=a6 ha hr rfl
theorem c7 {a b:Expr}{p:Pos}(ha:PE X (.Subscript a b p) te)(hr:PA X es t):PA X (.Subscript a b p::es) (cm te t):=a6 ha hr rfl
theorem c8 {a b:Expr}{o:Operator}{p:Pos}(ha:PE X (.BinOp a o b p) te)(hr:PA X es t):PA X (.BinOp a o b p::es) (cm te t):=a6 ha hr rfl
theorem ag {c:Const}{k:Nat}{p:Pos}(ha:PE X (.Constant c k p) te)(hr:PA X es t):PA X (.Constant c k p::es) (cm te t):=a6 ha hr rfl
end
end L2
namespace L2
open PySem PySem.Spec PyProof.Rows
section
variable {X:Cx}
end
end L2
namespace L2
open PySem PySem.Spec PyProof.Rows
section
variable {X:Cx}{pins:List (Addr×Obj)}{σ:St}{H:Hp}{s:Shared}{h':Heap}
end
section
variable {X:Cx}
end
end L2
namespace L2
open PySem PySem.Spec PyProof.Rows
section
variable {X:Cx}
end
end L2
namespace L2
open PySem PySem.Spec PyProof.Rows
section
variable {X:Cx}
theorem op_eqLK (K:PySem.W.Frag)(hu:X.A.units < cLine)(hK:X.K=K:=by rfl):OpR X (compareOp .Eq) (rEqL K false):=hK▸op_eqL hu
end
end L2
namespace L2
open PySem PySem.Spec PyProof.Rows
section
variable {prog:Program}{w:World}{A:Around}{E:Value->Shared->Prop}{s:Shared}{l:Addr}{xs:Array (Int×Tok)}
end
section
variable {X:Cx}
end
end L2
namespace L2
open PySem PySem.Spec PyProof.Rows
theorem leaving_any {M:Model}{A:Around}{E:Value->Shared->Prop}{s:Shared}{base:Heap}{env:Env}{outer:List Env}{L e T:Addr}{oe oT:Obj}{vs ts:Array Value}{v3:Value}{Q:Unit->Shared->Prop}(hfr:A.frames=some (env::outer))(hl:s.heap.FunFrames base (env::outer))(hf:env.frame=some L)(he:s.heap.get? e=some oe)(hd:oe.data = .fields vs)(h1:vs[1]? = some (.ref T))(hnT:base.get? T=none)(hTe:T≠e)(hT:s.heap.get? T=some oT)(hdT:oT.data = .fields ts)(h3:ts[3]? = some v3)(hkb:base.StaysIn s.heap)(hen:base.get? e=none)(h:∀h',Heap.Left base (env::outer) e oe.cls s.heap h'->Q () { s with heap:=h' }):wpAny M A (leaving env (.ref e)) Q E s:=by
 have l3:=(Array.getElem?_eq_some_iff.mp h3).1;have oth:∀b,b≠T->(s.heap.update T (Obj.mapFields (·.setIfInBounds 3 Value.none))).get? b=s.heap.get? b:=fun b hb=>Heap.get?_update_other _ _ (Ne.symm hb);have nrec:∀b o,s.heap.get? b=some o->(∀vs,o.data≠.fields vs)->b≠T:=fun b o hb hnf q=>by
  rw[q,hT]at hb;cases hb;exact hnf ts hdT
 have nb:∀b o,base.get? b=some o->b≠T:=fun b o hb q=>by rw[q,hnT]at hb;cases hb
 unfold leaving noteFrame;simp only[hf];refine wpAny_bind (wpAny_bind (wpAny_field he hd h1 ?_));rw[if_pos (show(Value.ref T != Value.none)=true from by simp)]
 refine wpAny_bind (wpAny_field hT hdT h3 ?_);by_cases hv:(v3 == rawInt L)=true
 . rw[if_pos hv];refine wpAny_pure ?_;unfold setFlight;refine wpAny_bind (wpAny_field he hd h1 ?_);rw[if_pos (show(Value.ref T != Value.none)=true from by simp)]
   refine wpAny_setField hT hdT l3 (h _ ⟨fun b o hb=>(oth b (nb b o hb)).trans (hkb b o hb),hl.of_keeps fun b o hb hnf=>⟨o,(oth b (nrec b o hb hnf)).trans hb,rfl⟩,?_,fun b o hb hnf=>⟨o.slots,(oth b (nrec b o hb hnf)).trans hb⟩⟩);have hd3:=Obj.data_mapFields hdT (·.setIfInBounds 3 Value.none);exact⟨oe,vs,T,_,_,(oth e (Ne.symm hTe)).trans he,rfl,hd,h1,hnT,hTe,Heap.get?_update_self _ hT (Obj.isFreed_of_fields hd3),hd3,by simp[l3]⟩
 . rw[if_neg hv];refine wpAny_bind (wpAny_setField hT hdT l3 ?_);exact wpAny_newEntry hfr (hl.of_keeps fun b o hb hnf=>⟨o,(oth b (nrec b o hb hnf)).trans hb,rfl⟩) hf ((oth e (Ne.symm hTe)).trans he) (fun b o hb=>(oth b (nb b o hb)).trans (hkb b o hb)) hen hd (Array.getElem?_eq_some_iff.mp h1).1
    fun h' ⟨x1,x2,x3,x4⟩=>h h' ⟨x1,x2,x3,fun b o hb hnf=>x4 b o ((oth b (nrec b o hb hnf)).trans hb) hnf⟩
theorem ObjOk.some_at {P:Program}{w:World}{H:Hp}{h:Heap}{a:Addr}{o:HO}(x:ObjOk P w H h a o):∃ob,h.get? a=some ob:=by
 cases o with
 | lst xs=>obtain⟨_,_,_,_,e⟩:=x;exact⟨_,e⟩
 | tup xs=>obtain⟨_,_,_,ob,e,_⟩:=x;exact⟨_,e⟩
 | dK kvs=>obtain⟨_,_,_,_,o,_,_,e,_⟩:=x;exact⟨_,e⟩
 | dT kvs=>obtain⟨_,_,_,_,o,_,_,e,_⟩:=x;exact⟨_,e⟩
 | set S n=>obtain⟨o,_,_,_,e,_⟩:=x;exact⟨_,e⟩
 | ins C dx fs=>obtain⟨_,_,_,e,_⟩:=x;exact⟨_,e⟩
 | own y=>exact x
 | xd fs=>obtain⟨_,⟨_,_,_,e,_⟩,_⟩:=x;exact⟨_,e⟩
 | rng lo hi=>obtain⟨_,_,_,e⟩:=x;exact⟨_,e⟩
 | frz ob u=>obtain⟨e,_⟩:=x;exact⟨_,e⟩
 | tbl ps=>obtain⟨_,e,_⟩:=x;exact⟨_,e⟩
 | cod q=>obtain⟨_,_,_,_,e0,e,_⟩:=x;cases e0;exact⟨_,e⟩
 | met f y=>exact⟨_,x⟩
 | ext φ=>exact x.2.1
theorem HOk.untracked {P:Program}{w:World}{H:Hp}{h:Heap}{a:Addr}(x:HOk P w H h)(e:h.get? a=none):H a=none:=by
 cases q:H a with
 | none=>rfl
 | some u=>obtain⟨ob,e'⟩:=(x a u q).some_at;rw[e]at e';cases e'
def Back (h0:Heap)(H:Hp)(h:Heap)(x:Addr)(v:Value):Prop:=
 v = .none∨∃T oT ts v3,v = .ref T/\T≠x/\h0.get? T=none/\H T=none/\h.get? T=some oT/\oT.data = .fields ts/\ts[3]? = some v3
def Fly (h0:Heap)(H:Hp)(h:Heap)(x:Addr)(C:Value):Prop:=
 ∃oe vs v,h0.get? x=none/\H x=none/\h.get? x=some oe/\oe.cls=C/\oe.data = .fields vs/\vs[1]? = some v/\Back h0 H h x v
def FlyT (h0:Heap)(H:Hp)(h:Heap)(x:Addr)(C:Value):Prop:=
 ∃oe vs T oT ts,h0.get? x=none/\H x=none/\h.get? x=some oe/\oe.cls=C/\oe.data = .fields vs/\vs[1]? = some (.ref T)/\T≠x/\h0.get? T=none/\H T=none/\h.get? T=some oT/\oT.data = .fields ts/\ts[3]? = some .none
def CXE (P:Program)(w:World):CXT:=fun outer H s E e s'=>∃x C H',e = .ref x/\s'.os=s.os/\AllBare s'.gens/\Un (frs outer) [] H H' s.heap s'.heap/\HOk P w H' s'.heap/\FlyT s.heap H' s'.heap x C/\E C none H'
def XE (X:Cx)(E:XK):Prop:=∀(pins:List (Addr×Obj)) (σ:St) (H:Hp) (s:Shared) (x:Addr) (C:Value),Inv X pins σ H s->Fly X.s₀.heap H s.heap x C->E C none H->X.xe (.ref x) s
theorem Inv.gone {X:Cx}{pins:List (Addr×Obj)}{σ:St}{H:Hp}{s:Shared}(I:Inv X pins σ H s)(hx:X.ex=[]){b:Addr}(e:s.heap.get? b=none):X.s₀.heap.get? b=none:=by
 cases q:X.s₀.heap.get? b with
 | none=>rfl
 | some o =>
  obtain⟨o',z⟩:=I.base.there b o q (by rw[hx];simp)
  rw[e]at z;cases z
section
variable {P:Program}{w:World}{K:PySem.W.Frag}{mg:Str->Option Value}{base:Heap}{N:List Str}{qual:Str}{scope:Scope}{f:Addr}{cd:Value}{A:Around}{outer:List Env}{s:Shared}{H:Hp}{E:XK}
theorem XE.of:XE (cxOf (CXE P w) P w K mg base N qual scope f cd A outer s H E) E:=by
 intro pins σ H1 s1 x C I fl q;generalize hX:cxOf (CXE P w) P w K mg base N qual scope f cd A outer s H E=X at I fl;have hxe:X.xe=fun e s'=>wpAny (model P w) X.A (leaving X.env e) (fun _ s''=>CXE P w outer H s E e s'') (fun e' s''=>CXE P w outer H s E e' s'') s':=by subst hX;rfl
 have hfr:X.A.frames=some (X.env::X.outer):=by rw[I.ok.frames];subst hX;rfl
 have hst:X.stack=X.env::X.outer:=by subst hX;rfl
 have hlf:X.env.frame=some X.env.locals:=by subst hX;rfl
 have hex:X.ex=[]:=by subst hX;rfl
 have ho:X.outer=outer:=by subst hX;rfl
 have hs0:X.s₀=s:=by subst hX;rfl
 have hH0:X.H₀=H:=by subst hX;rfl
 have hP:X.prog=P:=by subst hX;rfl
 have hw:X.w=w:=by subst hX;rfl
 clear hX;subst ho hs0 hH0 hP hw;rw[hxe];obtain⟨oe,vs,v,n0,nH,he,hc,hd,h1,bk⟩:=fl;have core:∀(hid:List Addr) (h':Heap),(∀b∈hid,b=x∨(X.s₀.heap.get? b=none/\H1 b=none)∨b∈frs X.stack)->Heap.Left (PySem.W.hideAll s1.heap hid) (X.env::X.outer) x C s1.heap h' →
  CXE X.prog X.w X.outer X.H₀ X.s₀ E (.ref x) { s1 with heap:=h' }:=by
  intro hid h' hh hL;obtain⟨l1,l2,l3,l4⟩:=hL;have unhid:∀b,b∉hid->∀o,s1.heap.get? b=some o->h'.get? b=some o:=fun b nb o e=>l1 b o (PySem.W.hideAll_get _ e nb);have old:∀b o,X.s₀.heap.get? b=some o->b∉X.fs->b∉hid:=fun b o e nb hb=>by
   rcases hh b hb with rfl | ⟨z,_⟩ | z
   . rw[n0]at e;cases e
   . rw[e]at z;cases z
   . rcases List.mem_cons.mp (I.stkSub b z)with z | z
     . rw[z]at e;exact absurd (Heap.lt_size e) (Nat.not_lt.mpr I.ok.above)
     . exact nb z
  have trk:∀b u,H1 b=some u->b∉hid:=fun b u e hb=>by
   rcases hh b hb with rfl | ⟨_,z⟩ | z
   . rw[nH]at e;cases e
   . rw[z]at e;cases e
   . rw[I.stkFree b z]at e;cases e
  have frm:∀b∈X.fs,∃o,s1.heap.get? b=some o/\(∀vs,o.data≠.fields vs):=fun b hb=>(I.funs.mem hb).2;refine⟨x,C,H1,rfl,I.os,I.bare,⟨fun b o e n nb _=>?_,fun b o e n nb _=>?_,fun b o e n _=>?_,fun b o e _=>?_,I.base.tups,I.base.frzs,I.base.tbls⟩,fun a o e=>?_,?_,q⟩
  . exact unhid b (old b o e nb) o (I.base.keep b o e n nb (by rw[hex];simp))
  . obtain⟨sl,z⟩:=I.base.slot b o e n nb (by rw[hex];simp)
    obtain⟨o',z',nd⟩:=frm b nb;rw[z]at z';cases z';obtain⟨sl',z2⟩:=l4 b _ z nd;exact⟨sl',z2⟩
  . exact I.base.free b o e n (by rw[hex];simp)
  . by_cases hb:b∈X.fs
    . obtain⟨o',z',nd⟩:=frm b hb;obtain⟨sl',z2⟩:=l4 b _ z' nd;exact⟨_,z2⟩
    . obtain⟨o',z'⟩:=I.base.there b o e (by rw[hex];simp)
      exact⟨o',unhid b (old b o e hb) o' z'⟩
  . refine(I.hok a o e).stay (fun b u hb z=>unhid b ?_ u z) (fun _ z=>z) fun _ _ _ z=>z;rcases hb with rfl | hb
    . exact trk _ _ e
    . exact trk _ _ hb
  . obtain⟨oe',vs',T,oT,ts,t1,t2,t3,t4,t5,t6,t7,t8,t9⟩:=l3;have hfree:s1.heap.get? T=none∨(X.s₀.heap.get? T=none/\H1 T=none):=by
     by_cases hT:T∈hid
     . rcases hh T hT with z | z | z
       . exact absurd z t6
       . exact .inr z
       . have hz:T∈(X.env::X.outer).filterMap (·.frame):=by rw[←hst];exact z
         obtain⟨_,o,z1,z2⟩:=l2.mem hz;rw[t7]at z1;cases z1;exact absurd t8 (z2 _)
     . cases z:s1.heap.get? T with
       | none=>exact .inl rfl
       | some o=>rw[PySem.W.hideAll_get _ z hT]at t5;cases t5
    refine⟨oe',vs',T,oT,ts,n0,nH,t1,t2,t3,t4,t6,?_,?_,t7,t8,t9⟩
    . rcases hfree with z | z
      . exact I.gone hex z
      . exact z.1
    . rcases hfree with z | z
      . exact I.hok.untracked z
      . exact z.2
 have hin:∀hid:List Addr,(∀b∈frs X.stack,b∈hid)->s1.heap.FunFrames (PySem.W.hideAll s1.heap hid) (X.env::X.outer):=fun hid hs=>by
  refine PySem.W.funFrames_hide (hst▸I.stack) fun env hm a ha=>hs a ?_;rw[hst];exact List.mem_filterMap.mpr ⟨env,hm,ha⟩
 subst hc;rcases bk with rfl | ⟨T,oT,ts,v3,rfl,b1,b2,b3,b4,b5,b6⟩
 . refine wpAny_leaving_first (base:=PySem.W.hideAll s1.heap (x::frs X.stack)) hfr (hin _ fun b hb=>.tail _ hb) hlf he (fun b o z=>PySem.W.of_hideAll _ z) (PySem.W.hideAll_none _ (.head _)) hd h1 fun h' hL=>?_;exact core _ h' (fun b hb=>(List.mem_cons.mp hb).elim .inl fun z=>.inr (.inr z)) hL
 . refine leaving_any (base:=PySem.W.hideAll s1.heap (x::T::frs X.stack)) hfr (hin _ fun b hb=>.tail _ (.tail _ hb)) hlf he hd h1 (PySem.W.hideAll_none _ (.tail _ (.head _))) b1 b4 b5 b6
    (fun b o z=>PySem.W.of_hideAll _ z) (PySem.W.hideAll_none _ (.head _)) fun h' hL=>?_
   refine core _ h' (fun b hb=>?_) hL;rcases List.mem_cons.mp hb with z | z
   . exact .inl z
   . rcases List.mem_cons.mp z with rfl | z
     . exact .inr (.inl ⟨b2,b3⟩)
     . exact .inr (.inr z)
end
end L2
namespace L2
open PySem PySem.Spec PyProof.Rows
abbrev veB:List Value:=[.type "ValueError", .type "Exception", .type "BaseException", .type "object"]
def XCls (K:PySem.W.Frag)(C:Addr):Prop:=PySem.W.excIn K C veB "ValueError.__new__" = true
theorem XCls.obj {K:PySem.W.Frag}{h:Heap}{C:Addr}(x:XCls K C)(X:K.In h):∃bm Ns nm qn bs hdc sn sb ab cl dd k0 k1 k2 k3 k5 m,h.get? C=some (excClassObj nm qn C Ns bs bm hdc sn sb ab cl dd k0 k1 k2 k3 k5 "ValueError.__new__")/\h.Ns Ns m/\m "__init__" = none/\OwnTail h veB bm:=by
 unfold XCls PySem.W.excIn at x;cases e:K.lookup C with
 | none=>rw[e]at x;cases x
 | some ob =>
  have hC:=X _ _ e;rw[e]at x
  split at x
  . rename_i oe dd cd sl he;cases he
    split at x
    . rename_i C' bm k0 k1 k2 k3 n k5 hm hs;obtain⟨nm,bs,mro,ns,qn,hd,sn,sb,ab,cl,del⟩:=cd;obtain⟨l⟩:=sl;dsimp only at hm hs x;subst hm hs;simp only[Bool.and_eq_true,beq_iff_eq,Bool.not_eq_true']at x;obtain⟨⟨⟨⟨⟨y1,y2⟩,y3⟩,y4⟩,y5⟩,y6⟩:=x;subst y1 y2 y3;exact⟨bm,ns,nm,qn,bs,hd,sn,sb,ab,cl,dd,k0,k1,k2,k3,k5,_,hC,.of_isNs (PySem.W.isNs_of_in X y5),PySem.W.nsMap_none_of_in X y5 y6,PySem.W.tail_of_in X y4⟩
    . cases x
  . cases x
def tRaise (E:XK)(C:Addr)(t:TA):TS:=fun _ σ H=>t σ H fun us H1=>us.length≤1000/\E (.ref C) none H1
theorem ps_raise {X:Cx}{E:XK}{x:Str}{C:Addr}{e₀:Expr}{rest:List Expr}{t:TA}{np cpos pos:Pos}(hx:XE X E)(hX:X.ex=[])(hc:X.calm=true)(hg:Gl X x)(hm:X.mg x=some (.ref C))(hC:XCls X.K C)(ha:PA X (e₀::rest) t)(he:starEach (e₀::rest) X.env=(false,eval e₀ X.env)::starEach rest X.env:=by rfl)(hpl:(backTo cpos (starEach rest X.env)).any (·.1)=false:=by rfl)(hdb:(x == ("__debug__" : Str))=false:=by decide) :
 PS X (.Raise (some (.Call (.Name x np) (e₀::rest) [] cpos)) none pos) (tRaise E C t):=by
 intro pins s σ H D I h;obtain⟨bm,Ns,nm,qn,bs,hdc,sn,sb,ab,cl,dd,k0,k1,k2,k3,k5,m,hC0,hN0,hni,hT0⟩:=hC.obj (K:=X.K) I.mod.kin;refine wpAny_Raise_call_subT (C:=C) (N:=Ns) (bm:=bm) (nm:=nm) (q:=qn) (bs:=bs) (hdct:=hdc) (sn:=sn) (sub:=sb) (ab:=ab) (col:=cl) (dd:=dd) (k0:=k0) (k1:=k1) (k2:=k2) (k3:=k3) (k5:=k5) (mN:=m)
  F.excBase_ValueError (hT0.hasType F.excBase_ValueError.hasBase) (I.ok.hd hc) ?_ hni (bj I hg hm ⟨rfl,?_⟩ hdb)
 . rw[he];show(false||(backTo cpos (starEach rest X.env)).any (·.1))=false;rw[hpl];rfl
 . have q:=ha cpos pins s σ H _ I h;rw[he]at q⊢;refine Calls.evalArgs_plain (thn q fun us s2 z=>?_);obtain⟨vs,H1,I1,r,hlen,hE⟩:=z;refine⟨rfl,?_,I1.bk _ _ hC0,hN0.keeps I1.bk,hT0.keeps I1.bk,fun h' e hmade=>?_⟩
   . rw[←r.length];have:(1000:Nat)≤sizeLine:=by decide
     exact Nat.le_trans hlen this
   . obtain⟨t0,ht,_,_⟩:=hmade.there;refine hx pins σ H1 _ e (.ref C) (I1.kept hmade.keeps) ?_ hE;exact⟨_,_,.none,I1.gone hX hmade.new,I1.hok.untracked hmade.new,ht,rfl,rfl,rfl,.inl rfl⟩
end L2
namespace L2
open PySem PySem.Spec PyProof.Rows
theorem Un.flown {P:Program}{w:World}{fs hid:List Addr}{H H':Hp}{h h1 h2:Heap}(u:Un fs [] H H' h h1)(hok:HOk P w H' h1)(hh:∀b∈hid,(h.get? b=none/\H' b=none)∨(b∈fs/\H' b=none))(hf:∀b∈fs,∃o,h1.get? b=some o/\∀vs,o.data≠.fields vs)(st:(PySem.W.hideAll h1 hid).StaysIn h2)(sl:h1.UpToSlots h2):Un fs [] H H' h h2/\HOk P w H' h2:=by
 have kp:∀b,b∉hid->∀o,h1.get? b=some o->h2.get? b=some o:=fun b nb o e=>st b o (PySem.W.hideAll_get _ e nb);have old:∀b o,h.get? b=some o->b∉fs->b∉hid:=fun b o e nb hb=>by
  rcases hh b hb with⟨z,_⟩ | ⟨z,_⟩
  . rw[e]at z;cases z
  . exact nb z
 have trk:∀b v,H' b=some v->b∉hid:=fun b v e hb=>by
  rcases hh b hb with⟨_,z⟩ | ⟨_,z⟩
  . rw[z]at e;cases e
  . rw[z]at e;cases e
 refine⟨⟨fun b o e n nb _=>kp b (old b o e nb) o (u.keep b o e n nb (by simp)),fun b o e n nb _=>?_,u.free,fun b o e _=>?_,u.tups,u.frzs,u.tbls⟩,fun a o e=>?_⟩
 . obtain⟨l1,z⟩:=u.slot b o e n nb (by simp)
   obtain⟨o',z',nd⟩:=hf b nb;rw[z]at z';cases z';obtain⟨l2,z2⟩:=sl b _ z nd;exact⟨l2,z2⟩
 . by_cases hb:b∈fs
   . obtain⟨o',z',nd⟩:=hf b hb;obtain⟨l2,z2⟩:=sl b _ z' nd;exact⟨_,z2⟩
   . obtain⟨o',z'⟩:=u.there b o e (by simp)
     exact⟨o',kp b (old b o e hb) o' z'⟩
 . refine(hok a o e).stay (fun b v hb z=>kp b ?_ v z) (fun _ z=>z) fun _ _ _ z=>z;rcases hb with rfl | hb
   . exact trk _ _ e
   . exact trk _ _ hb
abbrev Cx.suite (X:Cx)(x:Addr):Cx:={ X with A:=X.A.mark (some (.ref x)),calm:=false,xe:=fun _ _=>False }
section
variable {X:Cx}{pins:List (Addr×Obj)}{σ:St}{H:Hp}{s:Shared}{x:Addr}
theorem Inv.suite (I:Inv X pins σ H s)(x:Addr):Inv (X.suite x) pins σ H s:=
 have ok:=I.ok
 ⟨⟨ok.mod,ok.kind,ok.glob,ok.blt,ok.above,ok.inj,ok.has,ok.cab,(fun z=>nomatch z),ok.frames,ok.stk,ok.exf,ok.bs,ok.bsz,ok.noex,ok.exfs,ok.funs,ok.frf⟩,I.os,I.bare,I.base,I.loc,I.cell,I.free,I.freeC,I.pin,I.hok,I.len⟩
theorem Inv.unsuite (ok:X.Ok)(I:Inv (X.suite x) pins σ H s):Inv X pins σ H s:=⟨ok,I.os,I.bare,I.base,I.loc,I.cell,I.free,I.freeC,I.pin,I.hok,I.len⟩
theorem name_gone {M:Model}{A:Around}{E:Value->Shared->Prop}{i:Nat}{n:Str}{pos:Pos}{Q:Unit->Shared->Prop}(I:Inv X pins σ H s)(hN:X.N.Nodup)(hi:X.N[i]? = some n)(hk:X.env.scope.names.lookup n=some .local)
 (h:∀s',Inv X pins (σ.set i none) H s'->Heap.SameBut X.env.locals s.heap s'.heap->Q () s'):wpAny M A (do bindName X.env n .none;unbindBehindTheSuite X.env n pos) Q E s:=by
 obtain⟨m,hn,hl⟩:=id I.loc;have cne:=I.cne;refine wpAny_nameGoes_keeps hk hn (by rw[I.ok.kind];rfl) fun h' v hn' hs=>?_
 obtain⟨oL,_,_,hoL,_⟩:=id hn;have neL:∀b o,X.s₀.heap.get? b=some o->b≠X.env.locals:=fun b o e=>Nat.ne_of_lt (Nat.lt_of_lt_of_le (Heap.lt_size e) I.ok.above);refine h _ ⟨I.ok,I.os,I.bare,⟨fun b o e n hb hx=>?_,fun b o e n hb hx=>?_,I.base.free,fun b o e hx=>?_,I.base.tups,I.base.frzs,I.base.tbls⟩,⟨_,hn',fun j y v' e1 e2 e3=>?_⟩,fun y c e=>?_,I.free,I.freeC,fun p hp=>?_,fun b ob e=>?_,by simpa using I.len⟩ hs
 . exact(hs.2 b (neL b o e)).trans (I.base.keep b o e n hb hx)
 . obtain⟨sl,e1⟩:=I.base.slot b o e n hb hx;exact⟨sl,(hs.2 b (neL b o e)).trans e1⟩
 . obtain⟨o',e1⟩:=I.base.there b o e hx;exact⟨o',(hs.2 b (neL b o e)).trans e1⟩
 . have hji:j≠i:=fun z=>by
    subst z;have hiσ:j < σ.length:=by rw[I.len];exact(List.getElem?_eq_some_iff.mp hi).1
    rw[List.getElem?_set_self hiσ]at e2;cases e2
   rw[List.getElem?_set_ne (Ne.symm hji)]at e2;obtain⟨u',r',q⟩:=hl j y v' e1 e2 e3;refine⟨u',r',?_⟩;rcases q with⟨k,e⟩ | ⟨k,c,e,z⟩
   . have:y≠n:=fun e=>hji (cc hN e1 (e▸hi));exact .inl ⟨k,by simp[this,e]⟩
   . exact .inr ⟨k,c,e,z.sameBut hs (cne y c e)⟩
 . obtain⟨w',z⟩:=I.cell y c e;exact⟨w',z.sameBut hs (cne y c e)⟩
 . obtain⟨e,n,ne,nf,d⟩:=I.pin p hp;exact⟨(hs.2 p.1 ne).trans e,n,ne,nf,d⟩
 . refine(I.hok b ob e).stay (fun c w' hc q=>(hs.2 c ?_).trans q) (fun _ q=>q) fun _ _ _ q=>q;rintro rfl;rcases hc with rfl | hc
   . rw[I.free]at e;cases e
   . rw[I.free]at hc;cases hc
end
def exO (x:Addr)(C:Value):HO:=.ext fun h=>∃o vs,h.get? x=some o/\o.cls=C/\o.data = .fields vs
theorem Inv.keepExc {X:Cx}{pins:List (Addr×Obj)}{σ:St}{H:Hp}{s:Shared}{x:Addr}{C:Value}{o:Obj}{vs:Array Value}(I:Inv X pins σ H s)(n0:X.s₀.heap.get? x=none)(nH:H x=none)(ho:s.heap.get? x=some o)(hc:o.cls=C)(hd:o.data = .fields vs)(hp:∀p∈X.pn++pins,p.1≠x):Inv X pins σ (upd H x (exO x C)) s:=by
 have ne:∀b u,H b=some u->b≠x:=fun b u e z=>by rw[z,nH]at e;cases e
 have hL:X.env.locals≠x:=fun z=>by
  obtain⟨m,⟨o',es,ep,ho',hd',_⟩,_⟩:=I.loc;rw[z,ho]at ho';cases ho';rw[hd]at hd';cases hd'
 refine⟨I.ok,I.os,I.bare,⟨I.base.keep,I.base.slot,fun b o' e n hx=>?_,I.base.there,fun b xs e=>?_,fun b o' u e=>?_,fun b ps e=>?_⟩,I.loc,I.cell,?_,fun y c e=>?_,fun p q=>?_,fun b u e=>?_,I.len⟩
 . rw[am (fun z=>by rw[z,n0]at e;cases e)]
   exact I.base.free b o' e n hx
 . have q:=I.base.tups b xs e;rw[am (ne _ _ q)];exact q
 . have q:=I.base.frzs b o' u e;rw[am (ne _ _ q)];exact q
 . obtain⟨more,q⟩:=I.base.tbls b ps e;exact⟨more,by rw[am (ne _ _ q)];exact q⟩
 . rw[am hL];exact I.free
 . rw[am (fun z=>by
    obtain⟨v,o',ho',hd'⟩:=I.cell y c e;rw[z,ho]at ho';cases ho';rw[hd]at hd';cases hd')]
   exact I.freeC y c e
 . obtain⟨p1,p2,p3⟩:=I.pin p q;exact⟨p1,by rw[am (hp p q)];exact p2,p3⟩
 . by_cases hb:b=x
   . subst hb;rw[ac]at e;cases e;exact⟨⟨o,vs,ho,hc,hd⟩,⟨o,ho⟩,fun h1 h2 ⟨o1,vs1,a,b',c⟩ k=>⟨o1,vs1,k _ a,b',c⟩⟩
   . rw[am hb]at e;exact(I.hok b u e).stay (fun _ _ _ z=>z) (fun c z=>by rw[am (ne _ _ z)];exact z) fun c xs _ z=>by rw[am (ne _ _ z)];exact z
def tTry (K:PySem.W.Frag)(CT:Addr)(i j:Nat)(sp:Sp)(dvs:List V)(t:TA):TS:=fun D σ H=>t σ H fun vs H1=>sp (vs++dvs) H1 (fun _ H2=>D.nx σ H2)
 (fun C _ H2=>PySem.W.exmOne K C (.ref CT)=some true/\∀x,H2 x=none->D.nx (((σ.set i (some (.ref x))).set j (some (.ref x))).set i none) (upd H2 x (exO x C)))
theorem ps_try {X:Cx}{k:Nat}{f CT:Addr}{fd:FuncData}{ps:List Str}{sp:Sp}{dvs:List V}{ds:List Value}{x0 cT n y:Str}{p cpos xpos tp yp np ap hpos pos:Pos}{e:Expr}{es:List Expr}{t:TA}{i j:Nat}(F:FnOk X.prog X.w X.K X.mg X.base (CXE X.prog X.w) k f fd ps sp)(hr:Room k X.A)(hg:Gl X x0)(hm:X.mg x0=some (.ref f))(hk:PySem.W.keepIn X.K (.ref f)=true)(hb:Binds X.K fd ps ds)(hd:Vals dvs ds)(ha:PA X.nox (e::es) t)(hgT:Gl X cT)(hmT:X.mg cT=some (.ref CT))(hst:X.stack=X.env::X.outer)(hlf:X.env.frame=some X.env.locals)(hX:X.ex=[])(hN:X.N.Nodup)(hi:X.N[i]? = some n)(hn:X.env.scope.names.lookup n=some .local)(hj:X.N[j]? = some y)(hy:X.env.scope.names.lookup y=some .local)(hdb:(x0 == ("__debug__" : Str))=false:=by decide)(he:starEach (e::es) X.env=(false,eval e X.env)::starEach es X.env:=by rfl)(hpl:(backTo cpos (starEach es X.env)).any (·.1)=false:=by rfl)
 (hsw:swapsWith (.Call (.Name x0 p) (e::es) [] cpos) none xpos.line X.env=pure false:=by rfl) (hdT:(cT == ("__debug__" : Str))=false:=by decide) (hdn:(n == ("__debug__" : Str))=false:=by decide) (hcn:(n == ("__classdict__" : Str))=false:=by decide)
 (hs2:swapsWith (.Name n np) (some (.Name y yp)) ap.line X.env=pure false:=by rfl) :
 PS X (.Try [.Expr (.Call (.Name x0 p) (e::es) [] cpos) xpos] [.ExceptHandler (some (.Name cT tp)) (some n) [.Assign [.Name y yp] (.Name n np) ap] hpos] [] [] pos) (tTry X.K CT i j sp dvs t):=by
 intro pins s σ H D I h;refine wpAny_Try_except (wpAny_execs_cons (wpAny_Expr_any ?_ I.quiet hsw));refine wpAny_Call_Name_kw (bj I hg hm ?_ hdb);refine PySem.W.callWith_K (h₀:=X.base) I.ok.mod.kin hk (wpAny_mono (ha cpos pins s σ H _ (I.wish _) h) (fun us s1 z=>?_) (fun _ _ z=>False.elim z)) he hpl;obtain⟨vs,H1,I1',r,q⟩:=z;have I1:=I1'.unwish;clear I1';have r2:Vals (vs++dvs) (us++ds):=r.append hd;have hl:(us++ds).length=ps.length:=by rw[←r2.length];exact F.len _ _ _ _ q
 refine⟨I1.kIn,wpAny_call (codeAny_mono (F.run X.A X.stack s1 H1 ⟨us,[]⟩ (us++ds) (vs++dvs) _ _ hr I1.env0 (hb s1 us I1.kIn hl) r2 q) fun rr s' hq=>?_)⟩;cases rr with
 | ok fl =>
  cases fl with
  | ret u =>
   obtain⟨v,H2,I2,rv,q2⟩:=I1.after hq;exact wpAny_execs_nil (wpAny_execs_nil ⟨σ,H2,I2,q2⟩)
  | next=>exact False.elim hq
  | brk=>exact False.elim hq
  | cont=>exact False.elim hq
 | error ev =>
  obtain⟨x,C,H2,rfl,os,bare,un,hok,fl,hcls,hnx⟩:=hq;obtain⟨oe,fs,T,oT,ts,n1,nH,hx,hc,hdx,hv1,hTx,nT,nTH,hT,hdT',hts⟩:=fl;have hv0:∃a0,fs[0]? = some a0:=by
   have:1 < fs.size:=(Array.getElem?_eq_some_iff.mp hv1).1;exact⟨fs[0],Array.getElem?_eq_some_iff.mpr ⟨by omega,rfl⟩⟩
  obtain⟨a0,hv0⟩:=hv0;have I2:Inv X pins σ H2 s':=I1.call' (ch:=[]) os un hok bare (fun b z=>absurd z (by simp))
  have hfr:X.A.frames=some (X.env::X.outer):=by rw[I.ok.frames,hst]
  have hin:s'.heap.FunFrames (PySem.W.hideAll s'.heap (x::T::frs X.stack)) (X.env::X.outer):=by
   refine PySem.W.funFrames_hide (hst▸I2.stack) fun env hm' a ha'=>.tail _ (.tail _ ?_);rw[hst];exact List.mem_filterMap.mpr ⟨env,hm',ha'⟩
  have hfl:Heap.FlyingW (PySem.W.hideAll s'.heap (x::T::frs X.stack)) (X.env::X.outer) x C a0 s'.heap:=
   ⟨fun b o z=>PySem.W.of_hideAll _ z,PySem.W.hideAll_none _ (.head _),hin,oe,fs,T,oT,ts,hx,⟨hc,hv0⟩,hdx,hv1,PySem.W.hideAll_none _ (.tail _ (.head _)),hTx,hT,hdT',hts⟩
  have land:∀h',Heap.FlyingW (PySem.W.hideAll s'.heap (x::T::frs X.stack)) (X.env::X.outer) x C a0 h'->s'.heap.UpToSlots h'->Inv X pins σ H2 { s' with heap:=h' }:=fun h' hf' hs'=>by
   obtain⟨u',hok'⟩:=un.flown hok (hid:=x::T::frs X.stack) (fun b hb'=>by
    rcases List.mem_cons.mp hb' with rfl | z
    . exact .inl ⟨n1,nH⟩
    . rcases List.mem_cons.mp z with rfl | z
      . exact .inl ⟨nT,nTH⟩
      . exact .inr ⟨z,I2.stkFree b z⟩) (fun b hb'=>(I2.stack.mem hb').2) hf'.1 hs'
   exact I1.call' (s':={ s' with heap:=h' }) (ch:=[]) os u' hok' bare (fun b z=>absurd z (by simp))
  refine wpAny_looks_onW (L:=X.env.locals) hfr hlf hfl fun h4 held4 sm4=>?_;refine wpAny_landsW held4 fun h5 fl5 sm5=>?_;have J5:=land h5 fl5 (sm4.trans sm5);obtain⟨ob5,hob5,hoc5⟩:=fl5.there;have LT:∀M:Model,PySem.W.Looks M h5 (typeOf (.ref x)) C:=fun M=>hoc5▸(PySem.W.Looks.ld hob5).andThen .now;refine wpAny_handleBy_cons (codeAny_handlers_test (bj (X:=X.suite x) (J5.suite x) hgT hmT ?_ hdT)) (by intro z;cases z)
  refine PySem.W.exm_one J5.kIn (LT _) hcls _ _ _ _ (fun _ _ z=>z) ?_;refine codeAny_handlers_suite_as ?_;refine lands_againW fl5 fun h6 fl6 sm6=>?_;have J6:=land h6 fl6 ((sm4.trans sm5).trans sm6);obtain⟨oe6,vs6,hx6,hc6,hd6,_⟩:=fl6.first;have J7:=(J6.keepExc (I1.gone hX n1) nH hx6 hc6 hd6 (fun p hp z=>by
   have:=(I1.pin p hp).1;rw[z,n1]at this;cases this)).suite x
  refine bA (X:=X.suite x) (v:=.ref x) J7 hN hi (.inl hn) rfl (fun s8 I8=>?_) (.inr hn);have hsσ:(σ.set i (some (V.ref x)))[i]? = some (some (V.ref x)):=List.getElem?_set_self (by rw[I.len];exact(List.getElem?_eq_some_iff.mp hi).1)
  refine wpAny_mono (ae (X:=X.suite x) (aD (pos:=ap) hN hj (.inl hy) (dk hi (.inl hn) hdn hcn) hs2 (.inr hy)) ay pins s8 _ _ { nx:=fun σ' H'=>σ'=(σ.set i (some (V.ref x))).set j (some (V.ref x))/\H'=upd H2 x (exO x C),rt:=fun _ _=>False } I8 ?_) (fun fl s9 z=>?_) (fun _ _ z=>False.elim z)
  . exact⟨_,hsσ,rfl,rfl⟩
  . cases fl with
    | next =>
     obtain⟨σ',H',I9,rfl,rfl⟩:=z;exact name_gone (I9.unsuite I.ok) hN hi hn fun s10 I10 _=>⟨_,_,I10,hnx x nH⟩
    | brk=>obtain⟨_,_,_,z⟩:=z;exact False.elim z
    | cont=>obtain⟨_,_,_,z⟩:=z;exact False.elim z
    | ret u=>obtain⟨_,_,_,_,_,z⟩:=z;exact False.elim z
end L2
namespace L2
open PySem PySem.Spec PyProof.Rows PySem.W Builtin Builtin.ObjectAttr Builtin.Getset_descriptor
structure XIs (K:PySem.W.Frag) (C:Addr):Prop where
 ga:PySem.W.findIn K (.ref C) "__getattribute__" = some (some (.builtin "BaseException.__getattribute__"))
 gn:PySem.W.findIn K (.ref C) "__getattr__" = some none
 cl:PySem.W.findIn K (.ref C) "__class__" = some (some (.builtin "object.__class__"))
 mo:PySem.W.mroIn K C (.type "object")=some true
 mb:PySem.W.mroIn K C (.type "BaseException")=some true
section
variable {prog:Program}{w:World}{A:Around}{E:Value->Shared->Prop}{hh:Heap}{g:Array GenState}{dr:Drawn}{t:Nat}{os:OsState}{x C:Addr}{ob:Obj}{K:PySem.W.Frag}
theorem bG {M:Model}(hx:hh.get? x=some ob)(hc:ob.cls = .ref C):Looks M hh (typeOf (.ref x)) (.ref C):=hc▸(Looks.ld hx).andThen .now
theorem exc_cget {tp:Value}{R:Result->Shared->Prop}(X:K.In hh)(Z:XIs K C)(hx:hh.get? x=some ob)(hc:ob.cls = .ref C)(hq:R (.ok (.ret (.ref C))) ⟨hh,g,dr,t,os⟩):codeAny (model prog w) A (.call (.builtin "getset_descriptor.__get__") ⟨[.builtin "object.__class__", .ref x,tp],[]⟩) R ⟨hh,g,dr,t,os⟩:=by
 have y1:=bG (M:=model prog w) hx hc;have y2:=looks_mroIn (M:=model prog w) X Z.mo;refine codeAny_call_builtin F.slot_gs_get.plain F.entry_gs_get (F.slot_gs_get.check _ _ _ _ _ _ _ _ F.typeOf_object_class (F.args_gs_get _ _ _) ?_);unfold Builtin.«getset_descriptor.__get__» descrGet;rw[dga_obj];refine wpAny_bind (wpAny_pure ?_);unfold descrGetter descrCheckInstance descrNameAndClass isInstance;simp only[KF.owner_class]
 repeat lk
 refine⟨Code.quiet_builtin _ (by decide +kernel),codeAny_builtin F.entry_object_class ?_⟩
 unfold Builtin.«object.__class__» shownTypeOf
 repeat lk
 exact hq
theorem exc_entry {tk:Tok}{Q:Fin->Shared->Prop}(X:K.In hh)(Z:XIs K C)(hx:hh.get? x=some ob)(hc:ob.cls = .ref C)(hq:Q (.done (.ret (.ref C))) ⟨hh,g,dr,t,os⟩):wpAny (model prog w) A (Builtin.«object.__getattribute__» ⟨[.ref x,.str "__class__" tk],[]⟩) Q E ⟨hh,g,dr,t,os⟩:=by
 have y1:=bG (M:=model prog w) hx hc;have y2:=looks_findIn (M:=model prog w) X Z.cl;have y5:=F.typeOf_object_class;have y6:=F.slot_gs_get.lookup;have y7:=F.slot_gs_set.lookup
 repeat (any_goals (first | assumption | with_reducible refine Looks.at (by assumption) ?_ | wp_step))
 refine exc_cget X Z hx hc ?_
 repeat (any_goals (first | assumption | lk | wp_step))
theorem exc_check {nameV:Value}{M:Model}{Q:Unit->Shared->Prop}(X:K.In hh)(Z:XIs K C)(hx:hh.get? x=some ob)(hc:ob.cls = .ref C)(hq:Q () ⟨hh,g,dr,t,os⟩):wpAny M A (checkBuiltinCall "BaseException.__getattribute__" ⟨[.ref x,nameV],[]⟩) Q E ⟨hh,g,dr,t,os⟩:=by
 have z1:builtinKind "BaseException.__getattribute__" = some .slot:=by decide +kernel
 have z2:splitId "BaseException.__getattribute__" = some ("BaseException", "__getattribute__"):=by decide +kernel
 have y1:=bG (M:=M) hx hc;have y2:=looks_mroIn (M:=M) X Z.mb;have z3:=F.args_bexc_ga (.ref x) nameV;simp only[checkBuiltinCall,z1,z2];refine wpAny_bind ?_;unfold isInstance
 repeat (first | lk | wp_step)
 exact hq
theorem exc_call {tk:Tok}{R:Result->Shared->Prop}(X:K.In hh)(Z:XIs K C)(hx:hh.get? x=some ob)(hc:ob.cls = .ref C)(hq:R (.ok (.ret (.ref C))) ⟨hh,g,dr,t,os⟩):codeAny (model prog w) A (.call (.builtin "BaseException.__getattribute__") ⟨[.ref x,.str "__class__" tk],[]⟩) R ⟨hh,g,dr,t,os⟩:=
 codeAny_call_builtin F.attrBase_ValueError.ga.plain F.entry_bexc_ga (exc_check X Z hx hc (exc_entry X Z hx hc hq))
theorem exc_by {tk:Tok}{Q:Value->Shared->Prop}(X:K.In hh)(Z:XIs K C)(hx:hh.get? x=some ob)(hc:ob.cls = .ref C)(hq:Q (.ref C) ⟨hh,g,dr,t,os⟩):wpAny (model prog w) A (getAttrBy (.ref x) (.str "__class__" tk) false) Q E ⟨hh,g,dr,t,os⟩:=by
 have f3:=F.attrBase_ValueError.ga.bind (.ref x);have y1:=bG (M:=model prog w) hx hc;have y2:=looks_findIn (M:=model prog w) X Z.ga;have y3:=looks_findIn (M:=model prog w) X Z.gn;have z2:(Value.builtin "BaseException.__getattribute__" == Value.builtin "object.__getattribute__")=false:=by decide +kernel
 have z1:(onTheHeap (Value.ref C)&&Value.builtin "BaseException.__getattribute__" == Value.builtin "object.__getattribute__")=false:=by rw[z2];rfl
 repeat (any_goals (first | assumption | with_reducible refine Looks.at (by assumption) ?_ | wp_step))
 refine exc_call X Z hx hc ?_
 repeat (any_goals (first | assumption | lk | wp_step))
theorem exc_attr {Q:Option Value->Shared->Prop}(X:K.In hh)(Z:XIs K C)(hx:hh.get? x=some ob)(hc:ob.cls = .ref C)(hq:Q (some (.ref C)) ⟨hh,g,dr,t+1,os⟩):wpAny (model prog w) A (getAttr? (.ref x) "__class__") Q E ⟨hh,g,dr,t,os⟩:=by
 unfold getAttr? getAttrBy?
 repeat (any_goals (first | assumption | with_reducible apply exc_by X Z hx hc | wp_step))
theorem cf (Z:XIs K C):KitX K (.ref x) (.ref C) (fun h=>∃o vs,h.get? x=some o/\o.cls = .ref C/\o.data = .fields vs) where
 ty:=fun M h _ ⟨o,_,ho,hc,_⟩=>bG ho hc
 it:=fun M h X _=>by
  have z:=Z.mo;unfold mroIn at z;obtain⟨cd,e,_⟩:=Option.bind_eq_some_iff.mp z;unfold clsIn at e
  split at e
  . rename_i ho;intro A' Q' E' s' k q;unfold isType loadHead;exact wpAny_bind (wpAny_loadPart (k _ _ (X _ _ ho)) (wpAny_pure q))
  . cases e
 ne:=fun h tp dd its n sl X htp=>by
  refine Bool.eq_false_iff.mpr fun q=>?_;obtain rfl:C=tp:=Value.ref.inj (beq_iff_eq.mp q);have z:=Z.mo;unfold mroIn at z;obtain⟨cd,e,_⟩:=Option.bind_eq_some_iff.mp z;unfold clsIn at e
  split at e
  . rename_i ho;have z:=(X _ _ ho).symm.trans htp;cases z
  . cases e
 ca:=fun{prog w A E Q s} X ⟨o,_,ho,hc,_⟩ k=>by
  obtain⟨h,g,d,t,os⟩:=s;exact exc_attr X Z ho hc k
end
section
variable {X:Cx}
def rIsx (K:Frag):List V->Hp->VK->Prop:=fun xs H Q=>∃(x C:Addr) (y:V) (b:Bool),xs=[.ref x,y]/\H x=some (exO x (.ref C))/\XIs K C ∧
 ((∃D,y = .ref D/\kitOne K (.ref C) (.ref D)=some b)∨(∃n,y = .ty n/\kitOne K (.ref C) (.type n)=some b)∨(∃(p:Addr) (ds:List Addr),y = .ref p/\H p=some (.tup (ds.map V.ref))/\kitAny K (.ref C) (ds.map Value.ref)=some b))/\Q (.bl b) H
theorem ci:∀{ds:List Addr} {us:List Value},Vals (ds.map V.ref) us->us=ds.map Value.ref
 | [],_,.nil=>rfl
 | _::_,_,.cons r t=>by
  cases r;rw[ci t];rfl
theorem bf:bR X (.builtin "isinstance") (rIsx X.K):=by
 intro pins s σ H xs us Q I r h;obtain⟨x,C,y,b,rfl,hx,Z,hy,q⟩:=h;obtain⟨u,w',rfl,ru,rw'⟩:=dg r;cases ru;have ho:=(I.hok x _ hx).1;rcases hy with⟨D,rfl,e⟩ | ⟨n,rfl,e⟩ | ⟨p,ds,rfl,hp,e⟩
 . cases rw';exact kia_one (cf (x:=x) Z) I.kIn ho e (by intro z;cases z) fun tk=>⟨.bl b,H,I.tok tk,rfl,q⟩
 . cases rw';exact kia_one (cf (x:=x) Z) I.kIn ho e (by intro z;cases z) fun tk=>⟨.bl b,H,I.tok tk,rfl,q⟩
 . cases rw';obtain⟨_,its,rv,ob,htp,hcl,hdt⟩:=I.hok p _ hp;have ei:=ci rv;subst ei;obtain⟨c1,d1,e1,s1⟩:=ob;cases hcl;obtain⟨n1,hdt⟩:=hdt;cases hdt;exact kia_tup (cf (x:=x) Z) I.kIn ho htp e (by intro z;cases z) fun tk=>⟨.bl b,H,I.tok tk,rfl,q⟩
end
end L2
namespace L2
open PySem PySem.Spec PyProof.Rows
section
variable {P:Program}{w:World}{K:PySem.W.Frag}{mg:Str->Option Value}{base:Heap}{k:Nat}{f:Addr}{fd:FuncData}{ps:List Str}{sp sp':Sp}{CX:CXT}
theorem Fun.okE {x qual:Str}{st:Stmt}{N:List Str}(F:Fun K x qual st f fd)(S:FnScope N ps (a7 st))(len:∀vs H Q E,sp vs H Q E->vs.length=ps.length)(hbody:∀(cdv:Value) (A:Around) (outer:List Env) (s:Shared) (H:Hp) (vs:List V) (Q:VK) (E:XK),Room k (A.deeper (envOfC qual (a7 st) s.heap.objs.size f cdv))->sp vs H Q E->∃t,PSs (cxOf (CXE P w) P w K mg base N qual (a7 st) f cdv A outer s H E) (a8 st) t/\t { nx:=fun _ H'=>Q .non H',rt:=Q } (bB N vs) H):FnOk P w K mg base (CXE P w) (k+1) f fd ps sp:=by
 obtain⟨oc,od,kV,doc,pm,an,cdv,ct,osl,rfl,lk,hcd⟩:=F.ex;exact fz lk hcd S len fun A outer s H vs Q E hr hsp=>hbody cdv A outer s H vs Q E hr hsp
end
theorem PS.nox {X:Cx}{st:Stmt}{t:TS}(h:PS X.nox st t):PS X st t:=fun pins s σ H D I hw =>
 wpAny_mono (h pins s σ H D (I.wish _) hw) (fun _ _ q=>q.unwish) fun _ _ z=>False.elim z
structure Err (K:PySem.W.Frag) (mg:Str->Option Value) (x:Str) (C:Addr):Prop where
 mg:mg x=some (.ref C)
 cls:XCls K C
 is:XIs K C
theorem err_mk {K:PySem.W.Frag}{h:Heap}{mg:Str->Option Value}{x:Str}{C:Addr}(X:K.In h)(G:h.Ns mainGlobals mg)(a:PySem.W.nsIn K mainGlobals x=some (some (.ref C)))(c:PySem.W.excIn K C veB "ValueError.__new__" = true)(f1:PySem.W.findIn K (.ref C) "__getattribute__" = some (some (.builtin "BaseException.__getattribute__")))(f2:PySem.W.findIn K (.ref C) "__getattr__" = some none)(f3:PySem.W.findIn K (.ref C) "__class__" = some (some (.builtin "object.__class__")))(f4:PySem.W.mroIn K C (.type "object")=some true)(f5:PySem.W.mroIn K C (.type "BaseException")=some true):Err K mg x C:=⟨PySem.W.mg_of X G a,c,f1,f2,f3,f4,f5⟩
end L2
namespace L2
open PySem PySem.Spec PyProof.Rows
theorem boot_VE:bootBuiltins "ValueError" = some (.type "ValueError"):=by first | kernel_rfl | decide +kernel
section
variable {X:Cx}
def rIndexV:V->List V->Hp->VK->Prop:=fun x vs H Q=>∃(l:Addr) (xs:List V) (y z:V) (j:Nat),x = .ref l/\vs=[y]/\H l=some (.lst xs)/\b0 y=true/\xs.all b0=true/\xs[j]? = some z/\eqV z y=true/\(∀m u,m < j->xs[m]? = some u->eqV u y=false)/\Q (.int (j:Nat)) H
theorem mt_indexV:MtM X "list.index" rIndexV:=by
 intro pins s σ H x vs v us Q I rx rv h;obtain⟨l,xs,y,zz,j,rfl,rfl,hH,fy,fx,hj,hjy,hno,q⟩:=h;cases rx;obtain⟨u,rfl,ru⟩:=rv.one;obtain⟨z,its,n,r,hl,e⟩:=I.lstM hH;have hlen:=r.length;have at':∀(m:Nat) (c:V),xs[m]? = some c->∃w,its[m]? = some w/\eqU y w=eqV c y:=fun m c hc=>by
  obtain⟨w,hw,rw'⟩:=r.get (i:=m) (x:=c) hc;exact⟨w,hw,cZ rw' (List.all_eq_true.mp fx c (List.mem_of_getElem? hc))⟩
 have hjn:j < xs.length:=(List.getElem?_eq_some_iff.mp hj).1;have hsz:its.toArray.size=xs.length:=by rw[List.size_toArray];omega
 have hit:∀(m:Nat) (hm:m < its.toArray.size) (c:V),xs[m]? = some c->eqU y its.toArray[m]=eqV c y:=fun m hm c hc=>by
  obtain⟨w,hw,ew⟩:=at' m c hc;obtain⟨_,e2⟩:=List.getElem?_eq_some_iff.mp hw;have:its.toArray[m]=w:=by simpa using e2
  rw[this];exact ew
 have hsmall:(j:Int) < 2 ^ 63 - 1:=by
  have:xs.length≤sizeLine:=z;rw[sizeLine_eq]at this;omega
 refine call_meets PySem.F.slot_list_index ⟨_,e,rfl⟩ PySem.F.entry_list_index (PySem.F.args_list_index_2 _ _) (SeqAt.list_indexAt l its.toArray n none #[] u (eqU y) j (by omega) hsmall (by rw[hit j (by omega) zz hj];exact hjy) fun m hm hlt=>?_) ⟨e,fun w hw=>bF ru fy r fx w (by simpa using hw),?_⟩
 . have hml:m < xs.length:=by omega
   rw[hit m hm xs[m] (List.getElem?_eq_getElem hml)];exact hno m _ hlt (List.getElem?_eq_getElem hml)
 . exact⟨.int _,H,I.tok _,⟨_,rfl⟩,q⟩
end
structure Nam (mg:Str->Option Value) (x:Str) (C:Addr):Prop where
 mg:mg x=some (.ref C)
end L2
namespace L2
open PySem PySem.Spec PyProof.Rows
section
variable {X:Cx}
end
end L2
namespace Tw
open PySem L2
section
variable {K:PySem.W.Frag}
theorem cU {D:Addr}{n:Nat}{lo:Int}{fv:Nat->V}{te:TE}{σ:St}{H:Hp}{Q:Hp->Prop}(hD:H D=none)(hl:n≤1000)(hs:∀(i:Nat),i < n->∀(H4:Hp) (Qv:VK),Same H H4->(∀H5,Same H4 H5->Qv (fv i) H5)->te (σ++[some (.int (lo+i))]) H4 Qv)(hq:∀H2,H2 D=some (.lst ((List.range n).map fv))->Same H H2->Q H2):∃W:Nat->Nat->List V->Hp->Prop,(∃m,W 0 m [] (upd H D (.lst [])))/\∀i m ys H2,W i m ys H2->H2 D=some (.lst ys)/\(((Itr lo n).stop i H2/\Q H2)∨((Itr lo n).go i H2/\∃N:List V->Hp->Prop,(∀ys' H',N ys' H'->∃m',m' < m/\W (i+1) m' ys' H')/\∀y H3,(Itr lo n).yld i H2 y H3->tYes (σ++[some y]) H3 fun c H4=>if c=true then te (σ++[some y]) H4 fun z H5=>H5 D=some (.lst ys)/\ys.length < sizeLine/\N (ys++[z]) (upd H5 D (.lst (ys++[z])))else N ys H4)):=by
 refine comp_range (fun i ys H2=>ys=(List.range i).map fv/\H2 D=some (.lst ys)/\Same H H2) (fun _ _ _ h=>h.2.1) ⟨rfl,ac,af hD⟩ ?_ ?_
 . rintro i ys H2 hi ⟨rfl,hD2,s2⟩;refine yesI (hs i hi H2 _ s2 fun H5 s5=>⟨s5 _ _ hD2,by rw[List.length_map,List.length_range];exact bt (by omega),by rw[List.range_succ,List.map_append];rfl,ac,fun b o e=>by rw[am (au e hD)];exact s5 b o (s2 b o e)⟩)
 . rintro ys H2 ⟨rfl,hD2,s2⟩;exact hq H2 hD2 s2
end
end Tw
namespace L2
open PySem PySem.Spec PyProof.Rows
section
variable {X:Cx}
end
end L2
namespace Tw
open PySem L2
section
variable {K:PySem.W.Frag}
end
end Tw
namespace L2
open PySem PySem.Spec PyProof.Rows
section
variable {X:Cx}
end
end L2
namespace L2
open PySem PySem.Spec PyProof.Rows
section
variable {X:Cx}
end
end L2
namespace L2
open PySem PySem.Spec PyProof.Rows
section
variable {X:Cx}
end
end L2
namespace L2
open PySem PySem.Spec PyProof.Rows
open PySem.Builtin PySem.Builtin.Str
section
variable {X:Cx}
theorem cK:∀{ys:List Str} {its:List Value},Vals (ys.map V.str) its->∃l:List (Str×Tok),its=strValues l/\l.map (·.1)=ys
 | [],_,.nil=>⟨[],rfl,rfl⟩
 | y::ys,_,.cons h r=>by
  obtain⟨t,e⟩:=h;obtain⟨l,e1,e2⟩:=cK r;subst e e1 e2;exact⟨(y,t)::l,rfl,rfl⟩
def rJoin (K:PySem.W.Frag):V->List V->Hp->VK->Prop:=fun x vs H Q=>∃a p ys,x = .str a/\vs=[.ref p]/\SqL K H p (ys.map V.str)/\JoinOk a ys=true/\Q (.str (Str.join a ys)) H
theorem mt_joinK (K:PySem.W.Frag)(hK:X.K=K:=by rfl):MtM X "str.join" (rJoin K):=by
 subst hK;intro pins s σ H x vs v us Q I rx rv h;obtain⟨a,p,ys,rfl,rfl,hp,ok,q⟩:=h;obtain⟨t,rfl⟩:=rx;obtain⟨u,rfl,ru⟩:=rv.one;cases ru;obtain⟨its,r,pl,_⟩:=I.list hp;obtain⟨l,rfl,e⟩:=cK r;refine SC.join pl.isList e ok fun t' k=>⟨.str (Str.join a ys),H,I.tok _,⟨t',?_⟩,q⟩;rw[show Txt.join a ys=Str.join a ys from StrLaws.glued_eq_join a ys]
end
end L2
namespace Tw
open PySem L2
section
variable {K:PySem.W.Frag}
end
end Tw
namespace Tw
open PySem L2 PySem.StrLaws PySem.Builtin.Str PySem.NumText
theorem join_ok {sep:Str}{ps:List Str}{B:Nat}(hB:∀y∈ps,y.length≤B)(h:ps.length*B+ps.length*sep.length≤16777216):JoinOk sep ps=true:=by
 unfold JoinOk;rw[joinFits hB h];rfl
end Tw
namespace Tw
open PySem L2 PySem.StrLaws
end Tw
namespace L2
open PySem PySem.Spec PyProof.Rows
section
variable {X:Cx}{elt iter:Expr}{ifs:List Expr}{scope:Scope}{pos px:Pos}{x:Str}{wi:TI}{tf:TT}{te:TE}
end
end L2
namespace Tw
open PySem L2 PySem.StrLaws PySem.Builtin.Str PySem.NumText
end Tw
namespace Tw
open PySem L2 PySem.StrLaws PySem.Builtin.Str PySem.NumText
end Tw
namespace Tw
open PySem
end Tw
namespace L2
open PySem PySem.Spec PyProof.Rows
open PySem.Builtin PySem.Builtin.Str
section
variable {X:Cx}
theorem idx_len (lo hi:Option Int)(n:Nat):(strSliceIndices lo hi 1 n).length≤n:=by
 unfold strSliceIndices sliceRange;simp only[show(1:Int) > 0 from by decide,if_true]
 rw[List.length_map,List.length_range];cases lo<;>cases hi<;>simp only<;>omega
theorem cp (a:Str)(lo hi:Option Int):(StrLaws.sliceText a lo hi).length≤a.length:=by
 unfold StrLaws.sliceText
 split
 . exact Nat.le_refl _
 . show(((strSliceIndices lo hi 1 a.length).filterMap (a.cps[·]?)).toArray).size≤_;rw[List.size_toArray];exact Nat.le_trans (List.length_filterMap_le _ _) (idx_len lo hi _)
def rSlA:V->Option Int->Option Int->Hp->VK->Prop:=fun x lo hi H Q=>∃(a:Str),x = .str a/\a.length≤sizeLine/\Q (.str (StrLaws.sliceText a lo hi)) H
theorem aU:SlR X rSlA:=by
 intro pins s σ H x v vl vu lo hi sl Q I rx hs pl pu h;obtain⟨a,rfl,hz,q⟩:=h;obtain⟨t,rfl⟩:=rx;refine⟨"str", _,F.slot_str_getitem.lookup,typeIs_str _ _ _,?_⟩;have hl:=cp a lo hi;have key:(if ((1:Int) == 1&&(strSliceIndices lo hi 1 a.length).length == a.length)=true then Made.val (.str a t)else Made.str ⟨((strSliceIndices lo hi 1 a.length).filterMap (a.cps[·]?)).toArray⟩).post (EP X pins σ Q) s:=by
  unfold StrLaws.sliceText at q hl;by_cases hc:((1:Int) == 1&&(strSliceIndices lo hi 1 a.length).length == a.length)=true
  . rw[if_pos hc]at q;rw[if_pos hc];exact⟨.str a,H,I,⟨t,rfl⟩,q⟩
  . rw[if_neg hc]at q hl;rw[if_neg hc];exact⟨Nat.le_trans hl hz,.str _,H,I.tok _,⟨_,rfl⟩,q⟩
 cases pl with
 | none =>
  cases pu with
  | none=>exact wpAny_getItem_str_slice (l:=none) (u:=none) (st:=none) hs rfl key
  | int j tu=>exact wpAny_getItem_str_slice (l:=none) (u:=some (j,tu)) (st:=none) hs rfl key
 | int i tl =>
  cases pu with
  | none=>exact wpAny_getItem_str_slice (l:=some (i,tl)) (u:=none) (st:=none) hs rfl key
  | int j tu=>exact wpAny_getItem_str_slice (l:=some (i,tl)) (u:=some (j,tu)) (st:=none) hs rfl key
end
end L2
namespace Tw
end Tw
namespace Tw
end Tw
namespace Tw
end Tw
namespace Tw
end Tw
namespace Tw
end Tw
namespace Tw
section
variable {n:Nat}{rs:List Road}{f:Int->Int->Int}
end
end Tw
namespace Tw
section
variable {n:Nat}{rs:List Road}{f:Int->Int->Int}
end
end Tw
namespace Tw
section
variable {n:Nat}{rs:List Road}{f:Int->Int->Int}
end
end Tw
namespace Tw
section
variable {n:Nat}{rs:List Road}{f:Int->Int->Int}
end
end Tw
namespace Tw
section
variable {n:Nat}{rs:List Road}{f:Int->Int->Int}
end
end Tw
namespace Tw
section
variable {n:Nat}{rs:List Road}{f:Int->Int->Int}
end
end Tw
namespace Tw
section
variable {n:Nat}{rs:List Road}{f:Int->Int->Int}
end
end Tw
namespace Tw
section
variable {n:Nat}{rs:List Road}{f:Int->Int->Int}
end
end Tw
namespace Tw
section
variable {n:Nat}{rs:List Road}{f:Int->Int->Int}
end
end Tw
namespace Tw
end Tw
namespace Tw
end Tw
namespace Tw
variable {n:Nat}{rs:List Road}{f:Int->Int->Int}
end Tw
namespace Tw
end Tw
namespace Tw
end Tw
namespace Tw
section
variable {n:Nat}{rs:List Road}{f:Int->Int->Int}
end
end Tw
namespace Tw
section
variable {n:Nat}{rs:List Road}{f:Int->Int->Int}
end
end Tw
namespace Tw
section
variable {sv:Nat->List Int}{g:Nat->Int}{w:Nat->Int}
end
end Tw
namespace Tw
variable {f:Int->Int->Int}{hs ss hs' ss':List Int}{c c' r R R':Int}
end Tw
namespace Tw
end Tw
namespace Tw
variable {n:Nat}{rs:List Road}{f:Int->Int->Int}
end Tw
namespace Tw
variable {n:Nat}{rs:List Road}{f:Int->Int->Int}
end Tw
namespace Tw
variable {n:Nat}{rs:List Road}{f:Int->Int->Int}
end Tw
namespace L2
open PySem PySem.Spec PyProof.Rows
end L2
namespace L2
open PySem PySem.Spec PyProof.Rows
end L2
namespace L2
open PySem PySem.Spec PyProof.Rows
structure Mk0 (K:PySem.W.Frag) (C:Addr):Prop where
 makes:PySem.W.makesIn K C=true
 init:PySem.W.findIn K (.ref C) "__init__" = some (some (.builtin "object.__init__"))
 kp:PySem.W.keepIn K (.ref C)=true
def di (C:Addr):TE:=fun σ H Q=>∀x dx,H x=none->H dx=none->dx≠x->Q (.ref x) (upd (upd H dx (.own x)) x (.ins C dx []))
section
variable {X:Cx}{C:Addr}
theorem run_make0 {pins:List (Addr×Obj)}{σ:St}{H:Hp}{s:Shared}{Q:VK}(M:Mk0 X.K C)(I:Inv X pins σ H s)(h:∀x dx,H x=none->H dx=none->dx≠x->Q (.ref x) (upd (upd H dx (.own x)) x (.ins C dx []))):wpAny (model X.prog X.w) X.A (call (.ref C) []) (EP X pins σ Q) X.xe s:=by
 have hq:=h (s.heap.objs.size+1) s.heap.objs.size (I.hok.fresh (Nat.le_succ _)) (I.hok.fresh (Nat.le_refl _)) (Nat.ne_of_lt (Nat.lt_succ_self _));have I2:=Inv.made (C:=C) I;refine wpAny_call (make_map0 I.kIn M.makes M.init (fun self=>PySem.W.Looks.of_pure (PySem.W.oi_bind self)) ?_);have Y:=PySem.W.makes_of (M:=model X.prog X.w) I.kIn M.makes;have hg:((s.heap.push PySem.W.emptyDict).push (PySem.W.instObj C s.heap.objs.size)).get? (s.heap.objs.size+1)=some (PySem.W.instObj C s.heap.objs.size):=by
  have e:(s.heap.push PySem.W.emptyDict).objs.size=s.heap.objs.size+1:=Heap.size_push ..;rw[←e];exact Heap.get?_push_size _ rfl
 have t1:PySem.W.Looks (model X.prog X.w) ((s.heap.push PySem.W.emptyDict).push (PySem.W.instObj C s.heap.objs.size)) (typeOf (.ref (s.heap.objs.size+1))) (.ref C):=(PySem.W.Looks.ld hg).andThen .now;have t2:PySem.W.Looks (model X.prog X.w) ((s.heap.push PySem.W.emptyDict).push (PySem.W.instObj C s.heap.objs.size)) (isInstance (.ref (s.heap.objs.size+1)) (.type "object")) true:=t1.andThen (Y.top.keeps fun b o e=>Heap.get?_push_of_some _ (Heap.get?_push_of_some _ e));refine codeAny_call_builtin PySem.W.oi_plain PySem.W.entry_oi (@PySem.W.check_slot (model X.prog X.w) _ _ _ "object.__init__" "object" "__init__" (.ref (s.heap.objs.size+1)) [] [] _ PySem.W.oi_kind PySem.W.oi_split t2 (PySem.W.oi_args (.ref (s.heap.objs.size+1))) ?_);rw[PySem.W.oi_run];exact wpAny_pure (And.intro rfl ⟨V.ref (s.heap.objs.size+1),_,I2,rfl,hq⟩)
theorem al {x:Str}{p pos:Pos}(M:Mk0 X.K C)(hg:Gl X x)(hm:X.mg x=some (.ref C))(hdb:(x == ("__debug__" : Str))=false:=by decide):PE X (.Call (.Name x p) [] [] pos) (di C):=by
 intro pins s σ H Q I h;refine wpAny_Call_Name_kw (bj I hg hm ?_ hdb);exact PySem.W.callWith_K0 I.kIn M.kp (run_make0 M I h)
def tMethS (n:Nat)(C:Nat->Addr)(m:Str)(sp:Nat->Sp)(E:XK)(ta:TE):TE:=fun σ H Q=>ta σ H fun x H1=>∃i a dx fs,i < n/\x = .ref a/\H1 a=some (.ins (C i) dx fs)/\fs.lookup m=none/\sp i [x] H1 Q E
theorem cP {n k:Nat}{Cs:Nat->Addr}{m:Str}{f:Nat->Addr}{fd:Nat->FuncData}{ps:List Str}{sp:Nat->Sp}{E:XK}{o:Expr}{ta:TE}{apos pos:Pos}{CX:CXT}{pl:Sem Bool}(he:PE X o ta)
 (hs:∀i,i < n->Cls X.K (Cs i)/\Meth X.K (Cs i) m (f i)/\FnOk X.prog X.w X.K X.mg X.base CX k (f i) (fd i) ps (sp i)/\Binds X.K (fd i) ps []) (hr:Room k X.A) (hx:cg CX X E)
 (ht:eval (.Call (.Attribute o m apos) [] [] pos) X.env=(do
   let ov ←eval o X.env
   standAt apos.atName
   let (f,first) ←holding [ov] (getMethod ov m pl)
   callWith pos f first (backTo pos (starEach [] X.env)) (backToKw pos (keywordEach [] X.env))):=by rfl) :
 PE X (.Call (.Attribute o m apos) [] [] pos) (tMethS n Cs m sp E ta):=by
 intro pins s σ H Q I h;refine PySem.W.methodCall_KW (pl:=pl) (thn (he pins s σ H _ I h) fun u s1 ⟨x,H1,I1,rx,i,a,dx,fs,hi,ex,ea,l,q⟩=>?_) ht;subst ex;obtain rfl:u=Value.ref a:=rx;obtain⟨c,hm,F,hb⟩:=hs i hi;refine getmeth_ok I1 ea c hm l ?_;exact PySem.W.callWith_K0 (first:=[.ref a]) I1.kIn hm.kp (cW (us:=[.ref a]) (vs:=[.ref a]) F hr hb .nil hx I1 (.cons rfl .nil) q)
theorem aw (K:PySem.W.Frag)(hK:X.K=K:=by rfl):bR X (.builtin "isinstance") (fun xs H Q=>∃x t D b,xs=[x,.ref D]/\TyOf K H x t/\PySem.W.kitOne K t (.ref D)=some b/\Q (.bl b) H):=by
 subst hK;intro pins s σ H xs us Q I r h;obtain⟨x,t,D,b,rfl,ty,e,q⟩:=h;obtain⟨u,w',rfl,ru,rw'⟩:=dg r;cases rw';exact cr I ru ty e fun tk=>⟨.bl b,H,I.tok tk,rfl,q⟩
end
end L2
namespace L2
open PySem PySem.Spec PyProof.Rows
section
variable {X:Cx}
def rUpper:V->List V->Hp->VK->Prop:=fun x vs H Q=>∃a:Str,x = .str a/\vs=[]/\Builtin.Str.tooLong (Txt.upper a).length=false/\Q (.str (Txt.upper a)) H
theorem mt_upper:MtM X "str.upper" rUpper:=by
 intro pins s σ H x vs v us Q I rx rv h;obtain⟨a,rfl,rfl,hf,q⟩:=h;obtain⟨t,rfl⟩:=rx;cases rv;exact PySem.W.KXw.upper rfl hf fun t' k=>⟨.str _,H,I.tok k,⟨_,rfl⟩,q⟩
end
end L2
namespace L2
open PySem PySem.Spec PyProof.Rows Tw
open PySem.W (tabObj CodeHd kla_obj kla_fn envX)
section
variable {X:Cx}{pins:List (Addr×Obj)}{σ:St}{H:Hp}{s:Shared}{h':Heap}
end
end L2
namespace L2
open PySem PySem.Spec PyProof.Rows Tw
open PySem.W (tabObj CodeHd kla_obj kla_fn envX)
end L2
namespace L2
open PySem PySem.Spec PyProof.Rows Tw
open PySem.W (tabObj CodeHd kla_obj kla_fn envX)
section
variable {X:Cx}{pins:List (Addr×Obj)}{σ:St}{H:Hp}{s:Shared}
end
end L2
namespace L2
open PySem PySem.Spec PyProof.Rows
section
variable {X:Cx}
end
end L2
namespace Tw
open PySem PyProof.Rows
section
variable {M:Model}{A:Around}{E:Value->Shared->Prop}{s:Shared}{kd:SortKind}{k:Keyed->Int}{P:Keyed->Prop}
end
end Tw
namespace Tw
open PySem PyProof.Rows
section
variable {M:Model}{A:Around}{E:Value->Shared->Prop}{s:Shared}{kd:SortKind}{k:Keyed->Int}{P:Keyed->Prop}
end
end Tw
namespace Tw
open PySem PyProof.Rows
section
variable {k:Keyed->Int}{l o x y:List Keyed}
end
section
variable {k:Keyed->Int}{a b o:Array Keyed}{i j:Nat}
end
end Tw
namespace Tw
open PySem PyProof.Rows
section
variable {M:Model}{A:Around}{E:Value->Shared->Prop}{s:Shared}{kd:SortKind}{k:Keyed->Int}{P:Keyed->Prop}{a b o:Array Keyed}{i j mg ca cb:Nat}{st:SortSt}
end
end Tw
namespace Tw
open PySem PyProof.Rows
section
variable {k:Keyed->Int}{a b o:Array Keyed}{i j:Nat}
end
section
variable {M:Model}{A:Around}{E:Value->Shared->Prop}{s:Shared}{kd:SortKind}{k:Keyed->Int}{P:Keyed->Prop}{a b o:Array Keyed}{i j mg ca cb:Nat}{st:SortSt}
end
end Tw
namespace Tw
open PySem PyProof.Rows
section
variable {M:Model}{A:Around}{E:Value->Shared->Prop}{s:Shared}{kd:SortKind}{k:Keyed->Int}{P:Keyed->Prop}{st:SortSt}
end
end Tw
namespace Tw
open PySem PyProof.Rows
section
variable {M:Model}{A:Around}{E:Value->Shared->Prop}{s:Shared}{kd:SortKind}{k:Keyed->Int}{a₀:Array Keyed}{st:SortSt}{lo:Nat}
end
end Tw
namespace L2
open PySem PySem.Spec PyProof.Rows Tw
section
variable {prog:Program}{w:World}{A:Around}{E:Value->Shared->Prop}{s:Shared}{g0:Heap}{L:Addr}{mm:Str->Option Value}{ws:List (Addr×Obj)}{D kS:Addr}{b:Bool}{us:List Value}{zs:List Int}{ks:Array Value}{e e1:Nat}{R:PySem.Fin->Shared->Prop}
end
end L2
namespace L2
open PySem PySem.Spec PyProof.Rows Tw
section
variable {prog:Program}{w:World}{A:Around}{E:Value->Shared->Prop}{s:Shared}
end
section
variable {X:Cx}
end
end L2
namespace L2
open PySem PySem.Spec PyProof.Rows Tw
section
variable {prog:Program}{w:World}{A:Around}{E:Value->Shared->Prop}{s:Shared}
end
section
variable {X:Cx}
end
end L2
namespace L2
open PySem PySem.Spec PyProof.Rows Tw
open PySem.AutoSeq1 (wpAny_loadPart')
open PySem.MeetsSeq PySem.MeetsSeq2 PySem.MeetsSeq3
section
variable {prog:Program}{w:World}{A:Around}{E:Value->Shared->Prop}{s:Shared}
end
end L2
namespace Tw
open L2
end Tw
namespace L2
open PySem PySem.Spec PyProof.Rows Tw
section
variable {prog:Program}{w:World}{A:Around}{E:Value->Shared->Prop}{s:Shared}
end
section
variable {prog:Program}{w:World}{A:Around}{E:Value->Shared->Prop}{s:Shared}{g0:Heap}{L:Addr}{mm:Str->Option Value}{ws:List (Addr×Obj)}{D kS:Addr}{us:List Value}{ks:Array Value}{e e1:Nat}{R:PySem.Fin->Shared->Prop}{lf:Value->List Int}
end
end L2
namespace L2
open PySem PySem.Spec PyProof.Rows Tw
open PySem.AutoSeq1 (wpAny_loadPart')
open PySem.MeetsSeq PySem.MeetsSeq2 PySem.MeetsSeq3
open PySem.SeqAt (EqAt RcAt)
section
variable {A:Around}{s:Shared}
end
end L2
namespace L2
open PySem PySem.Spec PyProof.Rows Tw
open PySem.AutoSeq1 (wpAny_loadPart')
open PySem.MeetsSeq PySem.MeetsSeq2 PySem.MeetsSeq3
open PySem.SeqAt (EqAt RcAt)
section
variable {A:Around}{s:Shared}
end
section
variable {prog:Program}{w:World}{A:Around}{E:Value->Shared->Prop}{s:Shared}
end
end L2
namespace Tw
open L2
end Tw
namespace L2
open PySem PySem.Spec PyProof.Rows Tw
section
variable {prog:Program}{w:World}{A:Around}{E:Value->Shared->Prop}{s:Shared}
end
section
variable {prog:Program}{w:World}{A:Around}{E:Value->Shared->Prop}{s:Shared}{g0:Heap}{L:Addr}{mm:Str->Option Value}{ws:List (Addr×Obj)}{D kS:Addr}{us:List Value}{ks:Array Value}{e e1:Nat}{R:PySem.Fin->Shared->Prop}{lf:Value->List Int}
end
end L2
namespace L2
open PySem PySem.Spec PyProof.Rows Tw
open PySem.W (tabObj CodeHd kla_obj kla_fn envX)
section
variable {X:Cx}{pins:List (Addr×Obj)}{σ:St}{H:Hp}{s:Shared}{h':Heap}
end
end L2
namespace L2
open PySem PySem.Spec PyProof.Rows Tw
open PySem.W (tabObj CodeHd kla_obj kla_fn envX)
section
variable {X:Cx}{pins:List (Addr×Obj)}{σ:St}{H:Hp}{s:Shared}
end
end L2
namespace L2
open PySem PySem.Spec PyProof.Rows Tw
open PySem.W (tabObj CodeHd kla_obj kla_fn envX)
section
variable {X:Cx}
end
end L2
namespace L2
open PySem PySem.Spec PyProof.Rows Tw
open PySem.W (tabObj CodeHd tabIn)
section
variable {P:Program}{w:World}{K:PySem.W.Frag}{mg:Str->Option Value}{base:Heap}
end
end L2
namespace L2
open PySem PySem.Spec PyProof.Rows Tw
open PySem.W (tabObj CodeHd kla_obj kla_fn envX)
end L2
namespace L2
open PySem PySem.Spec PyProof.Rows Tw
open PySem.W (tabObj CodeHd kla_obj kla_fn envX)
section
variable {X:Cx}{pins:List (Addr×Obj)}{σ:St}{H:Hp}{s:Shared}{h':Heap}
end
section
variable {X:Cx}{pins:List (Addr×Obj)}{σ:St}{H:Hp}{s:Shared}
end
end L2
namespace L2
open PySem PySem.Spec PyProof.Rows Tw
open PySem.W (tabObj CodeHd kla_obj kla_fn envX)
section
variable {X:Cx}{pins:List (Addr×Obj)}{σ:St}{H:Hp}{s:Shared}{h':Heap}
end
section
variable {X:Cx}{pins:List (Addr×Obj)}{σ:St}{H:Hp}{s:Shared}
end
end L2
namespace L2
open PySem PySem.Spec PyProof.Rows
section
variable {prog:Program}{w:World}{A:Around}{E:Value->Shared->Prop}{s:Shared}{L:Bool}{a:Addr}
end
section
variable {prog:Program}{w:World}{A:Around}{R:Result->Shared->Prop}{I:Addr}{fp wr:List Addr}{G:Array GenState->Array GenState->Prop}{n:Nat}{P:Nat->Value->Prop}{St:Nat->Shared->Prop}{L:Bool}
end
section
variable {prog:Program}{w:World}{A:Around}{E:Value->Shared->Prop}{s:Shared}
end
end L2
namespace L2
open PySem PySem.Spec PyProof.Rows
section
variable {prog:Program}{w:World}{A:Around}{E:Value->Shared->Prop}{s:Shared}{L:Bool}{a:Addr}
end
section
variable {prog:Program}{w:World}{A:Around}{R:Result->Shared->Prop}{I:Addr}{fp wr:List Addr}{G:Array GenState->Array GenState->Prop}{n:Nat}{P:Nat->Value->Prop}{St:Nat->Shared->Prop}{L:Bool}
end
section
variable {prog:Program}{w:World}{A:Around}{E:Value->Shared->Prop}{s:Shared}
end
section
variable {X:Cx}
end
end L2
namespace L2
open PySem PySem.Spec PyProof.Rows
section
variable {prog:Program}{w:World}{A:Around}{E:Value->Shared->Prop}{s:Shared}
end
end L2
namespace L2
open PySem PySem.Spec PyProof.Rows
section
variable {X:Cx}{pins:List (Addr×Obj)}{σ:St}{H:Hp}{s:Shared}
end
section
variable {X:Cx}
end
end L2
namespace L2
open PySem PySem.Spec PyProof.Rows Tw
open PySem.W (tabObj CodeHd kla_obj kla_fn envX)
section
variable {X:Cx}{pins:List (Addr×Obj)}{σ:St}{H:Hp}{s:Shared}
end
end L2
namespace L2
open PySem PySem.Spec PyProof.Rows Tw
open PySem.W (tabObj CodeHd kla_obj kla_fn envX)
section
variable {X:Cx}{pins:List (Addr×Obj)}{σ:St}{H:Hp}{s:Shared}
end
end L2
namespace L2
open PySem PySem.Spec PyProof.Rows Tw
open PySem.W (tabObj CodeHd kla_obj kla_fn envX)
section
variable {X:Cx}{pins:List (Addr×Obj)}{σ:St}{H:Hp}{s:Shared}
end
end L2
namespace Tw
open PySem L2
section
variable {n:Nat}{rs:List Road}{f:Int->Int->Int}
end
end Tw
namespace L2
open PySem PySem.Spec PyProof.Rows
section
variable {X:Cx}{tg:Expr}
end
end L2
namespace Tw
open PySem L2
def top (i:Nat):Stmt:=PySem.Challenge.pw_treewells_k81_the_eleven_kinds.main.body.getD i (.Pass ⟨0,0,0,0⟩)
abbrev br:Stmt:=top 34
abbrev aV:Stmt:=top 35
abbrev sMix:Stmt:=top 37
abbrev bg:Stmt:=top 38
abbrev bN:Stmt:=top 39
abbrev bv:Stmt:=top 40
abbrev aW:Stmt:=top 41
abbrev aQ:Stmt:=top 42
abbrev sLaw:Stmt:=top 43
end Tw
namespace Tw
open PySem L2
open PySem.Builtin.Int (intBits)
structure Bi (K:PySem.W.Frag) (mg:Str->Option Value):Prop where
 isinstance:mg "isinstance" = none
 int:mg "int" = none
 bool:mg "bool" = none
 list:mg "list" = none
 len:mg "len" = none
 all:mg "all" = none
 sum:mg "sum" = none
 range:mg "range" = none
 max:mg "max" = none
 min:mg "min" = none
 set:mg "set" = none
 sorted:mg "sorted" = none
 zip:mg "zip" = none
 any:mg "any" = none
 dict:mg "dict" = none
 reversed:mg "reversed" = none
 tuple:mg "tuple" = none
 ii:PySem.W.kitOne K (.type "int") (.type "int")=some true
 ib:PySem.W.kitOne K (.type "int") (.type "bool")=some false
 ll:PySem.W.kitOne K (.type "list") (.type "list")=some true
 bb:PySem.W.kitOne K (.type "bool") (.type "bool")=some true
 tt:PySem.W.kitOne K (.type "tuple") (.type "tuple")=some true
structure Def (K:PySem.W.Frag) (mg:Str->Option Value) (x:Str) (st:Stmt) (ps:List Str) (f:Addr) (fd:FuncData):Prop where
 fn:Fun K x x st f fd
 bn:Binds K fd ps []
 mg:mg x=some (.ref f)
section
variable {P:Program}{w:World}{K:PySem.W.Frag}{mg:Str->Option Value}{base:Heap}
theorem dc {α:Type}{xs:List α}{i:Int}{v:α}(h0:0≤i)(h:xs[i.toNat]? = some v):atI xs i=some v:=by
 have e:i=((i.toNat:Nat):Int):=by omega
 rw[e];exact bq h
theorem get_ref {as:List Addr}{i:Nat}{y:V}(h:(as.map V.ref)[i]? = some y):∃p,as[i]? = some p/\y=V.ref p:=by
 rw[List.getElem?_map]at h;cases e:as[i]? with
 | none=>rw[e]at h;cases h
 | some p=>rw[e]at h;exact⟨p,rfl,(Option.some.inj h).symm⟩
theorem bH (z:List Int):(zV z).length=z.length:=by unfold zV;simp
def mix1 (x k:Int):Int:=(x*x+k*x+7*k*k)*1103515245 % 2147483629
def mixF (x k:Int):Int:=mix1 x k*mix1 x k % 2147483587
theorem mix1_lo (x k:Int):0≤mix1 x k:=Int.emod_nonneg _ (by decide)
theorem mix1_hi (x k:Int):mix1 x k < 2147483629:=Int.emod_lt_of_pos _ (by decide)
def dz:Sp:=fun vs H Q _=>∃x k:Int,vs=[.int x,.int k]/\intBits x≤2 ^ 21/\-1000 < k/\k < 1000/\Q (.int (mixF x k)) H
theorem scMix:FnScope ["_law_number", "_law_k", "_law_mixed"] ["_law_number", "_law_k"] (a7 sMix):=⟨rfl,rfl,rfl,by decide +kernel,rfl,by decide +kernel,by decide +kernel⟩
theorem ok_mix {f:Addr}{fd:FuncData}(F:Def K mg "_law_mix" sMix ["_law_number", "_law_k"] f fd):FnOk P w K mg base CX0 1 f fd ["_law_number", "_law_k"] dz:=by
 refine F.fn.ok scMix (fun vs H Q E h=>?_) (fun cdv A outer s H vs Q E hr h=>?_)
 . obtain⟨x,k,rfl,_⟩:=h;rfl
 . obtain⟨x,k,rfl,hx,k0,k1,q⟩:=h;refine⟨_,ae (aD (i:=2) scMix.nd rfl (Or.inl rfl) (aq bh (aq bz (aq bK (aq bK (aq op_mulB (pv 0) (pv 0)) (aq bz (pv 1) (pv 0))) (aq bz (aq bz ah (pv 1)) (pv 1))) ah) ah))
    (ad (ak (aq bh (aq bz (pv 2) (pv 2)) ah))),?_⟩
   refine⟨_,rfl,_,rfl,_,_,rfl,rfl,mul_bits hx hx (by decide),_,rfl,_,rfl,_,_,rfl,rfl,.inl ⟨by omega,by omega⟩,_,_,rfl,rfl,_,rfl,_,_,rfl,rfl,.inl ⟨by decide,by decide⟩,_,rfl,_,_,rfl,rfl,.inr ⟨by omega,by omega⟩,_,_,rfl,rfl,_,_,rfl,rfl,.inr ⟨by decide,by decide⟩,_,_,rfl,rfl,(by show(0:Int) < 2147483629;decide),?_⟩
   have a:=mix1_lo x k;have b:=mix1_hi x k;refine⟨_,rfl,_,rfl,_,_,rfl,rfl,.inl ⟨?_,?_⟩,_,_,rfl,rfl,(by show(0:Int) < 2147483587;decide),q⟩
   . show -(2 ^ 64) < mix1 x k;omega
   . show mix1 x k < 2 ^ 64;omega
theorem bits_small {a:Int}(h1 : -(2 ^ 64) < a)(h2:a < 2 ^ 64):intBits a≤64:=intBits_le_64 h1 h2
theorem bits_add' {a b:Int}(ha:intBits a≤2 ^ 20+1)(hb : -(2 ^ 64) < b/\b < 2 ^ 64):intBits (a+b)≤2 ^ 21:=by
 refine Nat.le_trans (PyProof.Rows.bits_add ha (bits_small hb.1 hb.2)) ?_;have:max (2 ^ 20+1) 64=2 ^ 20+1:=by decide
 rw[this];decide
theorem mem_cutV {xs:List V}{lo hi:Option Int}{y:V}(h:y∈cutV xs lo hi):y∈xs:=by
 unfold cutV at h;exact List.mem_of_mem_drop (List.mem_of_mem_take h)
theorem zV_item {z:List Int}{i:Nat}{y:V}(h:(zV z)[i]? = some y):∃x,z[i]? = some x/\y=V.int x:=by
 unfold zV at h;rw[List.getElem?_map]at h;cases e:z[i]? with
 | none=>rw[e]at h;cases h
 | some x=>rw[e]at h;exact⟨x,rfl,(Option.some.inj h).symm⟩
def spLaw (K:PySem.W.Frag):Sp:=fun vs H Q _=>∃(a:Addr) (ns:List Int),vs=[.ref a]/\SqL K H a (zV ns)/\(∀n∈ns,Bits n)/\ns.length≤63/\∀H',Q (.bl true) H'
theorem du:∀{xs:List V} {p:Int->Prop},(∀v∈xs,∃z,v=V.int z/\p z)->∃ls:List Int,xs=zV ls/\∀z∈ls,p z
 | [],_,_=>⟨[],rfl,fun _ h=>nomatch h⟩
 | x::t,p,h=>by
  obtain⟨z,rfl,hz⟩:=h x List.mem_cons_self;obtain⟨ls,rfl,hl⟩:=du (xs:=t) (p:=p) fun v hv=>h v (List.mem_cons_of_mem _ hv);refine⟨z::ls,rfl,fun y hy=>?_⟩;rcases List.mem_cons.mp hy with rfl | e
  . exact hz
  . exact hl y e
end
end Tw
namespace Tw
open PySem L2
def cname (i:Nat):Str:=[("Middle" : Str),"Balance", "Wells", "Reach", "Spots", "Colours", "Worths", "Goods", "Walks", "Sweeps", "Round", "Digging", "Yards", "Sweeping", "Question"].getD i ""
def aA (i:Nat):Str:=[("middle" : Str),"balance", "wells", "reach", "spots", "colours", "worths", "goods", "walks", "sweeps", "round"].getD i ""
def qualOf (i:Nat):Str:=[("Middle.word" : Str),"Balance.word", "Wells.word", "Reach.word", "Spots.word", "Colours.word", "Worths.word", "Goods.word", "Walks.word", "Sweeps.word", "Round.word"].getD i ""
def mS (s:Stmt):Stmt:=match s with
 | .ClassDef _ _ _ x _ _ _ _ _ _ _=>x.getD 0 (.Pass ⟨0,0,0,0⟩)
 | _=>.Pass ⟨0,0,0,0⟩
def wSt (i:Nat):Stmt:=mS (top ([18,19,21,22,26,27,28,23,30,31,32].getD i 0))
def a5 (i j:Nat):Bool:=if j < 11 then decide (j=i)else if j=11 then decide (i=2∨i=3)else if j=12 then decide (i=4∨i=5∨i=6)else decide (i=8∨i=9)
structure Kds (K:PySem.W.Frag) (mg:Str->Option Value) (c f:Nat->Addr) (fd:Nat->FuncData):Prop where
 nam:∀i,i < 15->mg (cname i)=some (.ref (c i))
 cls:∀i,i < 11->Cls K (c i)
 mkk:∀i,i < 11->Mk0 K (c i)
 meth:∀i,i < 11->Meth K (c i) "word" (f i)
 fn:∀i,i < 11->Fun K "word" (qualOf i) (wSt i) (f i) (fd i)
 bn:∀i,i < 11->Binds K (fd i) ["self"] []
 ta:∀i,i < 11->PySem.W.findIn K (.ref (c i)) "__class__" = some (some (.builtin "object.__class__"))
 tn:PySem.W.specialIn K (.builtin "object.__class__") "__get__" = some (some (.builtin "getset_descriptor.__get__"))
 tk:PySem.W.takesIn K (.builtin "object.__class__")=some true
 tm:∀i,i < 11->PySem.W.mroIn K (c i) (.type "object")=some true
 isq:∀i,i < 11->PySem.W.kitOne K (.ref (c i)) (.ref (c 14))=some true
 mark:∀i,i < 11->∀j,j < 14->PySem.W.kitOne K (.ref (c i)) (.ref (c j))=some (a5 i j)
theorem aR {α:Type}{f g:Nat->α}{n:Nat}(h:(List.range n).map f=(List.range n).map g){j:Nat}(hj:j < n):f j=g j:=by
 have:=congrArg (fun l=>l[j]?) h;simpa [List.getElem?_map,List.getElem?_range hj] using this
section
variable {P:Program}{w:World}{K:PySem.W.Frag}{mg:Str->Option Value}{base:Heap}{c f:Nat->Addr}{fd:Nat->FuncData}
theorem Kds.ty (TK:Kds K mg c f fd){i:Nat}(hi:i < 11){H:Hp}{a dx:Addr}{fs:List (Str×V)}(e:H a=some (.ins (c i) dx fs)):TyOf K H (.ref a) (.ref (c i)):=.ins e (TK.cls i hi) (TK.ta i hi) TK.tn TK.tk (TK.tm i hi)
def spWd (i:Nat):Sp:=fun vs H Q _=>∃v:V,vs=[v]/\Q (.str (aA i)) H
theorem dB (TK:Kds K mg c f fd):∀i,i < 11->FnOk P w K mg base CX0 1 (f i) (fd i) ["self"] (spWd i)
 | 0,h=>(TK.fn 0 h).ok (N:=["self"]) ⟨rfl,rfl,rfl,by decide +kernel,rfl,by decide +kernel,by decide +kernel⟩ (fun vs H Q E ⟨v,e,_⟩=>by rw[e];rfl) (fun cdv A outer s H vs Q E hr ⟨v,e,k⟩=>⟨_,ad (ak ar),k⟩)
 | 1,h=>(TK.fn 1 h).ok (N:=["self"]) ⟨rfl,rfl,rfl,by decide +kernel,rfl,by decide +kernel,by decide +kernel⟩ (fun vs H Q E ⟨v,e,_⟩=>by rw[e];rfl) (fun cdv A outer s H vs Q E hr ⟨v,e,k⟩=>⟨_,ad (ak ar),k⟩)
 | 2,h=>(TK.fn 2 h).ok (N:=["self"]) ⟨rfl,rfl,rfl,by decide +kernel,rfl,by decide +kernel,by decide +kernel⟩ (fun vs H Q E ⟨v,e,_⟩=>by rw[e];rfl) (fun cdv A outer s H vs Q E hr ⟨v,e,k⟩=>⟨_,ad (ak ar),k⟩)
 | 3,h=>(TK.fn 3 h).ok (N:=["self"]) ⟨rfl,rfl,rfl,by decide +kernel,rfl,by decide +kernel,by decide +kernel⟩ (fun vs H Q E ⟨v,e,_⟩=>by rw[e];rfl) (fun cdv A outer s H vs Q E hr ⟨v,e,k⟩=>⟨_,ad (ak ar),k⟩)
 | 4,h=>(TK.fn 4 h).ok (N:=["self"]) ⟨rfl,rfl,rfl,by decide +kernel,rfl,by decide +kernel,by decide +kernel⟩ (fun vs H Q E ⟨v,e,_⟩=>by rw[e];rfl) (fun cdv A outer s H vs Q E hr ⟨v,e,k⟩=>⟨_,ad (ak ar),k⟩)
 | 5,h=>(TK.fn 5 h).ok (N:=["self"]) ⟨rfl,rfl,rfl,by decide +kernel,rfl,by decide +kernel,by decide +kernel⟩ (fun vs H Q E ⟨v,e,_⟩=>by rw[e];rfl) (fun cdv A outer s H vs Q E hr ⟨v,e,k⟩=>⟨_,ad (ak ar),k⟩)
 | 6,h=>(TK.fn 6 h).ok (N:=["self"]) ⟨rfl,rfl,rfl,by decide +kernel,rfl,by decide +kernel,by decide +kernel⟩ (fun vs H Q E ⟨v,e,_⟩=>by rw[e];rfl) (fun cdv A outer s H vs Q E hr ⟨v,e,k⟩=>⟨_,ad (ak ar),k⟩)
 | 7,h=>(TK.fn 7 h).ok (N:=["self"]) ⟨rfl,rfl,rfl,by decide +kernel,rfl,by decide +kernel,by decide +kernel⟩ (fun vs H Q E ⟨v,e,_⟩=>by rw[e];rfl) (fun cdv A outer s H vs Q E hr ⟨v,e,k⟩=>⟨_,ad (ak ar),k⟩)
 | 8,h=>(TK.fn 8 h).ok (N:=["self"]) ⟨rfl,rfl,rfl,by decide +kernel,rfl,by decide +kernel,by decide +kernel⟩ (fun vs H Q E ⟨v,e,_⟩=>by rw[e];rfl) (fun cdv A outer s H vs Q E hr ⟨v,e,k⟩=>⟨_,ad (ak ar),k⟩)
 | 9,h=>(TK.fn 9 h).ok (N:=["self"]) ⟨rfl,rfl,rfl,by decide +kernel,rfl,by decide +kernel,by decide +kernel⟩ (fun vs H Q E ⟨v,e,_⟩=>by rw[e];rfl) (fun cdv A outer s H vs Q E hr ⟨v,e,k⟩=>⟨_,ad (ak ar),k⟩)
 | 10,h=>(TK.fn 10 h).ok (N:=["self"]) ⟨rfl,rfl,rfl,by decide +kernel,rfl,by decide +kernel,by decide +kernel⟩ (fun vs H Q E ⟨v,e,_⟩=>by rw[e];rfl) (fun cdv A outer s H vs Q E hr ⟨v,e,k⟩=>⟨_,ad (ak ar),k⟩)
 | n+11,h=>absurd h (by omega)
def tMks (c:Nat->Addr):Nat->Nat->TA
 | _,0=>tNil
 | i,n+1=>cm (di (c i)) (tMks c (i+1) n)
structure KindsAt (c:Nat->Addr) (H:Hp) (i:Nat) (xs:List Addr):Prop where
 at_:∀(j:Nat) (x:Addr),xs[j]? = some x->∃dx,H x=some (.ins (c (i+j)) dx [])
theorem KindsAt.mono {H H':Hp}{i:Nat}{xs:List Addr}(h:KindsAt c H i xs)(s:Same H H'):KindsAt c H' i xs:=⟨fun j x e=>by obtain⟨dx,q⟩:=h.at_ j x e;exact⟨dx,s _ _ q⟩⟩
theorem ce:∀(n i:Nat) {σ:St} {H:Hp} {Q:List V->Hp->Prop},(∀(xs:List Addr) (H':Hp),xs.length=n->Same H H'->KindsAt c H' i xs->Q (xs.map V.ref) H')->tMks c i n σ H Q
 | 0,i,σ,H,Q,h=>h [] H rfl (Same.refl _) ⟨fun j x e=>by simp at e⟩
 | n+1,i,σ,H,Q,h=>fun x dx h1 h2 h3=>by
  have s1:Same H (upd (upd H dx (.own x)) x (.ins (c i) dx [])):=fun b o e=>by
   rw[am (au e h1),am (au e h2)];exact e
  have u1:(upd (upd H dx (.own x)) x (.ins (c i) dx [])) x=some (.ins (c i) dx []):=ac;refine ce n (i+1) fun xs H' hl s2 hk=>?_;refine h (x::xs) H' (by rw[List.length_cons,hl]) (s1.trans s2) ⟨fun j y e=>?_⟩
  cases j with
  | zero =>
   have e:x=y:=by simpa using e
   subst e;exact⟨dx,s2 _ _ u1⟩
  | succ j =>
   obtain⟨d,q⟩:=hk.at_ j y (by simpa using e)
   exact⟨d,by rw[show i+(j+1)=i+1+j by omega];exact q⟩
def cB (c:Nat->Addr):Sp:=fun vs H Q _=>vs=[]/\∀(L:Addr) (xs:List Addr) (H':Hp),xs.length=11->Same H H'->H L=none->H' L=some (.lst (xs.map V.ref))->KindsAt c H' 0 xs->Q (.ref L) H'
theorem scKinds:FnScope [] [] (a7 br):=⟨rfl,rfl,rfl,by decide +kernel,rfl,by decide +kernel,by decide +kernel⟩
theorem cR {fk:Addr}{fdk:FuncData}(F:Def K mg "kinds" br [] fk fdk)(TK:Kds K mg c f fd):FnOk P w K mg base CX0 1 fk fdk [] (cB c):=by
 refine F.fn.ok scKinds (fun vs H Q E h=>?_) (fun cdv A outer s H vs Q E hr h=>?_)
 . rw[h.1];rfl
 . obtain⟨rfl,k⟩:=h;refine⟨_,(ad (ak (b8 (a6 (al (TK.mkk 0 (by decide)) rfl (TK.nam 0 (by decide))) (a6 (al (TK.mkk 1 (by decide)) rfl (TK.nam 1 (by decide))) (a6 (al (TK.mkk 2 (by decide)) rfl (TK.nam 2 (by decide))) (a6 (al (TK.mkk 3 (by decide)) rfl (TK.nam 3 (by decide))) (a6 (al (TK.mkk 4 (by decide)) rfl (TK.nam 4 (by decide))) (a6 (al (TK.mkk 5 (by decide)) rfl (TK.nam 5 (by decide))) (a6 (al (TK.mkk 6 (by decide)) rfl (TK.nam 6 (by decide))) (a6 (al (TK.mkk 7 (by decide)) rfl (TK.nam 7 (by decide))) (a6 (al (TK.mkk 8 (by decide)) rfl (TK.nam 8 (by decide))) (a6 (al (TK.mkk 9 (by decide)) rfl (TK.nam 9 (by decide))) (a6 (al (TK.mkk 10 (by decide)) rfl (TK.nam 10 (by decide))) a9)))))))))))))),?_⟩
   refine ce 11 0 fun xs H1 hl s1 hk=>?_;refine⟨by rw[List.length_map,hl];exact aC (by decide),fun L hL=>?_⟩
   have w1:=af (o:=.lst (xs.map V.ref)) hL;exact k L xs _ hl (s1.trans w1) (s1.free hL) ac (hk.mono w1)
end
end Tw
namespace Tw
open PySem L2
section
variable {P:Program}{w:World}{K:PySem.W.Frag}{mg:Str->Option Value}{base:Heap}{c f:Nat->Addr}{fd:Nat->FuncData}
def bX (c:Nat->Addr)(NK:Addr):Sp:=fun vs H Q E=>∃x:Str,vs=[.str x]/\(∀i,i < 11->x=aA i->∀(a dx:Addr) (H':Hp),Same H H'->H' a=some (.ins (c i) dx [])->Q (.ref a) H')/\((∀i,i < 11->x≠aA i)->∀H',Same H H'->E (.ref NK) none H')
theorem scKindOf:FnScope ["word", "kind"] ["word"] (a7 aV):=⟨rfl,rfl,rfl,by decide +kernel,rfl,by decide +kernel,by decide +kernel⟩
theorem ok_kindof {fk fKI eNK:Addr}{fdk fdKI:FuncData}(F:Def K mg "kind_of" aV ["word"] fk fdk)(FKI:Def K mg "kinds" br [] fKI fdKI)(ENK:Err K mg "NoKind" eNK)(TK:Kds K mg c f fd):FnOk P w K mg base (CXE P w) 2 fk fdk ["word"] (bX c eNK):=by
 have GKI:FnOk P w K mg base CX0 1 fKI fdKI [] (cB c):=cR FKI TK;have HS:∀i,i < 11->Cls K (c i)/\Meth K (c i) "word" (f i)/\FnOk P w K mg base CX0 1 (f i) (fd i) ["self"] (spWd i)/\Binds K (fd i) ["self"] []:=fun i hi=>⟨TK.cls i hi,TK.meth i hi,dB TK i hi,TK.bn i hi⟩;refine F.fn.okE scKindOf (fun vs H Q E h=>?_) (fun cdv A outer s H vs Q E hr h=>?_)
 . obtain⟨x,rfl,_⟩:=h;rfl
 . obtain⟨x,rfl,k1,k2⟩:=h;have nd:=scKindOf.nd;refine⟨_,(ae (PS.nox (cC PassesOwn.never rfl (cO K (be GKI (hr.mono (by decide)) rfl FKI.mg FKI.fn.kp FKI.bn .nil aH)) (bU (i:=1) nd rfl (Or.inl rfl)) (ad (PS.nox (aO (aL bP (cP (pv 1) HS (hr.mono (by decide)) aH) (pv 0) (aT _)) (ad (PS.nox (ak (pv 1)))) ay)))))
    (ad (ps_raise XE.of rfl rfl rfl ENK.mg ENK.cls (ag ar a9)))),?_⟩
   refine⟨rfl,fun L xs H1 hl s1 hL0 hL hk=>?_⟩;refine⟨L,rfl,⟨_,SqL.of hL⟩,cS (K:=K) (a:=L) (xs:=xs.map V.ref) (fun i σ HX=>∃v1:Option V,σ=[some (.str x),v1]/\Same H1 HX/\∀j,j < i->x≠aA j) ⟨none,rfl,Same.refl _,fun j hj=>absurd hj (by omega)⟩ (fun i σ HX _ ⟨_,_,h,_⟩=>SqL.of (h _ _ hL)) ?_ ?_⟩
   . rintro i y σ HX hi ⟨v1,rfl,sX,no⟩;obtain⟨p,hp,rfl⟩:=get_ref hi;have hil:i < 11:=by rw[←hl];exact(List.getElem?_eq_some_iff.mp hp).1
     obtain⟨dx,hpx⟩:=hk.at_ i p hp;rw[Nat.zero_add]at hpx;have hpX:=sX _ _ hpx;refine⟨_,rfl,i,p,dx,[],hil,rfl,hpX,rfl,_,rfl,_,rfl,rfl,_,rfl,?_⟩;refine iteD (fun e=>?_) (fun e=>?_)
     . have e:aA i=x:=by injection e
       exact⟨_,rfl,k1 i hil e.symm p dx HX (s1.trans sX) hpX⟩
     . refine⟨_,rfl,sX,fun j hj=>?_⟩;by_cases ej:j=i
       . subst ej;exact fun q=>e (by rw[q])
       . exact no j (by omega)
   . rintro σ HX ⟨v1,rfl,sX,no⟩;rw[List.length_map,hl]at no;exact⟨by show 1≤1000;decide,k2 no HX (s1.trans sX)⟩
end
end Tw
namespace Tw
open PySem L2
open PySem.Builtin.Int (intBits)
section
variable {P:Program}{w:World}{K:PySem.W.Frag}{mg:Str->Option Value}{base:Heap}{c f:Nat->Addr}{fd:Nat->FuncData}
def bI:List V:=[V.str ("middle" : Str),V.str "balance", V.str "wells", V.str "reach", V.str "spots", V.str "colours", V.str "worths", V.str "goods", V.str "walks", V.str "sweeps", V.str "round"]
theorem aF:∀i,i < 11->bI[i]? = some (V.str (aA i))
 | 0,_=>rfl | 1,_=>rfl | 2,_=>rfl | 3,_=>rfl | 4,_=>rfl | 5,_=>rfl | 6,_=>rfl | 7,_=>rfl | 8,_=>rfl | 9,_=>rfl | 10,_=>rfl
 | n+11,h=>absurd h (by omega)
theorem bV:∀i,i < 11->(aA i).length≤7
 | 0,_=>by decide | 1,_=>by decide | 2,_=>by decide | 3,_=>by decide | 4,_=>by decide | 5,_=>by decide | 6,_=>by decide | 7,_=>by decide | 8,_=>by decide | 9,_=>by decide | 10,_=>by decide
 | n+11,h=>absurd h (by omega)
theorem aB {n:Nat}(h:n≤4000):n≤sizeLine:=Nat.le_trans h (by decide)
def bT:Sp:=fun vs H Q _=>vs=[]/\∀(L:Addr) (H':Hp),Same H H'->H' L=some (.lst bI)->Q (.ref L) H'
theorem scWords:FnScope ["_law_first"] [] (a7 bg):=⟨rfl,rfl,rfl,by decide +kernel,rfl,by decide +kernel,by decide +kernel⟩
theorem c9 {fk:Addr}{fdk:FuncData}(F:Def K mg "_law_words" bg [] fk fdk):FnOk P w K mg base CX0 1 fk fdk [] bT:=by
 refine F.fn.ok scWords (fun vs H Q E h=>?_) (fun cdv A outer s H vs Q E hr h=>?_)
 . rw[h.1];rfl
 . obtain⟨rfl,k⟩:=h;have nd:=scWords.nd;refine⟨_,(ae (aD (i:=0) nd rfl (Or.inl rfl) (b8 (ag ar (ag ar (ag ar (ag ar (ag ar (ag ar a9))))))))
    (ad (ak (aq bJ (pv 0) (b8 (ag ar (ag ar (ag ar (ag ar (ag ar a9)))))))))),?_⟩
   refine⟨by show 6≤sizeLine;exact aC (by decide),fun A1 hA1=>?_⟩
   have w1:=af (o:=.lst [V.str ("middle" : Str),V.str "balance", V.str "wells", V.str "reach", V.str "spots", V.str "colours"]) hA1;have u1:(upd H A1 (.lst [V.str ("middle" : Str),V.str "balance", V.str "wells", V.str "reach", V.str "spots", V.str "colours"])) A1=some (.lst [V.str ("middle" : Str),V.str "balance", V.str "wells", V.str "reach", V.str "spots", V.str "colours"]):=ac;refine⟨_,rfl,by show 5≤sizeLine;exact aC (by decide),fun A2 hA2=>?_⟩
   have w2:=af (o:=.lst [V.str ("worths" : Str),V.str "goods", V.str "walks", V.str "sweeps", V.str "round"]) hA2;refine⟨A1,A2,_,_,rfl,rfl,w2 _ _ u1,ac,by show 11≤sizeLine;exact aC (by decide),fun L hL=>?_⟩
   exact k L _ ((w1.trans w2).trans (af hL)) ac
theorem cH (a b:Str):(a++b).length=a.length+b.length:=by show(a.cps++b.cps).size=_;exact Array.size_append
def ltOf (m:Int):Str:=⟨#[("abcdefghijklmnopqrstuvwxyz" : Str).cps.toList.getD m.toNat 0]⟩
theorem ltOf_at {m:Int}(h0:0≤m)(h1:m < 26):atI ("abcdefghijklmnopqrstuvwxyz" : Str).cps.toList m=some (("abcdefghijklmnopqrstuvwxyz" : Str).cps.toList.getD m.toNat 0):=
 dc h0 (by rw[List.getD_eq_getElem?_getD,List.getElem?_eq_getElem (show m.toNat < ("abcdefghijklmnopqrstuvwxyz" : Str).cps.toList.length by show m.toNat < 26;omega)];rfl)
def d3:Sp:=fun vs H Q _=>∃n:Int,vs=[.int n]/\intBits n≤2 ^ 20/\∀(y:Str) (H':Hp),Same H H'->Q (.str y) H'
theorem scLWord:FnScope ["_law_cell", "_law_words_here", "_law_word_here", "_law_choice", "_law_at", "_law_letters"] ["_law_cell"] (a7 bN):=⟨rfl,rfl,rfl,by decide +kernel,rfl,by decide +kernel,by decide +kernel⟩
theorem ok_lword {fk fWS fM:Addr}{fdk fdWS fdM:FuncData}(F:Def K mg "_law_word" bN ["_law_cell"] fk fdk)(FWS:Def K mg "_law_words" bg [] fWS fdWS)(FM:Def K mg "_law_mix" sMix ["_law_number", "_law_k"] fM fdM)(B:Bi K mg):FnOk P w K mg base CX0 2 fk fdk ["_law_cell"] d3:=by
 have GWS:FnOk P w K mg base CX0 1 fWS fdWS [] bT:=c9 FWS;have GM:FnOk P w K mg base CX0 1 fM fdM ["_law_number", "_law_k"] dz:=ok_mix FM;refine F.fn.ok scLWord (fun vs H Q E h=>?_) (fun cdv A outer s H vs Q E hr h=>?_)
 . obtain⟨n,rfl,_⟩:=h;rfl
 . obtain⟨n,rfl,hn,k⟩:=h;have nd:=scLWord.nd;refine⟨_,(ae (aD (i:=1) nd rfl (Or.inl rfl) (be GWS (hr.mono (by decide)) rfl FWS.mg FWS.fn.kp FWS.bn .nil aH))
    (ae (aD (i:=2) nd rfl (Or.inl rfl) (bO (ixK K) (pv 1) (aq bh (pv 0) ah) (fun _ _=>rfl)))
    (ae (aD (i:=3) nd rfl (Or.inl rfl) (aq bh (aq op_fdiv (pv 0) ah) ah))
    (ae (aD (i:=4) nd rfl (Or.inl rfl) (aq bh (aE GM (hr.mono (by decide)) rfl FM.mg FM.fn.kp FM.bn .nil aH (a6 (pv 0) (ag ah a9))) (aq bK (ai call_len_str (by rfl) B.len PySem.boot_len (a6 (pv 2) a9)) ah)))
    (ae (aD (i:=5) nd rfl (Or.inr rfl) ar)
    (ae (aO (aL bP (pv 3) ah (aT _)) (ad (ak (aI aU (pv 2) aY (aN (pe_un un_neg ah))))) ay)
    (ae (aO (aL bP (pv 3) ah (aT _)) (ad (ak (aq aG (aq aG (aI aU (pv 2) aY (aN (pv 4))) (bO dl (pv 5) (aq bh (aE GM (hr.mono (by decide)) rfl FM.mg FM.fn.kp FM.bn .nil aH (a6 (pv 0) (ag ah a9))) ah) (fun _ _=>rfl))) (aI aU (pv 2) (aN (pv 4)) aY)))) ay)
    (ae (aO (aL bP (pv 3) ah (aT _)) (ad (ak (aq aG (aq aG (aI aU (pv 2) aY (aN (pv 4))) ar) (aI aU (pv 2) (aN (pv 4)) aY)))) ay)
    (ae (aO (aL bP (pv 3) ah (aT _)) (ad (ak (aq aG (aq aG (aI aU (pv 2) aY (aN (pv 4))) (pe_bm0 PySem.F.plainAttrs_str PySem.F.slot_str_upper PySem.F.type_str_upper mt_upper (aI aU (pv 2) (aN (pv 4)) (aN (aq bK (pv 4) ah))))) (aI aU (pv 2) (aN (aq bK (pv 4) ah)) aY)))) ay)
    (ae (aO (aL bP (pv 3) ah (aT _)) (ad (ak (aq aG (pv 2) (bO (ixK K) (pv 1) (aq bh (aE GM (hr.mono (by decide)) rfl FM.mg FM.fn.kp FM.bn .nil aH (a6 (pv 0) (ag ah a9))) ah) (fun _ _=>rfl))))) ay)
    (ae (aO (aL bP (pv 3) ah (aT _)) (ad (ak (cQ PySem.F.plainAttrs_str PySem.F.slot_str_join PySem.F.type_str_join (mt_joinK K) ar (a6 (d5 (a7 bN).names ["_law_cell", "_law_words_here", "_law_word_here", "_law_choice", "_law_at", "_law_letters"] ["_law_cell", "_law_words_here", "_law_word_here", "_law_choice", "_law_at", "_law_letters", "_law_k"] (bu rfl B.range (c8 (aq bh (aE GM (hr.mono (by decide)) rfl FM.mg FM.fn.kp FM.bn .nil aH (a6 (pv 0) (ag ah a9))) ah) a9)) (fun _ _ _ _=>dj) (fun _ _ _ _=>(bO dl (pv 5) (aq bh (aE GM (hr.mono (by decide)) rfl FM.mg FM.fn.kp FM.bn .nil aH (c8 (aq bK (pv 0) (aq bz (pv 6) (pv 6))) (a6 (pv 6) a9))) ah) (fun _ _=>rfl)))) a9)))) ay)
    (ad (ak (pv 2)))))))))))))),?_⟩
   refine⟨rfl,fun L H1 s1 hL=>?_⟩;have hn':intBits n≤2 ^ 21:=Nat.le_trans hn (by decide)
   have i0:=Int.emod_nonneg n (show(11:Int)≠0 by decide)
   have i1:=Int.emod_lt_of_pos n (show(0:Int) < 11 by decide)
   obtain⟨j,hj⟩:∃j:Nat,n % 11=(j:Int):=⟨(n % 11).toNat,by omega⟩
   have hj11:j < 11:=by omega
   refine⟨_,rfl,_,rfl,_,_,rfl,rfl,(by show(0:Int) < 11;decide),L,_,_,_,rfl,rfl,SqL.of hL,(by rw[hj];exact bq (aF j hj11)),?_⟩
   have wl:(aA j).length≤7:=bV j hj11;generalize aA j=x at wl⊢;refine⟨_,rfl,_,_,rfl,rfl,⟨by decide,by decide⟩,_,_,rfl,rfl,(by show(0:Int) < 8;decide),?_⟩
   refine⟨_,rfl,_,_,rfl,hn',by decide,by decide,_,rfl,x,rfl,aB (by omega),_,_,rfl,rfl,_,_,rfl,rfl,(by show(0:Int) < (x.length:Int)+1;omega),?_⟩
   have zx:x.length≤sizeLine:=aB (by omega)
   have sl:∀lo hi,(StrLaws.sliceText x lo hi).length≤7:=fun lo hi=>Nat.le_trans (cp x lo hi) wl;have ix26:∀m:Int,0≤m->m < 26->∃q,atI ("abcdefghijklmnopqrstuvwxyz" : Str).cps.toList m=some q:=fun m h0 h1=>⟨_,dc h0 (List.getElem?_eq_getElem (by show m.toNat < 26;omega))⟩
   refine⟨_,rfl,rfl,_,rfl,?_⟩;refine iteD (fun _=>?_) (fun _=>?_)
   . exact⟨_,rfl,_,rfl,_,rfl,x,rfl,zx,k _ _ s1⟩
   refine⟨_,rfl,rfl,_,rfl,?_⟩;refine iteD (fun _=>?_) (fun _=>?_)
   . obtain⟨q,hq⟩:=ix26 _ (Int.emod_nonneg (mixF n 2) (show(26:Int)≠0 by decide)) (Int.emod_lt_of_pos (mixF n 2) (by decide))
     refine⟨_,rfl,_,rfl,_,rfl,x,rfl,zx,?_⟩;refine⟨_,rfl,_,rfl,_,_,rfl,hn',by decide,by decide,_,_,rfl,rfl,(by show(0:Int) < 26;decide),_,_,q,rfl,rfl,aB (by decide),hq,?_⟩
     refine⟨_,_,rfl,rfl,aB (by have:=sl none (some (mixF n 1 % ((x.length:Int)+1)));show _+1≤_;omega),?_⟩
     refine⟨_,rfl,_,rfl,_,rfl,x,rfl,zx,?_⟩;refine⟨_,_,rfl,rfl,aB ?_,k _ _ s1⟩;rw[cH];have a1:=sl none (some (mixF n 1 % ((x.length:Int)+1)));have a2:=sl (some (mixF n 1 % ((x.length:Int)+1))) none;show _+1+_≤4000;omega
   refine⟨_,rfl,rfl,_,rfl,?_⟩;refine iteD (fun _=>?_) (fun _=>?_)
   . refine⟨_,rfl,_,rfl,_,rfl,x,rfl,zx,?_⟩;have a1:=sl none (some (mixF n 1 % ((x.length:Int)+1)));have a2:=sl (some (mixF n 1 % ((x.length:Int)+1))) none;refine⟨_,_,rfl,rfl,aB (by show _+1≤_;omega),?_⟩
     refine⟨_,rfl,_,rfl,_,rfl,x,rfl,zx,?_⟩;refine⟨_,_,rfl,rfl,aB ?_,k _ _ s1⟩;rw[cH];show _+1+_≤4000;omega
   refine⟨_,rfl,rfl,_,rfl,?_⟩;refine iteD (fun _=>?_) (fun _=>?_)
   . refine⟨_,rfl,_,rfl,_,rfl,x,rfl,zx,?_⟩;have a1:=sl none (some (mixF n 1 % ((x.length:Int)+1)));refine⟨_,rfl,_,rfl,_,rfl,_,rfl,_,_,rfl,rfl,_,rfl,x,rfl,zx,?_⟩;have a2:=sl (some (mixF n 1 % ((x.length:Int)+1))) (some (mixF n 1 % ((x.length:Int)+1)+1));have a3:=PyProof.Rows.len_upper (StrLaws.sliceText x (some (mixF n 1 % ((x.length:Int)+1))) (some (mixF n 1 % ((x.length:Int)+1)+1)));have zz:(4000:Nat)≤sizeLine:=aB (by decide)
     refine⟨rfl,_,rfl,rfl,decide_eq_false (by show ¬(sizeLine < _);omega),?_⟩
     refine⟨_,_,rfl,rfl,aB (by omega),?_⟩
     refine⟨_,rfl,_,rfl,_,_,rfl,rfl,_,rfl,x,rfl,zx,?_⟩;refine⟨_,_,rfl,rfl,aB ?_,k _ _ s1⟩;rw[cH];have a4:=sl (some (mixF n 1 % ((x.length:Int)+1)+1)) none;omega
   refine⟨_,rfl,rfl,_,rfl,?_⟩;refine iteD (fun _=>?_) (fun _=>?_)
   . obtain⟨j3,hj3⟩:∃j:Nat,mixF n 3 % 11=(j:Int):=⟨(mixF n 3 % 11).toNat,by have:=Int.emod_nonneg (mixF n 3) (show(11:Int)≠0 by decide);omega⟩
     have j3l:j3 < 11:=by have:=Int.emod_lt_of_pos (mixF n 3) (show(0:Int) < 11 by decide);omega
     refine⟨_,rfl,_,rfl,_,rfl,_,_,rfl,hn',by decide,by decide,_,_,rfl,rfl,(by show(0:Int) < 11;decide),L,_,_,_,rfl,rfl,SqL.of hL,(by rw[hj3];exact bq (aF j3 j3l)),?_⟩
     exact⟨_,_,rfl,rfl,aB (by have:=bV j3 j3l;omega),k _ _ s1⟩
   refine⟨_,rfl,rfl,_,rfl,?_⟩;refine iteD (fun _=>?_) (fun _=>?_)
   . have m0:=Int.emod_nonneg (mixF n 4) (show(10:Int)≠0 by decide)
     have m1:=Int.emod_lt_of_pos (mixF n 4) (show(0:Int) < 10 by decide)
     refine⟨rfl,_,rfl,_,_,rfl,hn',by decide,by decide,_,_,rfl,rfl,(by show(0:Int) < 10;decide),_,rfl,by show -2 ^ 62≤mixF n 4 % 10;omega,by show mixF n 4 % 10 < 2 ^ 62;omega,fun D hD=>?_⟩
     obtain⟨cn,hcn⟩:∃cn:Nat,mixF n 4 % 10=(cn:Int):=⟨_,(Int.toNat_of_nonneg m0).symm⟩;rw[hcn]at m1;rw[hcn,Int.toNat_natCast];refine cU (fv:=fun i=>V.str (ltOf (mixF (n+(0+(i:Int))*(0+(i:Int))) (0+(i:Int)) % 26))) hD (by omega) (fun i hi H4 Qv s4 kk=>?_) fun H2 hD2 s2=>?_
     . have hq:=ltOf_at (Int.emod_nonneg (mixF (n+(0+(i:Int))*(0+(i:Int))) (0+(i:Int))) (show(26:Int)≠0 by decide)) (Int.emod_lt_of_pos (mixF (n+(0+(i:Int))*(0+(i:Int))) (0+(i:Int))) (by decide))
       have hi2:(0+(i:Int))*(0+(i:Int)) < 2 ^ 64:=by
        have:(0+(i:Int))*(0+(i:Int))≤10*10:=Int.mul_le_mul (by omega) (by omega) (by omega) (by decide)
        omega
       have hi3:0≤(0+(i:Int))*(0+(i:Int)):=Int.mul_nonneg (by omega) (by omega)
       have hb:=bits_add' (Nat.le_trans hn (by decide)) (b:=(0+(i:Int))*(0+(i:Int))) ⟨by omega,hi2⟩
       refine⟨_,rfl,_,rfl,_,rfl,_,rfl,_,_,rfl,rfl,.inl ⟨by omega,by omega⟩,_,_,rfl,rfl,_,rfl,_,_,rfl,hb,by omega,by omega,?_⟩
       refine⟨_,_,rfl,rfl,(by show(0:Int) < 26;decide),_,_,_,rfl,rfl,aB (by decide),hq,?_⟩
       exact kk H4 (Same.refl _)
     . refine⟨_,D,(List.range cn).map fun i:Nat=>ltOf (mixF (n+(0+(i:Int))*(0+(i:Int))) (0+(i:Int)) % 26),rfl,rfl,SqL.of (by rw[List.map_map];exact hD2),?_,k _ _ (s1.trans s2)⟩
       refine join_ok (B:=1) (fun y hy=>?_) ?_
       . obtain⟨_,_,rfl⟩:=List.mem_map.mp hy;exact Nat.le_refl _
       . rw[List.length_map,List.length_range];show cn*1+cn*0≤_;omega
   exact⟨_,rfl,k _ _ s1⟩
end
end Tw
namespace Tw
open PySem L2
section
variable {P:Program}{w:World}{K:PySem.W.Frag}{mg:Str->Option Value}{base:Heap}{c f:Nat->Addr}{fd:Nat->FuncData}
def cF (i:Nat):List V:=[V.bl (a5 i 0),V.bl (a5 i 1),V.bl (a5 i 2),V.bl (a5 i 3),V.bl (a5 i 4),V.bl (a5 i 5),V.bl (a5 i 6),V.bl (a5 i 7),V.bl (a5 i 8),V.bl (a5 i 9),V.bl (a5 i 10),V.bl (a5 i 11),V.bl (a5 i 12),V.bl (a5 i 13)]
def d2 (c:Nat->Addr):Sp:=fun vs H Q _=>∃(i:Nat) (a dx:Addr),i < 11/\vs=[.ref a]/\H a=some (.ins (c i) dx [])/\∀(L:Addr) (H':Hp),Same H H'->H' L=some (.lst (cF i))->Q (.ref L) H'
theorem scMarks:FnScope ["_law_kind", "_law_found"] ["_law_kind"] (a7 bv):=⟨rfl,rfl,rfl,by decide +kernel,rfl,by decide +kernel,by decide +kernel⟩
theorem ok_marks {fk:Addr}{fdk:FuncData}(F:Def K mg "_law_marks" bv ["_law_kind"] fk fdk)(TK:Kds K mg c f fd)(B:Bi K mg):FnOk P w K mg base CX0 1 fk fdk ["_law_kind"] (d2 c):=by
 refine F.fn.ok scMarks (fun vs H Q E h=>?_) (fun cdv A outer s H vs Q E hr h=>?_)
 . obtain⟨i,a,dx,_,rfl,_⟩:=h;rfl
 . obtain⟨i,a,dx,hi,rfl,ha,k⟩:=h;have nd:=scMarks.nd;refine⟨_,(ae (aD (i:=1) nd rfl (Or.inl rfl) (b8 (a6 (ai (aw K) (by rfl) B.isinstance PyProof.Rows.boot_isinstance (a6 (pv 0) (a6 (aj (v:=.ref (c 0)) rfl (TK.nam 0 (by decide)) rfl) a9))) (a6 (ai (aw K) (by rfl) B.isinstance PyProof.Rows.boot_isinstance (a6 (pv 0) (a6 (aj (v:=.ref (c 1)) rfl (TK.nam 1 (by decide)) rfl) a9))) (a6 (ai (aw K) (by rfl) B.isinstance PyProof.Rows.boot_isinstance (a6 (pv 0) (a6 (aj (v:=.ref (c 2)) rfl (TK.nam 2 (by decide)) rfl) a9))) (a6 (ai (aw K) (by rfl) B.isinstance PyProof.Rows.boot_isinstance (a6 (pv 0) (a6 (aj (v:=.ref (c 3)) rfl (TK.nam 3 (by decide)) rfl) a9))) a9))))))
    (ae (aD (i:=1) nd rfl (Or.inl rfl) (aq bJ (pv 1) (b8 (a6 (ai (aw K) (by rfl) B.isinstance PyProof.Rows.boot_isinstance (a6 (pv 0) (a6 (aj (v:=.ref (c 4)) rfl (TK.nam 4 (by decide)) rfl) a9))) (a6 (ai (aw K) (by rfl) B.isinstance PyProof.Rows.boot_isinstance (a6 (pv 0) (a6 (aj (v:=.ref (c 5)) rfl (TK.nam 5 (by decide)) rfl) a9))) (a6 (ai (aw K) (by rfl) B.isinstance PyProof.Rows.boot_isinstance (a6 (pv 0) (a6 (aj (v:=.ref (c 6)) rfl (TK.nam 6 (by decide)) rfl) a9))) a9))))))
    (ae (aD (i:=1) nd rfl (Or.inl rfl) (aq bJ (pv 1) (b8 (a6 (ai (aw K) (by rfl) B.isinstance PyProof.Rows.boot_isinstance (a6 (pv 0) (a6 (aj (v:=.ref (c 7)) rfl (TK.nam 7 (by decide)) rfl) a9))) (a6 (ai (aw K) (by rfl) B.isinstance PyProof.Rows.boot_isinstance (a6 (pv 0) (a6 (aj (v:=.ref (c 8)) rfl (TK.nam 8 (by decide)) rfl) a9))) (a6 (ai (aw K) (by rfl) B.isinstance PyProof.Rows.boot_isinstance (a6 (pv 0) (a6 (aj (v:=.ref (c 9)) rfl (TK.nam 9 (by decide)) rfl) a9))) a9))))))
    (ae (cD (cQ PySem.F.plainAttrs_list PySem.F.slot_list_append PySem.F.type_list_append bL (pv 1) (a6 (ai (aw K) (by rfl) B.isinstance PyProof.Rows.boot_isinstance (a6 (pv 0) (a6 (aj (v:=.ref (c 10)) rfl (TK.nam 10 (by decide)) rfl) a9))) a9)))
    (ad (ak (aq bJ (pv 1) (b8 (a6 (ai (aw K) (by rfl) B.isinstance PyProof.Rows.boot_isinstance (a6 (pv 0) (a6 (aj (v:=.ref (c 11)) rfl (TK.nam 11 (by decide)) rfl) a9))) (a6 (ai (aw K) (by rfl) B.isinstance PyProof.Rows.boot_isinstance (a6 (pv 0) (a6 (aj (v:=.ref (c 12)) rfl (TK.nam 12 (by decide)) rfl) a9))) (a6 (ai (aw K) (by rfl) B.isinstance PyProof.Rows.boot_isinstance (a6 (pv 0) (a6 (aj (v:=.ref (c 13)) rfl (TK.nam 13 (by decide)) rfl) a9))) a9))))))))))),?_⟩
   have it:∀{HX:Hp},Same H HX->TyOf K HX (.ref a) (.ref (c i)):=fun sX=>TK.ty hi (sX _ _ ha);have mk:=fun j hj=>TK.mark i hi j hj;have s0:=Same.refl H;refine⟨_,rfl,_,_,_,_,rfl,it s0,mk 0 (by decide),_,rfl,_,_,_,_,rfl,it s0,mk 1 (by decide),_,rfl,_,_,_,_,rfl,it s0,mk 2 (by decide),_,rfl,_,_,_,_,rfl,it s0,mk 3 (by decide),by show 4≤sizeLine;exact aC (by decide),fun A1 hA1=>?_⟩
   have w1:=af (o:=.lst [V.bl (a5 i 0),V.bl (a5 i 1),V.bl (a5 i 2),V.bl (a5 i 3)]) hA1;have u1:(upd H A1 (.lst [V.bl (a5 i 0),V.bl (a5 i 1),V.bl (a5 i 2),V.bl (a5 i 3)])) A1=some (.lst [V.bl (a5 i 0),V.bl (a5 i 1),V.bl (a5 i 2),V.bl (a5 i 3)]):=ac;generalize upd H A1 (.lst [V.bl (a5 i 0),V.bl (a5 i 1),V.bl (a5 i 2),V.bl (a5 i 3)])=H1 at w1 u1⊢;refine⟨_,rfl,_,rfl,_,_,_,_,rfl,it w1,mk 4 (by decide),_,rfl,_,_,_,_,rfl,it w1,mk 5 (by decide),_,rfl,_,_,_,_,rfl,it w1,mk 6 (by decide),by show 3≤sizeLine;exact aC (by decide),fun A2 hA2=>?_⟩
   have w2:=af (o:=.lst [V.bl (a5 i 4),V.bl (a5 i 5),V.bl (a5 i 6)]) hA2;refine⟨A1,A2,_,_,rfl,rfl,w2 _ _ u1,ac,by show 7≤sizeLine;exact aC (by decide),fun A3 hA3=>?_⟩
   have s3:=(w1.trans w2).trans (af (o:=.lst [V.bl (a5 i 0),V.bl (a5 i 1),V.bl (a5 i 2),V.bl (a5 i 3),V.bl (a5 i 4),V.bl (a5 i 5),V.bl (a5 i 6)]) hA3);have u3:(upd (upd H1 A2 (.lst [V.bl (a5 i 4),V.bl (a5 i 5),V.bl (a5 i 6)])) A3 (.lst ([V.bl (a5 i 0),V.bl (a5 i 1),V.bl (a5 i 2),V.bl (a5 i 3)]++[V.bl (a5 i 4),V.bl (a5 i 5),V.bl (a5 i 6)]))) A3=some (.lst [V.bl (a5 i 0),V.bl (a5 i 1),V.bl (a5 i 2),V.bl (a5 i 3),V.bl (a5 i 4),V.bl (a5 i 5),V.bl (a5 i 6)]):=ac;generalize hX:upd (upd H1 A2 (.lst [V.bl (a5 i 4),V.bl (a5 i 5),V.bl (a5 i 6)])) A3 (.lst ([V.bl (a5 i 0),V.bl (a5 i 1),V.bl (a5 i 2),V.bl (a5 i 3)]++[V.bl (a5 i 4),V.bl (a5 i 5),V.bl (a5 i 6)]))=H3 at u3⊢;have s3:Same H H3:=hX▸s3;clear hX;refine⟨_,rfl,_,rfl,_,_,_,_,rfl,it s3,mk 7 (by decide),_,rfl,_,_,_,_,rfl,it s3,mk 8 (by decide),_,rfl,_,_,_,_,rfl,it s3,mk 9 (by decide),by show 3≤sizeLine;exact aC (by decide),fun A4 hA4=>?_⟩
   have w4:=af (o:=.lst [V.bl (a5 i 7),V.bl (a5 i 8),V.bl (a5 i 9)]) hA4;refine⟨A3,A4,_,_,rfl,rfl,w4 _ _ u3,ac,by show 10≤sizeLine;exact aC (by decide),fun A5 hA5=>?_⟩
   have s5:=(s3.trans w4).trans (af (o:=.lst [V.bl (a5 i 0),V.bl (a5 i 1),V.bl (a5 i 2),V.bl (a5 i 3),V.bl (a5 i 4),V.bl (a5 i 5),V.bl (a5 i 6),V.bl (a5 i 7),V.bl (a5 i 8),V.bl (a5 i 9)]) hA5);have f5:H A5=none:=(s3.trans w4).free hA5;have u5:(upd (upd H3 A4 (.lst [V.bl (a5 i 7),V.bl (a5 i 8),V.bl (a5 i 9)])) A5 (.lst ([V.bl (a5 i 0),V.bl (a5 i 1),V.bl (a5 i 2),V.bl (a5 i 3),V.bl (a5 i 4),V.bl (a5 i 5),V.bl (a5 i 6)]++[V.bl (a5 i 7),V.bl (a5 i 8),V.bl (a5 i 9)]))) A5=some (.lst [V.bl (a5 i 0),V.bl (a5 i 1),V.bl (a5 i 2),V.bl (a5 i 3),V.bl (a5 i 4),V.bl (a5 i 5),V.bl (a5 i 6),V.bl (a5 i 7),V.bl (a5 i 8),V.bl (a5 i 9)]):=ac;generalize hX:upd (upd H3 A4 (.lst [V.bl (a5 i 7),V.bl (a5 i 8),V.bl (a5 i 9)])) A5 (.lst ([V.bl (a5 i 0),V.bl (a5 i 1),V.bl (a5 i 2),V.bl (a5 i 3),V.bl (a5 i 4),V.bl (a5 i 5),V.bl (a5 i 6)]++[V.bl (a5 i 7),V.bl (a5 i 8),V.bl (a5 i 9)]))=H5 at u5⊢;have s5:Same H H5:=hX▸s5;clear hX;refine⟨_,rfl,.inl ⟨rfl,_,SqL.of u5⟩,_,rfl,_,_,_,_,rfl,it s5,mk 10 (by decide),A5,_,_,rfl,rfl,u5,by show 10 < sizeLine;exact bt (by decide),?_⟩
   have s6:Same H (upd H5 A5 (.lst ([V.bl (a5 i 0),V.bl (a5 i 1),V.bl (a5 i 2),V.bl (a5 i 3),V.bl (a5 i 4),V.bl (a5 i 5),V.bl (a5 i 6),V.bl (a5 i 7),V.bl (a5 i 8),V.bl (a5 i 9)]++[V.bl (a5 i 10)]))):=fun b o e=>by rw[am (au e f5)];exact s5 b o e
   have u6:(upd H5 A5 (.lst ([V.bl (a5 i 0),V.bl (a5 i 1),V.bl (a5 i 2),V.bl (a5 i 3),V.bl (a5 i 4),V.bl (a5 i 5),V.bl (a5 i 6),V.bl (a5 i 7),V.bl (a5 i 8),V.bl (a5 i 9)]++[V.bl (a5 i 10)]))) A5=some (.lst [V.bl (a5 i 0),V.bl (a5 i 1),V.bl (a5 i 2),V.bl (a5 i 3),V.bl (a5 i 4),V.bl (a5 i 5),V.bl (a5 i 6),V.bl (a5 i 7),V.bl (a5 i 8),V.bl (a5 i 9),V.bl (a5 i 10)]):=ac;generalize upd H5 A5 (.lst ([V.bl (a5 i 0),V.bl (a5 i 1),V.bl (a5 i 2),V.bl (a5 i 3),V.bl (a5 i 4),V.bl (a5 i 5),V.bl (a5 i 6),V.bl (a5 i 7),V.bl (a5 i 8),V.bl (a5 i 9)]++[V.bl (a5 i 10)]))=H6 at s6 u6⊢;refine⟨_,rfl,_,rfl,_,_,_,_,rfl,it s6,mk 11 (by decide),_,rfl,_,_,_,_,rfl,it s6,mk 12 (by decide),_,rfl,_,_,_,_,rfl,it s6,mk 13 (by decide),by show 3≤sizeLine;exact aC (by decide),fun A7 hA7=>?_⟩
   have w7:=af (o:=.lst [V.bl (a5 i 11),V.bl (a5 i 12),V.bl (a5 i 13)]) hA7;refine⟨A5,A7,_,_,rfl,rfl,w7 _ _ u6,ac,by show 14≤sizeLine;exact aC (by decide),fun A8 hA8=>?_⟩
   exact k A8 _ ((s6.trans w7).trans (af hA8)) ac
def dueV (i:Nat):List V:=(List.range 11).map (fun k:Nat=>V.bl (decide (V.int (0+(k:Int))=V.int (i:Int))))++[V.bl (inV (.int (i:Int)) [.int 2,.int 3]),V.bl (inV (.int (i:Int)) [.int 4,.int 5,.int 6]),V.bl (inV (.int (i:Int)) [.int 8,.int 9])]
theorem due_is:∀i,i < 11->eqVs (cF i) (dueV i)=true
 | 0,_=>by decide +kernel | 1,_=>by decide +kernel | 2,_=>by decide +kernel | 3,_=>by decide +kernel | 4,_=>by decide +kernel | 5,_=>by decide +kernel | 6,_=>by decide +kernel | 7,_=>by decide +kernel | 8,_=>by decide +kernel | 9,_=>by decide +kernel | 10,_=>by decide +kernel
 | n+11,h=>absurd h (by omega)
def cL (c:Nat->Addr):Sp:=fun vs H Q _=>∃(i:Nat) (a dx:Addr),i < 11/\vs=[.ref a,.int (i:Int)]/\H a=some (.ins (c i) dx [])/\∀H',Same H H'->Q (.bl true) H'
theorem scIsKind:FnScope ["_law_kind", "_law_at", "_law_word_here"] ["_law_kind", "_law_at"] (a7 aW):=⟨rfl,rfl,rfl,by decide +kernel,rfl,by decide +kernel,by decide +kernel⟩
theorem ok_iskind {fk fMK fWS:Addr}{fdk fdMK fdWS:FuncData}(F:Def K mg "_law_is_kind" aW ["_law_kind", "_law_at"] fk fdk)(FMK:Def K mg "_law_marks" bv ["_law_kind"] fMK fdMK)(FWS:Def K mg "_law_words" bg [] fWS fdWS)(TK:Kds K mg c f fd)(hS:mg "str" = none)(hSS:PySem.W.kitOne K (.type "str") (.type "str")=some true)(B:Bi K mg):FnOk P w K mg base CX0 2 fk fdk ["_law_kind", "_law_at"] (cL c):=by
 have GMK:FnOk P w K mg base CX0 1 fMK fdMK ["_law_kind"] (d2 c):=ok_marks FMK TK B;have GWS:FnOk P w K mg base CX0 1 fWS fdWS [] bT:=c9 FWS;have HS:∀i,i < 11->Cls K (c i)/\Meth K (c i) "word" (f i)/\FnOk P w K mg base CX0 1 (f i) (fd i) ["self"] (spWd i)/\Binds K (fd i) ["self"] []:=fun i hi=>⟨TK.cls i hi,TK.meth i hi,dB TK i hi,TK.bn i hi⟩;refine F.fn.ok scIsKind (fun vs H Q E h=>?_) (fun cdv A outer s H vs Q E hr h=>?_)
 . obtain⟨i,a,dx,_,rfl,_⟩:=h;rfl
 . obtain⟨i,a,dx,hi,rfl,ha,k⟩:=h;have nd:=scIsKind.nd;have hu:=fu hr;refine⟨_,(ae (aO (bw (aS (ai (aw K) (by rfl) B.isinstance PyProof.Rows.boot_isinstance (a6 (pv 0) (a6 (aj (v:=.ref (c 14)) rfl (TK.nam 14 (by decide)) rfl) a9))))) (ad (ak bD)) ay)
    (ae (aD (i:=2) nd rfl (Or.inl rfl) (cP (pv 0) HS (hr.mono (by decide)) aH))
    (ae (aO (PW.pt (cN (bw (aS (ai (d7 K) (by rfl) B.isinstance PyProof.Rows.boot_isinstance (a6 (pv 2) (a6 (cE (v:=.ty "str") rfl hS PyProof.Rows.boot_str rfl) a9))))) (bY (aL dA (pv 2) (bO (ixK K) (be GWS (hr.mono (by decide)) rfl FWS.mg FWS.fn.kp FWS.bn .nil aH) (pv 1) (fun _ _=>rfl)) (aT _))))) (ad (ak bD)) ay)
    (ad (ak (bC (op_eqLK K (Nat.lt_of_succ_lt hu)) (aE GMK (hr.mono (by decide)) rfl FMK.mg FMK.fn.kp FMK.bn .nil aH (a6 (pv 0) a9)) (aq bJ (d5 (a7 aW).names ["_law_kind", "_law_at", "_law_word_here"] ["_law_kind", "_law_at", "_law_word_here", "_law_k"] (bu rfl B.range (ag ah a9)) (fun _ _ _ _=>dj) (fun _ _ _ _=>(bC bP (pv 3) (pv 1) (aT _)))) (b8 (a6 (bC (inK K) (pv 1) (bx (ag ah (ag ah a9))) rfl) (a6 (bC (inK K) (pv 1) (bx (ag ah (ag ah (ag ah a9)))) rfl) (a6 (bC (inK K) (pv 1) (bx (ag ah (ag ah a9))) rfl) a9))))) (aT _))))))),?_⟩
   refine⟨_,rfl,_,_,_,_,rfl,TK.ty hi ha,TK.isq i hi,_,rfl,iteF ?_⟩;refine⟨_,rfl,i,a,dx,[],hi,rfl,ha,rfl,_,rfl,?_⟩;refine⟨_,rfl,_,_,_,_,rfl,.str _,hSS,_,rfl,iteF ?_⟩;refine⟨_,rfl,rfl,fun L H1 s1 hL=>?_⟩;refine⟨_,rfl,L,_,_,_,rfl,rfl,SqL.of hL,bq (aF i hi),rfl,_,rfl,?_⟩;rw[decide_eq_true rfl];refine iteF ?_;refine⟨_,rfl,i,a,dx,hi,rfl,s1 _ _ ha,fun L2 H2 s2 hL2=>?_⟩;refine⟨_,rfl,by decide,by decide,fun D hD=>?_⟩
   refine cU (fv:=fun k=>V.bl (decide (V.int (0+(k:Int))=V.int (i:Int)))) hD (by decide) (fun j hj H4 Qv s4 kk=>⟨_,rfl,_,rfl,rfl,kk H4 (Same.refl _)⟩) fun H3 hD3 s3=>?_
   refine⟨_,rfl,by show 2≤sizeLine;exact aC (by decide),fun T1 hT1=>?_⟩
   have w4:=af (o:=.tup [V.int 2,V.int 3]) hT1;refine⟨T1,_,rfl,.inr (SqT.of ac),rfl,rfl,?_⟩;generalize upd H3 T1 (.tup [V.int 2,V.int 3])=H4 at w4⊢;refine⟨_,rfl,by show 3≤sizeLine;exact aC (by decide),fun T2 hT2=>?_⟩
   have w5:=af (o:=.tup [V.int 4,V.int 5,V.int 6]) hT2;refine⟨T2,_,rfl,.inr (SqT.of ac),rfl,rfl,?_⟩;generalize upd H4 T2 (.tup [V.int 4,V.int 5,V.int 6])=H5 at w5⊢;refine⟨_,rfl,by show 2≤sizeLine;exact aC (by decide),fun T3 hT3=>?_⟩
   have w6:=af (o:=.tup [V.int 8,V.int 9]) hT3;refine⟨T3,_,rfl,.inr (SqT.of ac),rfl,rfl,?_⟩;generalize upd H5 T3 (.tup [V.int 8,V.int 9])=H6 at w6⊢;rw[if_neg Bool.false_ne_true,if_neg Bool.false_ne_true,if_neg Bool.false_ne_true];refine⟨by show 3≤sizeLine;exact aC (by decide),fun A7 hA7=>?_⟩
   have w7:=af (o:=.lst [V.bl (inV (.int (i:Int)) [.int 2,.int 3]),V.bl (inV (.int (i:Int)) [.int 4,.int 5,.int 6]),V.bl (inV (.int (i:Int)) [.int 8,.int 9])]) hA7;have u7:(upd H6 A7 (.lst [V.bl (inV (.int (i:Int)) [.int 2,.int 3]),V.bl (inV (.int (i:Int)) [.int 4,.int 5,.int 6]),V.bl (inV (.int (i:Int)) [.int 8,.int 9])])) A7=some (.lst [V.bl (inV (.int (i:Int)) [.int 2,.int 3]),V.bl (inV (.int (i:Int)) [.int 4,.int 5,.int 6]),V.bl (inV (.int (i:Int)) [.int 8,.int 9])]):=ac;generalize upd H6 A7 (.lst [V.bl (inV (.int (i:Int)) [.int 2,.int 3]),V.bl (inV (.int (i:Int)) [.int 4,.int 5,.int 6]),V.bl (inV (.int (i:Int)) [.int 8,.int 9])])=H7 at w7 u7⊢;have s37:=((w4.trans w5).trans w6).trans w7;have hD7:=s37 _ _ hD3;refine⟨D,A7,_,_,rfl,rfl,hD7,u7,by rw[List.length_map,List.length_range];show 14≤sizeLine;exact aC (by decide),fun A8 hA8=>?_⟩
   have w8:=af (o:=.lst (dueV i)) hA8;have u8:(upd H7 A8 (.lst (dueV i))) A8=some (.lst (dueV i)):=ac;have s28:=(s3.trans s37).trans w8;refine⟨L2,A8,cF i,dueV i,rfl,rfl,SqL.of (s28 _ _ hL2),SqL.of u8,rfl,?_,?_⟩
   . unfold dueV;rw[List.all_append,List.all_map,Bool.and_eq_true];exact⟨List.all_eq_true.mpr fun _ _=>rfl,rfl⟩
   . show Q (V.bl (eqVs (cF i) (dueV i))) _;rw[due_is i hi];exact k _ ((s1.trans s2).trans s28)
end
end Tw
namespace Tw
open PySem L2
section
variable {P:Program}{w:World}{K:PySem.W.Frag}{mg:Str->Option Value}{base:Heap}{c f:Nat->Addr}{fd:Nat->FuncData}
structure Cx81 (K:PySem.W.Frag) (eTE eNT eNP eNR eNS eNI eNY eNW eNG eNX eNQ eNO eNN C:Addr):Prop where
 te:PySem.W.exmOne K (.ref C) (.ref eTE)=some true
 k1:PySem.W.kitAny K (.ref C) [.ref eNT,.ref eNP,.ref eNR]=some false
 k2:PySem.W.kitAny K (.ref C) [.ref eNS,.ref eNI,.ref eNY]=some false
 k3:PySem.W.kitAny K (.ref C) [.ref eNW,.ref eNG,.ref eNX]=some false
 k4:PySem.W.kitAny K (.ref C) [.ref eNQ,.ref eNO,.ref eNN]=some false
 s:PySem.W.kitOne K (.ref C) (.ref C)=some true
 v:PySem.W.kitOne K (.ref C) (.type "ValueError")=some true
def d0:Sp:=fun vs H Q _=>∃x:Str,vs=[.str x]/\(∀i,i < 11->x≠aA i)/\∀H',Same H H'->Q (.bl true) H'
theorem scRef81:FnScope ["_law_word_here", "_law_caught", "e"] ["_law_word_here"] (a7 aQ):=⟨rfl,rfl,rfl,by decide +kernel,rfl,by decide +kernel,by decide +kernel⟩
theorem ok_ref81 {fk fKO eTE eNT eNP eNR eNS eNI eNY eNW eNG eNK eNQ eNO eNN eNX:Addr}{fdk fdKO:FuncData}(F:Def K mg "_law_refused" aQ ["_law_word_here"] fk fdk)(FKO:Def K mg "kind_of" aV ["word"] fKO fdKO)(GKO:FnOk P w K mg base (CXE P w) 2 fKO fdKO ["word"] (bX c eNK))(ETE:Nam mg "TreeError" eTE)(ENT:Nam mg "NoTree" eNT)(ENP:Nam mg "NoPlace" eNP)(ENR:Nam mg "NoRoad" eNR)(ENS:Nam mg "NoSpot" eNS)(ENI:Nam mg "NoSite" eNI)(ENY:Nam mg "NoYard" eNY)(ENW:Nam mg "NoWorth" eNW)(ENG:Nam mg "NoGift" eNG)(ENK:Err K mg "NoKind" eNK)(ENQ:Nam mg "NoQuestion" eNQ)(ENO:Nam mg "NoRow" eNO)(ENN:Nam mg "NoName" eNN)(ENX:Nam mg "NoText" eNX)(hVE:mg "ValueError" = none)(CP:Cx81 K eTE eNT eNP eNR eNS eNI eNY eNW eNG eNX eNQ eNO eNN eNK)(B:Bi K mg):FnOk P w K mg base CX0 3 fk fdk ["_law_word_here"] d0:=by
 refine F.fn.ok scRef81 (fun vs H Q E h=>?_) (fun cdv A outer s H vs Q E hr h=>?_)
 . obtain⟨x,rfl,_⟩:=h;rfl
 . obtain⟨tx,rfl,hn,k⟩:=h;have nd:=scRef81.nd;refine⟨_,(ae (aD (i:=1) nd rfl (Or.inl rfl) pe_non)
    (ae (ps_try (i:=2) (j:=1) GKO (hr.mono (by decide)) rfl FKO.mg FKO.fn.kp FKO.bn .nil (a6 (pv 0) a9) rfl ETE.mg rfl rfl rfl nd rfl rfl rfl rfl)
    (ae (aO (PW.pt (cN (aS (ai bf (by rfl) B.isinstance PyProof.Rows.boot_isinstance (a6 (pv 1) (bE (bx (a6 (aj (v:=.ref eNT) rfl ENT.mg rfl) (a6 (aj (v:=.ref eNP) rfl ENP.mg rfl) (a6 (aj (v:=.ref eNR) rfl ENR.mg rfl) a9)))) a9)))) (bY (aS (ai bf (by rfl) B.isinstance PyProof.Rows.boot_isinstance (a6 (pv 1) (bE (bx (a6 (aj (v:=.ref eNS) rfl ENS.mg rfl) (a6 (aj (v:=.ref eNI) rfl ENI.mg rfl) (a6 (aj (v:=.ref eNY) rfl ENY.mg rfl) a9)))) a9))))))) (ad (ak bD)) ay)
    (ae (aO (PW.pt (cN (aS (ai bf (by rfl) B.isinstance PyProof.Rows.boot_isinstance (a6 (pv 1) (bE (bx (a6 (aj (v:=.ref eNW) rfl ENW.mg rfl) (a6 (aj (v:=.ref eNG) rfl ENG.mg rfl) (a6 (aj (v:=.ref eNX) rfl ENX.mg rfl) a9)))) a9)))) (bY (aS (ai bf (by rfl) B.isinstance PyProof.Rows.boot_isinstance (a6 (pv 1) (bE (bx (a6 (aj (v:=.ref eNQ) rfl ENQ.mg rfl) (a6 (aj (v:=.ref eNO) rfl ENO.mg rfl) (a6 (aj (v:=.ref eNN) rfl ENN.mg rfl) a9)))) a9))))))) (ad (ak bD)) ay)
    (ad (ak (pe_and (ai bf (by rfl) B.isinstance PyProof.Rows.boot_isinstance (a6 (pv 1) (a6 (aj (v:=.ref eNK) rfl ENK.mg rfl) a9))) (pe_one (ai bf (by rfl) B.isinstance PyProof.Rows.boot_isinstance (a6 (pv 1) (a6 (cE (v:=.ty "ValueError") rfl hVE boot_VE rfl) a9))))))))))),?_⟩
   refine⟨_,rfl,tx,rfl,fun i hi e=>absurd e (hn i hi),fun _ H2 s2=>⟨CP.te,fun x hx2=>?_⟩⟩;have s3:Same H (upd H2 x (exO x (.ref eNK))):=s2.trans (af hx2);have u3:(upd H2 x (exO x (.ref eNK))) x=some (exO x (.ref eNK)):=ac;generalize upd H2 x (exO x (.ref eNK))=H3 at s3 u3⊢;refine⟨_,rfl,by show 3≤sizeLine;exact aC (by decide),fun p1 h1=>?_⟩
   have s4:=s3.trans (af (o:=.tup [V.ref eNT,V.ref eNP,V.ref eNR]) h1);have u4:=(af (o:=.tup [V.ref eNT,V.ref eNP,V.ref eNR]) h1) _ _ u3;refine⟨x,eNK,_,false,rfl,u4,ENK.is,Or.inr (Or.inr ⟨p1,[eNT,eNP,eNR],rfl,ac,CP.k1⟩),?_⟩;refine⟨_,rfl,iteF ?_⟩;generalize upd H3 p1 (.tup [V.ref eNT,V.ref eNP,V.ref eNR])=H4 at s4 u4⊢;refine⟨_,rfl,by show 3≤sizeLine;exact aC (by decide),fun p2 h2=>?_⟩
   have s5:=s4.trans (af (o:=.tup [V.ref eNS,V.ref eNI,V.ref eNY]) h2);have u5:=(af (o:=.tup [V.ref eNS,V.ref eNI,V.ref eNY]) h2) _ _ u4;refine⟨x,eNK,_,false,rfl,u5,ENK.is,Or.inr (Or.inr ⟨p2,[eNS,eNI,eNY],rfl,ac,CP.k2⟩),?_⟩;refine⟨_,rfl,iteF ?_⟩;generalize upd H4 p2 (.tup [V.ref eNS,V.ref eNI,V.ref eNY])=H5 at s5 u5⊢;refine⟨_,rfl,by show 3≤sizeLine;exact aC (by decide),fun p3 h3=>?_⟩
   have s6:=s5.trans (af (o:=.tup [V.ref eNW,V.ref eNG,V.ref eNX]) h3);have u6:=(af (o:=.tup [V.ref eNW,V.ref eNG,V.ref eNX]) h3) _ _ u5;refine⟨x,eNK,_,false,rfl,u6,ENK.is,Or.inr (Or.inr ⟨p3,[eNW,eNG,eNX],rfl,ac,CP.k3⟩),?_⟩;refine⟨_,rfl,iteF ?_⟩;generalize upd H5 p3 (.tup [V.ref eNW,V.ref eNG,V.ref eNX])=H6 at s6 u6⊢;refine⟨_,rfl,by show 3≤sizeLine;exact aC (by decide),fun p4 h4=>?_⟩
   have s7:=s6.trans (af (o:=.tup [V.ref eNQ,V.ref eNO,V.ref eNN]) h4);have u7:=(af (o:=.tup [V.ref eNQ,V.ref eNO,V.ref eNN]) h4) _ _ u6;refine⟨x,eNK,_,false,rfl,u7,ENK.is,Or.inr (Or.inr ⟨p4,[eNQ,eNO,eNN],rfl,ac,CP.k4⟩),?_⟩;refine⟨_,rfl,iteF ?_⟩;generalize upd H6 p4 (.tup [V.ref eNQ,V.ref eNO,V.ref eNN])=H7 at s7 u7⊢;refine⟨_,rfl,x,eNK,_,true,rfl,u7,ENK.is,Or.inl ⟨eNK,rfl,CP.s⟩,?_⟩;refine⟨_,rfl,iteT ?_⟩;exact⟨_,rfl,x,eNK,_,true,rfl,u7,ENK.is,Or.inr (Or.inl ⟨_,rfl,CP.v⟩),k H7 s7⟩
end
end Tw
namespace L2
open PySem PySem.Spec
theorem FnOk.to0 {P:Program}{w:World}{K:PySem.W.Frag}{mg:Str->Option Value}{base:Heap}{k:Nat}{f:Addr}{fd:FuncData}{ps:List Str}{sp:Sp}(F:FnOk P w K mg base (CXE P w) k f fd ps sp):FnOk P w K mg base CX0 k f fd ps (fun vs H Q _=>sp vs H Q fun _ _ _=>False):=
 ⟨fun vs H Q E h=>F.len vs H Q _ h,fun A outer s H args us vs Q E hr e0 hb r h=>codeAny_mono (F.run A outer s H args us vs Q _ hr e0 hb r h) fun rr s' q=>by
  cases rr with
  | ok fl=>cases fl<;>exact q
  | error e=>obtain⟨_,_,_,_,_,_,_,_,_,z⟩:=q;exact z.elim⟩
end L2
namespace Tw
open PySem L2
open PySem.Builtin.Int (intBits)
section
variable {P:Program}{w:World}{K:PySem.W.Frag}{mg:Str->Option Value}{base:Heap}{c f:Nat->Addr}{fd:Nat->FuncData}
theorem eqV_str {a b:Str}:eqV (.str a) (.str b)=true<->a=b:=by
 show(a == b)=true<->a=b;exact beq_iff_eq
theorem words_yes {x:Str}(h:inV (.str x) bI=true):∃i,i < 11/\x=aA i:=by
 unfold inV at h;obtain⟨y,hy,e⟩:=List.any_eq_true.mp h;obtain⟨i,hi⟩:=List.mem_iff_getElem?.mp hy;have hl:i < 11:=(List.getElem?_eq_some_iff.mp hi).1;rw[aF i hl]at hi;cases hi;refine⟨i,hl,?_⟩
 first | exact(eqV_str.mp e).symm | exact eqV_str.mp e
theorem words_no {x:Str}(h:inV (.str x) bI=false)(i:Nat)(hi:i < 11):x≠aA i:=fun e=>by
 have:inV (.str x) bI=true:=by
  unfold inV;exact List.any_eq_true.mpr ⟨V.str (aA i),List.mem_of_getElem? (aF i hi),by rw[e];exact eqV_str.mpr rfl⟩
 rw[h]at this;cases this
theorem words_apart:∀i,i < 11->∀m,m < 11->aA m=aA i->m=i:=by decide +kernel
theorem asg_lst {ta:TA}{i:Nat}{r:TS}{D:Ends}{σ:St}{H:Hp}(h:ta σ H fun xs H1=>xs.length≤sizeLine/\∀p,H1 p=none->r D (σ.set i (some (.ref p))) (upd H1 p (.lst xs))):tSeq (tAsg (tLst ta) (dm i)) r D σ H:=h
theorem scLaw:FnScope ["_law_script", "_law_made", "_law_k", "_law_found", "_law_at", "_law_cell", "_law_word_here"] ["_law_script"] (a7 sLaw):=⟨rfl,rfl,rfl,by decide +kernel,rfl,by decide +kernel,by decide +kernel⟩
theorem ok_law {fk fKI fIK fLW fWS fKO fRF eNK:Addr}{fdk fdKI fdIK fdLW fdWS fdKO fdRF:FuncData}(F:Def K mg "law" sLaw ["_law_script"] fk fdk)(FKI:Def K mg "kinds" br [] fKI fdKI)(FIK:Def K mg "_law_is_kind" aW ["_law_kind", "_law_at"] fIK fdIK)(FLW:Def K mg "_law_word" bN ["_law_cell"] fLW fdLW)(FWS:Def K mg "_law_words" bg [] fWS fdWS)(FKO:Def K mg "kind_of" aV ["word"] fKO fdKO)(FRF:Def K mg "_law_refused" aQ ["_law_word_here"] fRF fdRF)(GIK:FnOk P w K mg base CX0 2 fIK fdIK ["_law_kind", "_law_at"] (cL c))(GLW:FnOk P w K mg base CX0 2 fLW fdLW ["_law_cell"] d3)(GKO0:FnOk P w K mg base (CXE P w) 2 fKO fdKO ["word"] (bX c eNK))(GRF:FnOk P w K mg base CX0 3 fRF fdRF ["_law_word_here"] d0)(TK:Kds K mg c f fd)(B:Bi K mg):FnOk P w K mg base CX0 4 fk fdk ["_law_script"] (spLaw K):=by
 have GKI:FnOk P w K mg base CX0 1 fKI fdKI [] (cB c):=cR FKI TK;have GWS:FnOk P w K mg base CX0 1 fWS fdWS [] bT:=c9 FWS;have GKO:=GKO0.to0;refine F.fn.ok scLaw (fun vs H Q E h=>?_) (fun cdv A outer s H vs Q E hr h=>?_)
 . obtain⟨a,ns,rfl,_⟩:=h;rfl
 . obtain⟨a,ns,rfl,hSc,hb,hl,k⟩:=h;have nd:=scLaw.nd;have hu:=fu hr;refine⟨_,(ae (aD (i:=1) nd rfl (Or.inl rfl) (b8 (a6 (al (TK.mkk 0 (by decide)) rfl (TK.nam 0 (by decide))) (a6 (al (TK.mkk 1 (by decide)) rfl (TK.nam 1 (by decide))) (a6 (al (TK.mkk 2 (by decide)) rfl (TK.nam 2 (by decide))) (a6 (al (TK.mkk 3 (by decide)) rfl (TK.nam 3 (by decide))) (a6 (al (TK.mkk 4 (by decide)) rfl (TK.nam 4 (by decide))) (a6 (al (TK.mkk 5 (by decide)) rfl (TK.nam 5 (by decide))) (a6 (al (TK.mkk 6 (by decide)) rfl (TK.nam 6 (by decide))) (a6 (al (TK.mkk 7 (by decide)) rfl (TK.nam 7 (by decide))) (a6 (al (TK.mkk 8 (by decide)) rfl (TK.nam 8 (by decide))) (a6 (al (TK.mkk 9 (by decide)) rfl (TK.nam 9 (by decide))) (a6 (al (TK.mkk 10 (by decide)) rfl (TK.nam 10 (by decide))) a9)))))))))))))
    (ae (cC PassesOwn.never rfl (bu rfl B.range (ag ah a9)) (bU (i:=2) nd rfl (Or.inl rfl)) (ae (aD (i:=3) nd rfl (Or.inl rfl) (be GKI (hr.mono (by decide)) rfl FKI.mg FKI.fn.kp FKI.bn .nil aH))
    (ae (aO (PW.pt (cN (bw (aS (ai (d7 K) (by rfl) B.isinstance PyProof.Rows.boot_isinstance (a6 (pv 3) (a6 (cE (v:=.ty "list") rfl B.list PyProof.Rows.boot_list rfl) a9))))) (bY (aL dA (ai (lenK K) (by rfl) B.len PySem.boot_len (a6 (pv 3) a9)) ah (aT _))))) (ad (ak bD)) ay)
    (ae (cC PassesOwn.never rfl (bu rfl B.range (ag ah a9)) (bU (i:=4) nd rfl (Or.inl rfl)) (ad (aO (PW.pt (cN (bw (aS (aE GIK (hr.mono (by decide)) rfl FIK.mg FIK.fn.kp FIK.bn .nil aH (c7 (bO (ixK K) (pv 3) (pv 4) (fun _ _=>rfl)) (a6 (pv 4) a9))))) (bY (bw (aS (aE GIK (hr.mono (by decide)) rfl FIK.mg FIK.fn.kp FIK.bn .nil aH (c7 (bO (ixK K) (pv 1) (pv 4) (fun _ _=>rfl)) (a6 (pv 4) a9)))))))) (ad (ak bD)) ay)))
    (ae (cD (cQ PySem.F.plainAttrs_list PySem.F.slot_list_pop PySem.F.type_list_pop mt_popAt (pv 3) (c8 (aq bz ah (pv 2)) a9)))
    (ad (cD (cQ PySem.F.plainAttrs_list PySem.F.slot_list_append PySem.F.type_list_append bL (pv 3) (c7 (bO (ixK K) (pv 3) ah (fun _ _=>rfl)) a9)))))))))
    (ae (cC PassesOwn.never rfl (cO K (aq bJ (b8 (ag ah a9)) (aI (slK K) (pv 0) aY (aN ah)))) (bU (i:=5) nd rfl (Or.inl rfl)) (ae (aD (i:=6) nd rfl (Or.inl rfl) (aE GLW (hr.mono (by decide)) rfl FLW.mg FLW.fn.kp FLW.bn .nil aH (a6 (pv 5) a9)))
    (ad (aO (aL (inK K) (pv 6) (be GWS (hr.mono (by decide)) rfl FWS.mg FWS.fn.kp FWS.bn .nil aH) rfl) (ad (aO (bw (aS (aE GIK (hr.mono (by decide)) rfl FIK.mg FIK.fn.kp FIK.bn .nil aH (a6 (aE GKO (hr.mono (by decide)) rfl FKO.mg FKO.fn.kp FKO.bn .nil aH (a6 (pv 6) a9)) (a6 (cQ PySem.F.plainAttrs_list PySem.F.slot_list_index PySem.F.type_list_index mt_indexV (be GWS (hr.mono (by decide)) rfl FWS.mg FWS.fn.kp FWS.bn .nil aH) (a6 (pv 6) a9)) a9))))) (ad (ak bD)) ay)) (ad (aO (bw (aS (aE GRF (hr.mono (by decide)) rfl FRF.mg FRF.fn.kp FRF.bn .nil aH (a6 (pv 6) a9)))) (ad (ak bD)) ay))))))
    (ad (ak bD))))),?_⟩
   refine asg_lst (ce (c:=c) 11 0 fun xs H1 hxl s1 hk1=>?_);refine⟨by rw[List.length_map,hxl];exact aC (by decide),fun M hM=>?_⟩
   have w2:=af (o:=.lst (xs.map V.ref)) hM;have u2:(upd H1 M (.lst (xs.map V.ref))) M=some (.lst (xs.map V.ref)):=ac;generalize upd H1 M (.lst (xs.map V.ref))=H2 at w2 u2⊢;have hk2:=hk1.mono w2;have s02:=s1.trans w2;refine⟨2,rfl,by decide,by decide,cw (fun i σ HX=>∃v2 v3 v4:Option V,σ=[some (.ref a),some (.ref M),v2,v3,v4,none,none]/\Same H2 HX) ⟨none,none,none,rfl,Same.refl _⟩ ?_ ?_⟩
   . rintro i σ HX hi ⟨v2,v3,v4,rfl,sX⟩;refine⟨rfl,fun L ys HY hyl sY hL0 hL hk=>?_⟩;refine⟨_,rfl,_,_,_,_,rfl,.lst hL,B.ll,_,rfl,iteF ?_⟩;refine⟨_,rfl,L,_,rfl,.inl (SqL.of hL),rfl,_,rfl,?_⟩;rw[List.length_map,hyl,show(!decide (V.int ((11:Nat):Int)=V.int 11))=false from rfl]
     refine iteF ?_;refine⟨11,rfl,by decide,by decide,cw (fun j σ HZ=>∃v4:Option V,σ=[some (.ref a),some (.ref M),some (.int (0+(i:Int))),some (.ref L),v4,none,none]/\Same HY HZ) ⟨v4,rfl,Same.refl _⟩ ?_ ?_⟩
     . rintro j σ HZ hj ⟨v4,rfl,sZ⟩;have e0:(0:Int)+(j:Int)=(j:Int):=by omega
       obtain⟨p,hp⟩:∃p,ys[j]? = some p:=⟨ys[j]'(by omega),List.getElem?_eq_getElem _⟩
       obtain⟨q,hq⟩:∃q,xs[j]? = some q:=⟨xs[j]'(by omega),List.getElem?_eq_getElem _⟩
       obtain⟨dp,hpY⟩:=hk.at_ j p hp;obtain⟨dq,hq2⟩:=hk2.at_ j q hq;rw[Nat.zero_add]at hpY hq2;have at1:atI (ys.map V.ref) (0+(j:Int))=some (V.ref p):=by rw[e0];exact bq (by rw[List.getElem?_map,hp];rfl)
       have at2:atI (xs.map V.ref) (0+(j:Int))=some (V.ref q):=by rw[e0];exact bq (by rw[List.getElem?_map,hq];rfl)
       refine⟨_,rfl,_,rfl,L,_,_,_,rfl,rfl,SqL.of (sZ _ _ hL),at1,_,rfl,j,p,dp,hj,(by rw[e0];rfl),sZ _ _ hpY,fun HA sA=>?_⟩
       refine⟨_,rfl,iteF ?_⟩;have sYA:=sZ.trans sA;have s2A:=(sX.trans sY).trans sYA;refine⟨_,rfl,_,rfl,M,_,_,_,rfl,rfl,SqL.of (s2A _ _ u2),at2,_,rfl,j,q,dq,hj,(by rw[e0];rfl),s2A _ _ hq2,fun HB sB=>?_⟩
       exact⟨_,rfl,iteF ⟨_,rfl,sYA.trans sB⟩⟩
     . rintro σ HZ ⟨v4,rfl,sZ⟩;have hLZ:=sZ _ _ hL;have i2:i=0∨i=1:=by omega
       have hsq:seqIndex? (4*(0+(i:Int))) (ys.map V.ref).length=some (4*i):=by
        rw[List.length_map,hyl];rcases i2 with e | e<;>subst e<;>rfl
       obtain⟨y4,hy4⟩:∃y,(ys.map V.ref)[4*i]? = some y:=⟨(ys.map V.ref)[4*i]'(by rw[List.length_map];omega),List.getElem?_eq_getElem _⟩
       refine⟨_,rfl,.inl ⟨rfl,_,SqL.of hLZ⟩,_,rfl,_,_,rfl,rfl,.inl ⟨by decide,by decide⟩,L,_,_,4*i,y4,rfl,rfl,hLZ,by show -(2 ^ 63)≤4*(0+(i:Int));omega,by show 4*(0+(i:Int)) < 2 ^ 63;omega,hsq,hy4,?_⟩
       have sH:Same H2 HZ:=(sX.trans sY).trans sZ;have L2:H2 L=none:=sX.free hL0;have sP:Same H2 (upd HZ L (.lst ((ys.map V.ref).eraseIdx (4*i)))):=fun b o e=>by rw[am (au e L2)];exact sH b o e
       have uP:(upd HZ L (.lst ((ys.map V.ref).eraseIdx (4*i)))) L=some (.lst ((ys.map V.ref).eraseIdx (4*i))):=ac;generalize upd HZ L (.lst ((ys.map V.ref).eraseIdx (4*i)))=HP at sP uP⊢;have le:((ys.map V.ref).eraseIdx (4*i)).length=10:=by rw[List.length_eraseIdx_of_lt (by rw[List.length_map];omega),List.length_map,hyl]
       generalize (ys.map V.ref).eraseIdx (4*i)=zs at uP le⊢;obtain⟨z0,hz0⟩:∃z,zs[0]? = some z:=⟨zs[0]'(by omega),List.getElem?_eq_getElem _⟩
       refine⟨_,rfl,.inl ⟨rfl,_,SqL.of uP⟩,_,rfl,L,_,_,_,rfl,rfl,SqL.of uP,bq hz0,L,_,_,rfl,rfl,uP,bt (by omega),?_⟩
       exact⟨_,_,_,rfl,fun b o e=>by rw[am (au e L2)];exact sP b o e⟩
   . rintro σ HX ⟨v2,v3,v4,rfl,sX⟩;have s0X:=s02.trans sX;refine⟨by show 1≤sizeLine;exact aC (by decide),fun N hN=>?_⟩
     have w3:=af (o:=.lst [V.int 66]) hN;have u3:(upd HX N (.lst [V.int 66])) N=some (.lst [V.int 66]):=ac;generalize upd HX N (.lst [V.int 66])=H3 at w3 u3⊢;have s03:=s0X.trans w3;refine⟨_,rfl,_,rfl,a,_,rfl,s03.seq hSc,fun Z hZ=>?_⟩;obtain⟨ls,els,hls⟩:=du (xs:=cutV (zV ns) none (some 63)) (p:=fun n=>intBits n≤2 ^ 20) fun v hv=>by
      obtain⟨z,hz,e⟩:=List.mem_map.mp (show v∈ns.map V.int from mem_cutV hv)
      exact⟨z,e.symm,hb z hz⟩
     have hll:ls.length≤63:=by
      have h1:(zV ls).length≤(zV ns).length:=by rw[←els];exact bQ _ _ _
      rw[bH,bH]at h1;omega
     rw[els];have w4:=af (o:=.lst (zV ls)) hZ;refine⟨N,Z,_,_,rfl,rfl,w4 _ _ u3,ac,by rw[bH];exact aB (show 1+ls.length≤4000 by omega),fun R hR=>?_⟩
     have w5:=af (o:=.lst ([V.int 66]++zV ls)) hR;have u5:(upd (upd H3 Z (.lst (zV ls))) R (.lst ([V.int 66]++zV ls))) R=some (.lst (zV (66::ls))):=ac;refine⟨R,rfl,⟨_,SqL.of u5⟩,?_⟩;generalize upd (upd H3 Z (.lst (zV ls))) R (.lst ([V.int 66]++zV ls))=H5 at u5⊢;have hbs:∀q∈66::ls,intBits q≤2 ^ 20:=fun q hq=>by
      rcases List.mem_cons.mp hq with e | e
      . subst e;decide
      . exact hls q e
     refine cS (K:=K) (a:=R) (xs:=zV (66::ls)) (fun i σ HY=>∃v1 v2 v3 v4 v5 v6:Option V,σ=[some (.ref a),v1,v2,v3,v4,v5,v6]/\Same H5 HY) ⟨_,_,_,_,_,_,rfl,Same.refl _⟩ (fun i σ HY _ ⟨_,_,_,_,_,_,_,s⟩=>SqL.of (s _ _ u5)) ?_ ?_
     . rintro i y σ HY hi ⟨v1,v2,v3,v4,v5,v6,rfl,sY⟩;obtain⟨q,hq,rfl⟩:=zV_item hi;have hqb:=hbs q (List.mem_of_getElem? hq);refine⟨_,rfl,q,rfl,hqb,fun x H6 s6=>?_⟩;refine⟨_,rfl,rfl,fun WL H7 s7 hWL=>?_⟩;refine⟨WL,_,rfl,.inl (SqL.of hWL),rfl,rfl,?_⟩;rw[if_neg Bool.false_ne_true];have s57:=(sY.trans s6).trans s7;refine⟨_,rfl,iteB (fun ein=>?_) (fun ein=>?_)⟩
       . obtain⟨iw,hiw,ex⟩:=words_yes ein;refine⟨_,rfl,x,rfl,fun i2 hi2 e2 p dp H8 s8 hp=>?_,fun no=>absurd ex (no iw hiw)⟩;refine⟨rfl,fun WL2 H9 s9 hWL2=>?_⟩;refine⟨.inl ⟨rfl,_,SqL.of hWL2⟩,_,rfl,WL2,bI,.str x,.str (aA i2),i2,rfl,rfl,hWL2,rfl,rfl,aF i2 hi2,by rw[e2];exact eqV_str.mpr rfl,fun m u hm hu=>?_,?_⟩
         . have m11:m < 11:=by omega
           rw[aF m m11]at hu;cases hu;cases hq2:eqV (V.str (aA m)) (V.str x)with
           | false=>rfl
           | true =>
            have:=words_apart i2 hi2 m m11 ((eqV_str.mp hq2).trans e2);omega
         . refine⟨i2,p,dp,hi2,rfl,s9 _ _ hp,fun HA sA=>?_⟩;exact⟨_,rfl,iteF ⟨_,_,_,_,_,_,rfl,((s57.trans s8).trans s9).trans sA⟩⟩
       . refine⟨_,rfl,x,rfl,words_no ein,fun H8 s8=>?_⟩;exact⟨_,rfl,iteF ⟨_,_,_,_,_,_,rfl,s57.trans s8⟩⟩
     . rintro σ HY ⟨v1,v2,v3,v4,v5,v6,rfl,sY⟩;exact k HY
end
end Tw
namespace Tw
open PySem L2
theorem bp {K:PySem.W.Frag}{h:Heap}{mg:Str->Option Value}{x:Str}{st:Stmt}{ps:List Str}{f:Addr}{oc:Value}{od an:Option Addr}{osl:Array (Option Value)}{kV doc pm cdv ct:Value}(X:K.In h)(G:h.Ns mainGlobals mg)(a:PySem.W.nsIn K mainGlobals x=some (some (.ref f)))(l:K.lookup f=some ⟨oc,od,.func (PySem.W.fnOf x x (aa st) (a8 st) (a7 st) .none kV doc pm an cdv ct),osl⟩)(c:PySem.W.codeIn K cdv x=true)(k:PySem.W.keepIn K (.ref f)=true)(b:∀(kV doc pm:Value) (an:Option Addr) (cdv ct:Value) (us:List Value),us.length=ps.length->bindArgs (PySem.W.fnOf x x (aa st) (a8 st) (a7 st) .none kV doc pm an cdv ct) ⟨us,[]⟩=pure (ps.zip us)):Def K mg x st ps f (PySem.W.fnOf x x (aa st) (a8 st) (a7 st) .none kV doc pm an cdv ct):=⟨aK l c k,(aK l c k).binds b,PySem.W.mg_of X G a⟩
theorem all_mk {l:PySem.W.OpenLaw}{w:World}{K:PySem.W.Frag}{h:Heap}{mg:Str->Option Value}{fa fKI fKO fM fWS fLW fMK fIK fRF fX eNK eTE eNT eNP eNR eNS eNI eNY eNW eNG eNX eNQ eNO eNN eK0 eK1 eK2 eK3 eK4 eK5 eK6 eK7 eK8 eK9 eK10 eK11 eK12 eK13 eK14:Addr}(X:K.In h)(G:h.Ns mainGlobals mg)(hfa:mg "law" = some (.ref fa))
 {odKI anKI odKO anKO odM anM odWS anWS odLW anLW odMK anMK odIK anIK odRF anRF odX anX:Option Addr} {slKI slKO slM slWS slLW slMK slIK slRF slX:Array (Option Value)}
 {ocKI kVKI dcKI pmKI cdKI ctKI ocKO kVKO dcKO pmKO cdKO ctKO ocM kVM dcM pmM cdM ctM ocWS kVWS dcWS pmWS cdWS ctWS ocLW kVLW dcLW pmLW cdLW ctLW ocMK kVMK dcMK pmMK cdMK ctMK ocIK kVIK dcIK pmIK cdIK ctIK ocRF kVRF dcRF pmRF cdRF ctRF ocX kVX dcX pmX cdX ctX:Value}
 (aKI:PySem.W.nsIn K mainGlobals "kinds" = some (some (.ref fKI))) (lKI:K.lookup fKI=some ⟨ocKI,odKI,.func (PySem.W.fnOf "kinds" "kinds" (aa br) (a8 br) (a7 br) .none kVKI dcKI pmKI anKI cdKI ctKI),slKI⟩) (cKI:PySem.W.codeIn K cdKI "kinds" = true) (kKI:PySem.W.keepIn K (.ref fKI)=true)
 (aKO:PySem.W.nsIn K mainGlobals "kind_of" = some (some (.ref fKO))) (lKO:K.lookup fKO=some ⟨ocKO,odKO,.func (PySem.W.fnOf "kind_of" "kind_of" (aa aV) (a8 aV) (a7 aV) .none kVKO dcKO pmKO anKO cdKO ctKO),slKO⟩) (cKO:PySem.W.codeIn K cdKO "kind_of" = true) (kKO:PySem.W.keepIn K (.ref fKO)=true)
 (aM:PySem.W.nsIn K mainGlobals "_law_mix" = some (some (.ref fM))) (lM:K.lookup fM=some ⟨ocM,odM,.func (PySem.W.fnOf "_law_mix" "_law_mix" (aa sMix) (a8 sMix) (a7 sMix) .none kVM dcM pmM anM cdM ctM),slM⟩) (cM:PySem.W.codeIn K cdM "_law_mix" = true) (kM:PySem.W.keepIn K (.ref fM)=true)
 (aWS:PySem.W.nsIn K mainGlobals "_law_words" = some (some (.ref fWS))) (lWS:K.lookup fWS=some ⟨ocWS,odWS,.func (PySem.W.fnOf "_law_words" "_law_words" (aa bg) (a8 bg) (a7 bg) .none kVWS dcWS pmWS anWS cdWS ctWS),slWS⟩) (cWS:PySem.W.codeIn K cdWS "_law_words" = true) (kWS:PySem.W.keepIn K (.ref fWS)=true)
 (aLW:PySem.W.nsIn K mainGlobals "_law_word" = some (some (.ref fLW))) (lLW:K.lookup fLW=some ⟨ocLW,odLW,.func (PySem.W.fnOf "_law_word" "_law_word" (aa bN) (a8 bN) (a7 bN) .none kVLW dcLW pmLW anLW cdLW ctLW),slLW⟩) (cLW:PySem.W.codeIn K cdLW "_law_word" = true) (kLW:PySem.W.keepIn K (.ref fLW)=true)
 (aMK:PySem.W.nsIn K mainGlobals "_law_marks" = some (some (.ref fMK))) (lMK:K.lookup fMK=some ⟨ocMK,odMK,.func (PySem.W.fnOf "_law_marks" "_law_marks" (aa bv) (a8 bv) (a7 bv) .none kVMK dcMK pmMK anMK cdMK ctMK),slMK⟩) (cMK:PySem.W.codeIn K cdMK "_law_marks" = true) (kMK:PySem.W.keepIn K (.ref fMK)=true)
 (aIK:PySem.W.nsIn K mainGlobals "_law_is_kind" = some (some (.ref fIK))) (lIK:K.lookup fIK=some ⟨ocIK,odIK,.func (PySem.W.fnOf "_law_is_kind" "_law_is_kind" (aa aW) (a8 aW) (a7 aW) .none kVIK dcIK pmIK anIK cdIK ctIK),slIK⟩) (cIK:PySem.W.codeIn K cdIK "_law_is_kind" = true) (kIK:PySem.W.keepIn K (.ref fIK)=true)
 (aRF:PySem.W.nsIn K mainGlobals "_law_refused" = some (some (.ref fRF))) (lRF:K.lookup fRF=some ⟨ocRF,odRF,.func (PySem.W.fnOf "_law_refused" "_law_refused" (aa aQ) (a8 aQ) (a7 aQ) .none kVRF dcRF pmRF anRF cdRF ctRF),slRF⟩) (cRF:PySem.W.codeIn K cdRF "_law_refused" = true) (kRF:PySem.W.keepIn K (.ref fRF)=true)
 (aX:PySem.W.nsIn K mainGlobals "law" = some (some (.ref fX))) (lX:K.lookup fX=some ⟨ocX,odX,.func (PySem.W.fnOf "law" "law" (aa sLaw) (a8 sLaw) (a7 sLaw) .none kVX dcX pmX anX cdX ctX),slX⟩) (cX:PySem.W.codeIn K cdX "law" = true) (kX:PySem.W.keepIn K (.ref fX)=true)
 (eaNK:PySem.W.nsIn K mainGlobals "NoKind" = some (some (.ref eNK)))
 (ecNK:PySem.W.excIn K eNK veB "ValueError.__new__" = true)
 (egNK:PySem.W.findIn K (.ref eNK) "__getattribute__" = some (some (.builtin "BaseException.__getattribute__")))
 (ehNK:PySem.W.findIn K (.ref eNK) "__getattr__" = some none)
 (eiNK:PySem.W.findIn K (.ref eNK) "__class__" = some (some (.builtin "object.__class__")))
 (ejNK:PySem.W.mroIn K eNK (.type "object")=some true)
 (ekNK:PySem.W.mroIn K eNK (.type "BaseException")=some true)
 (eaTE:PySem.W.nsIn K mainGlobals "TreeError" = some (some (.ref eTE)))
 (eaNT:PySem.W.nsIn K mainGlobals "NoTree" = some (some (.ref eNT)))
 (eaNP:PySem.W.nsIn K mainGlobals "NoPlace" = some (some (.ref eNP)))
 (eaNR:PySem.W.nsIn K mainGlobals "NoRoad" = some (some (.ref eNR)))
 (eaNS:PySem.W.nsIn K mainGlobals "NoSpot" = some (some (.ref eNS)))
 (eaNI:PySem.W.nsIn K mainGlobals "NoSite" = some (some (.ref eNI)))
 (eaNY:PySem.W.nsIn K mainGlobals "NoYard" = some (some (.ref eNY)))
 (eaNW:PySem.W.nsIn K mainGlobals "NoWorth" = some (some (.ref eNW)))
 (eaNG:PySem.W.nsIn K mainGlobals "NoGift" = some (some (.ref eNG)))
 (eaNX:PySem.W.nsIn K mainGlobals "NoText" = some (some (.ref eNX)))
 (eaNQ:PySem.W.nsIn K mainGlobals "NoQuestion" = some (some (.ref eNQ)))
 (eaNO:PySem.W.nsIn K mainGlobals "NoRow" = some (some (.ref eNO)))
 (eaNN:PySem.W.nsIn K mainGlobals "NoName" = some (some (.ref eNN)))
 (eaK0:PySem.W.nsIn K mainGlobals "Middle" = some (some (.ref eK0)))
 (eaK1:PySem.W.nsIn K mainGlobals "Balance" = some (some (.ref eK1)))
 (eaK2:PySem.W.nsIn K mainGlobals "Wells" = some (some (.ref eK2)))
 (eaK3:PySem.W.nsIn K mainGlobals "Reach" = some (some (.ref eK3)))
 (eaK4:PySem.W.nsIn K mainGlobals "Spots" = some (some (.ref eK4)))
 (eaK5:PySem.W.nsIn K mainGlobals "Colours" = some (some (.ref eK5)))
 (eaK6:PySem.W.nsIn K mainGlobals "Worths" = some (some (.ref eK6)))
 (eaK7:PySem.W.nsIn K mainGlobals "Goods" = some (some (.ref eK7)))
 (eaK8:PySem.W.nsIn K mainGlobals "Walks" = some (some (.ref eK8)))
 (eaK9:PySem.W.nsIn K mainGlobals "Sweeps" = some (some (.ref eK9)))
 (eaK10:PySem.W.nsIn K mainGlobals "Round" = some (some (.ref eK10)))
 (eaK11:PySem.W.nsIn K mainGlobals "Digging" = some (some (.ref eK11)))
 (eaK12:PySem.W.nsIn K mainGlobals "Yards" = some (some (.ref eK12)))
 (eaK13:PySem.W.nsIn K mainGlobals "Sweeping" = some (some (.ref eK13)))
 (eaK14:PySem.W.nsIn K mainGlobals "Question" = some (some (.ref eK14)))
 {fw0 fw1 fw2 fw3 fw4 fw5 fw6 fw7 fw8 fw9 fw10:Addr}
 {odw0 anw0 odw1 anw1 odw2 anw2 odw3 anw3 odw4 anw4 odw5 anw5 odw6 anw6 odw7 anw7 odw8 anw8 odw9 anw9 odw10 anw10:Option Addr} {slw0 slw1 slw2 slw3 slw4 slw5 slw6 slw7 slw8 slw9 slw10:Array (Option Value)} {ocw0 kVw0 dcw0 pmw0 cdw0 ctw0 ocw1 kVw1 dcw1 pmw1 cdw1 ctw1 ocw2 kVw2 dcw2 pmw2 cdw2 ctw2 ocw3 kVw3 dcw3 pmw3 cdw3 ctw3 ocw4 kVw4 dcw4 pmw4 cdw4 ctw4 ocw5 kVw5 dcw5 pmw5 cdw5 ctw5 ocw6 kVw6 dcw6 pmw6 cdw6 ctw6 ocw7 kVw7 dcw7 pmw7 cdw7 ctw7 ocw8 kVw8 dcw8 pmw8 cdw8 ctw8 ocw9 kVw9 dcw9 pmw9 cdw9 ctw9 ocw10 kVw10 dcw10 pmw10 cdw10 ctw10:Value}
 (zstr:PySem.W.nsIn K mainGlobals "str" = some none)
 (zVE:PySem.W.nsIn K mainGlobals "ValueError" = some none)
 (sS:PySem.W.kitOne K (.type "str") (.type "str")=some true)
 (c0:PySem.W.exmOne K (.ref eNK) (.ref eTE)=some true)
 (c1:PySem.W.kitAny K (.ref eNK) [.ref eNT,.ref eNP,.ref eNR]=some false)
 (c2:PySem.W.kitAny K (.ref eNK) [.ref eNS,.ref eNI,.ref eNY]=some false)
 (c3:PySem.W.kitAny K (.ref eNK) [.ref eNW,.ref eNG,.ref eNX]=some false)
 (c4:PySem.W.kitAny K (.ref eNK) [.ref eNQ,.ref eNO,.ref eNN]=some false)
 (c5:PySem.W.kitOne K (.ref eNK) (.ref eNK)=some true)
 (c6:PySem.W.kitOne K (.ref eNK) (.type "ValueError")=some true)
 (tn:PySem.W.specialIn K (.builtin "object.__class__") "__get__" = some (some (.builtin "getset_descriptor.__get__")))
 (tkk:PySem.W.takesIn K (.builtin "object.__class__")=some true)
 (mt0:PySem.W.findIn K (.ref eK0) "word" = some (some (.ref fw0)))
 (lw0:K.lookup fw0=some ⟨ocw0,odw0,.func (PySem.W.fnOf "word" "Middle.word" (aa (wSt 0)) (a8 (wSt 0)) (a7 (wSt 0)) .none kVw0 dcw0 pmw0 anw0 cdw0 ctw0),slw0⟩)
 (cw0:PySem.W.codeIn K cdw0 "Middle.word" = true)
 (kw0:PySem.W.keepIn K (.ref fw0)=true)
 (fn0:PySem.W.isFn K (.ref fw0)=true)
 (pg0:PySem.W.plainGet K eK0 Str.empty=true)
 (hd0:PySem.W.hasDictIn K eK0=true)
 (po0:PySem.W.plainOver K eK0=true)
 (sa0:PySem.W.findIn K (.ref eK0) "__setattr__" = some (some (.builtin "object.__setattr__")))
 (ms0:PySem.W.makesIn K eK0=true)
 (in0:PySem.W.findIn K (.ref eK0) "__init__" = some (some (.builtin "object.__init__")))
 (kc0:PySem.W.keepIn K (.ref eK0)=true)
 (ta0:PySem.W.findIn K (.ref eK0) "__class__" = some (some (.builtin "object.__class__")))
 (tm0:PySem.W.mroIn K eK0 (.type "object")=some true)
 (iq0:PySem.W.kitOne K (.ref eK0) (.ref eK14)=some true)
 (mk0:(List.range 14).map (fun j=>PySem.W.kitOne K (.ref eK0) (.ref ([eK0,eK1,eK2,eK3,eK4,eK5,eK6,eK7,eK8,eK9,eK10,eK11,eK12,eK13,eK14].getD j 0)))=(List.range 14).map (fun j=>some (a5 0 j)))
 (mt1:PySem.W.findIn K (.ref eK1) "word" = some (some (.ref fw1)))
 (lw1:K.lookup fw1=some ⟨ocw1,odw1,.func (PySem.W.fnOf "word" "Balance.word" (aa (wSt 1)) (a8 (wSt 1)) (a7 (wSt 1)) .none kVw1 dcw1 pmw1 anw1 cdw1 ctw1),slw1⟩)
 (cw1:PySem.W.codeIn K cdw1 "Balance.word" = true)
 (kw1:PySem.W.keepIn K (.ref fw1)=true)
 (fn1:PySem.W.isFn K (.ref fw1)=true)
 (pg1:PySem.W.plainGet K eK1 Str.empty=true)
 (hd1:PySem.W.hasDictIn K eK1=true)
 (po1:PySem.W.plainOver K eK1=true)
 (sa1:PySem.W.findIn K (.ref eK1) "__setattr__" = some (some (.builtin "object.__setattr__")))
 (ms1:PySem.W.makesIn K eK1=true)
 (in1:PySem.W.findIn K (.ref eK1) "__init__" = some (some (.builtin "object.__init__")))
 (kc1:PySem.W.keepIn K (.ref eK1)=true)
 (ta1:PySem.W.findIn K (.ref eK1) "__class__" = some (some (.builtin "object.__class__")))
 (tm1:PySem.W.mroIn K eK1 (.type "object")=some true)
 (iq1:PySem.W.kitOne K (.ref eK1) (.ref eK14)=some true)
 (mk1:(List.range 14).map (fun j=>PySem.W.kitOne K (.ref eK1) (.ref ([eK0,eK1,eK2,eK3,eK4,eK5,eK6,eK7,eK8,eK9,eK10,eK11,eK12,eK13,eK14].getD j 0)))=(List.range 14).map (fun j=>some (a5 1 j)))
 (mt2:PySem.W.findIn K (.ref eK2) "word" = some (some (.ref fw2)))
 (lw2:K.lookup fw2=some ⟨ocw2,odw2,.func (PySem.W.fnOf "word" "Wells.word" (aa (wSt 2)) (a8 (wSt 2)) (a7 (wSt 2)) .none kVw2 dcw2 pmw2 anw2 cdw2 ctw2),slw2⟩)
 (cw2:PySem.W.codeIn K cdw2 "Wells.word" = true)
 (kw2:PySem.W.keepIn K (.ref fw2)=true)
 (fn2:PySem.W.isFn K (.ref fw2)=true)
 (pg2:PySem.W.plainGet K eK2 Str.empty=true)
 (hd2:PySem.W.hasDictIn K eK2=true)
 (po2:PySem.W.plainOver K eK2=true)
 (sa2:PySem.W.findIn K (.ref eK2) "__setattr__" = some (some (.builtin "object.__setattr__")))
 (ms2:PySem.W.makesIn K eK2=true)
 (in2:PySem.W.findIn K (.ref eK2) "__init__" = some (some (.builtin "object.__init__")))
 (kc2:PySem.W.keepIn K (.ref eK2)=true)
 (ta2:PySem.W.findIn K (.ref eK2) "__class__" = some (some (.builtin "object.__class__")))
 (tm2:PySem.W.mroIn K eK2 (.type "object")=some true)
 (iq2:PySem.W.kitOne K (.ref eK2) (.ref eK14)=some true)
 (mk2:(List.range 14).map (fun j=>PySem.W.kitOne K (.ref eK2) (.ref ([eK0,eK1,eK2,eK3,eK4,eK5,eK6,eK7,eK8,eK9,eK10,eK11,eK12,eK13,eK14].getD j 0)))=(List.range 14).map (fun j=>some (a5 2 j)))
 (mt3:PySem.W.findIn K (.ref eK3) "word" = some (some (.ref fw3)))
 (lw3:K.lookup fw3=some ⟨ocw3,odw3,.func (PySem.W.fnOf "word" "Reach.word" (aa (wSt 3)) (a8 (wSt 3)) (a7 (wSt 3)) .none kVw3 dcw3 pmw3 anw3 cdw3 ctw3),slw3⟩)
 (cw3:PySem.W.codeIn K cdw3 "Reach.word" = true)
 (kw3:PySem.W.keepIn K (.ref fw3)=true)
 (fn3:PySem.W.isFn K (.ref fw3)=true)
 (pg3:PySem.W.plainGet K eK3 Str.empty=true)
 (hd3:PySem.W.hasDictIn K eK3=true)
 (po3:PySem.W.plainOver K eK3=true)
 (sa3:PySem.W.findIn K (.ref eK3) "__setattr__" = some (some (.builtin "object.__setattr__")))
 (ms3:PySem.W.makesIn K eK3=true)
 (in3:PySem.W.findIn K (.ref eK3) "__init__" = some (some (.builtin "object.__init__")))
 (kc3:PySem.W.keepIn K (.ref eK3)=true)
 (ta3:PySem.W.findIn K (.ref eK3) "__class__" = some (some (.builtin "object.__class__")))
 (tm3:PySem.W.mroIn K eK3 (.type "object")=some true)
 (iq3:PySem.W.kitOne K (.ref eK3) (.ref eK14)=some true)
 (mk3:(List.range 14).map (fun j=>PySem.W.kitOne K (.ref eK3) (.ref ([eK0,eK1,eK2,eK3,eK4,eK5,eK6,eK7,eK8,eK9,eK10,eK11,eK12,eK13,eK14].getD j 0)))=(List.range 14).map (fun j=>some (a5 3 j)))
 (mt4:PySem.W.findIn K (.ref eK4) "word" = some (some (.ref fw4)))
 (lw4:K.lookup fw4=some ⟨ocw4,odw4,.func (PySem.W.fnOf "word" "Spots.word" (aa (wSt 4)) (a8 (wSt 4)) (a7 (wSt 4)) .none kVw4 dcw4 pmw4 anw4 cdw4 ctw4),slw4⟩)
 (cw4:PySem.W.codeIn K cdw4 "Spots.word" = true)
 (kw4:PySem.W.keepIn K (.ref fw4)=true)
 (fn4:PySem.W.isFn K (.ref fw4)=true)
 (pg4:PySem.W.plainGet K eK4 Str.empty=true)
 (hd4:PySem.W.hasDictIn K eK4=true)
 (po4:PySem.W.plainOver K eK4=true)
 (sa4:PySem.W.findIn K (.ref eK4) "__setattr__" = some (some (.builtin "object.__setattr__")))
 (ms4:PySem.W.makesIn K eK4=true)
 (in4:PySem.W.findIn K (.ref eK4) "__init__" = some (some (.builtin "object.__init__")))
 (kc4:PySem.W.keepIn K (.ref eK4)=true)
 (ta4:PySem.W.findIn K (.ref eK4) "__class__" = some (some (.builtin "object.__class__")))
 (tm4:PySem.W.mroIn K eK4 (.type "object")=some true)
 (iq4:PySem.W.kitOne K (.ref eK4) (.ref eK14)=some true)
 (mk4:(List.range 14).map (fun j=>PySem.W.kitOne K (.ref eK4) (.ref ([eK0,eK1,eK2,eK3,eK4,eK5,eK6,eK7,eK8,eK9,eK10,eK11,eK12,eK13,eK14].getD j 0)))=(List.range 14).map (fun j=>some (a5 4 j)))
 (mt5:PySem.W.findIn K (.ref eK5) "word" = some (some (.ref fw5)))
 (lw5:K.lookup fw5=some ⟨ocw5,odw5,.func (PySem.W.fnOf "word" "Colours.word" (aa (wSt 5)) (a8 (wSt 5)) (a7 (wSt 5)) .none kVw5 dcw5 pmw5 anw5 cdw5 ctw5),slw5⟩)
 (cw5:PySem.W.codeIn K cdw5 "Colours.word" = true)
 (kw5:PySem.W.keepIn K (.ref fw5)=true)
 (fn5:PySem.W.isFn K (.ref fw5)=true)
 (pg5:PySem.W.plainGet K eK5 Str.empty=true)
 (hd5:PySem.W.hasDictIn K eK5=true)
 (po5:PySem.W.plainOver K eK5=true)
 (sa5:PySem.W.findIn K (.ref eK5) "__setattr__" = some (some (.builtin "object.__setattr__")))
 (ms5:PySem.W.makesIn K eK5=true)
 (in5:PySem.W.findIn K (.ref eK5) "__init__" = some (some (.builtin "object.__init__")))
 (kc5:PySem.W.keepIn K (.ref eK5)=true)
 (ta5:PySem.W.findIn K (.ref eK5) "__class__" = some (some (.builtin "object.__class__")))
 (tm5:PySem.W.mroIn K eK5 (.type "object")=some true)
 (iq5:PySem.W.kitOne K (.ref eK5) (.ref eK14)=some true)
 (mk5:(List.range 14).map (fun j=>PySem.W.kitOne K (.ref eK5) (.ref ([eK0,eK1,eK2,eK3,eK4,eK5,eK6,eK7,eK8,eK9,eK10,eK11,eK12,eK13,eK14].getD j 0)))=(List.range 14).map (fun j=>some (a5 5 j)))
 (mt6:PySem.W.findIn K (.ref eK6) "word" = some (some (.ref fw6)))
 (lw6:K.lookup fw6=some ⟨ocw6,odw6,.func (PySem.W.fnOf "word" "Worths.word" (aa (wSt 6)) (a8 (wSt 6)) (a7 (wSt 6)) .none kVw6 dcw6 pmw6 anw6 cdw6 ctw6),slw6⟩)
 (cw6:PySem.W.codeIn K cdw6 "Worths.word" = true)
 (kw6:PySem.W.keepIn K (.ref fw6)=true)
 (fn6:PySem.W.isFn K (.ref fw6)=true)
 (pg6:PySem.W.plainGet K eK6 Str.empty=true)
 (hd6:PySem.W.hasDictIn K eK6=true)
 (po6:PySem.W.plainOver K eK6=true)
 (sa6:PySem.W.findIn K (.ref eK6) "__setattr__" = some (some (.builtin "object.__setattr__")))
 (ms6:PySem.W.makesIn K eK6=true)
 (in6:PySem.W.findIn K (.ref eK6) "__init__" = some (some (.builtin "object.__init__")))
 (kc6:PySem.W.keepIn K (.ref eK6)=true)
 (ta6:PySem.W.findIn K (.ref eK6) "__class__" = some (some (.builtin "object.__class__")))
 (tm6:PySem.W.mroIn K eK6 (.type "object")=some true)
 (iq6:PySem.W.kitOne K (.ref eK6) (.ref eK14)=some true)
 (mk6:(List.range 14).map (fun j=>PySem.W.kitOne K (.ref eK6) (.ref ([eK0,eK1,eK2,eK3,eK4,eK5,eK6,eK7,eK8,eK9,eK10,eK11,eK12,eK13,eK14].getD j 0)))=(List.range 14).map (fun j=>some (a5 6 j)))
 (mt7:PySem.W.findIn K (.ref eK7) "word" = some (some (.ref fw7)))
 (lw7:K.lookup fw7=some ⟨ocw7,odw7,.func (PySem.W.fnOf "word" "Goods.word" (aa (wSt 7)) (a8 (wSt 7)) (a7 (wSt 7)) .none kVw7 dcw7 pmw7 anw7 cdw7 ctw7),slw7⟩)
 (cw7:PySem.W.codeIn K cdw7 "Goods.word" = true)
 (kw7:PySem.W.keepIn K (.ref fw7)=true)
 (fn7:PySem.W.isFn K (.ref fw7)=true)
 (pg7:PySem.W.plainGet K eK7 Str.empty=true)
 (hd7:PySem.W.hasDictIn K eK7=true)
 (po7:PySem.W.plainOver K eK7=true)
 (sa7:PySem.W.findIn K (.ref eK7) "__setattr__" = some (some (.builtin "object.__setattr__")))
 (ms7:PySem.W.makesIn K eK7=true)
 (in7:PySem.W.findIn K (.ref eK7) "__init__" = some (some (.builtin "object.__init__")))
 (kc7:PySem.W.keepIn K (.ref eK7)=true)
 (ta7:PySem.W.findIn K (.ref eK7) "__class__" = some (some (.builtin "object.__class__")))
 (tm7:PySem.W.mroIn K eK7 (.type "object")=some true)
 (iq7:PySem.W.kitOne K (.ref eK7) (.ref eK14)=some true)
 (mk7:(List.range 14).map (fun j=>PySem.W.kitOne K (.ref eK7) (.ref ([eK0,eK1,eK2,eK3,eK4,eK5,eK6,eK7,eK8,eK9,eK10,eK11,eK12,eK13,eK14].getD j 0)))=(List.range 14).map (fun j=>some (a5 7 j)))
 (mt8:PySem.W.findIn K (.ref eK8) "word" = some (some (.ref fw8)))
 (lw8:K.lookup fw8=some ⟨ocw8,odw8,.func (PySem.W.fnOf "word" "Walks.word" (aa (wSt 8)) (a8 (wSt 8)) (a7 (wSt 8)) .none kVw8 dcw8 pmw8 anw8 cdw8 ctw8),slw8⟩)
 (cw8:PySem.W.codeIn K cdw8 "Walks.word" = true)
 (kw8:PySem.W.keepIn K (.ref fw8)=true)
 (fn8:PySem.W.isFn K (.ref fw8)=true)
 (pg8:PySem.W.plainGet K eK8 Str.empty=true)
 (hd8:PySem.W.hasDictIn K eK8=true)
 (po8:PySem.W.plainOver K eK8=true)
 (sa8:PySem.W.findIn K (.ref eK8) "__setattr__" = some (some (.builtin "object.__setattr__")))
 (ms8:PySem.W.makesIn K eK8=true)
 (in8:PySem.W.findIn K (.ref eK8) "__init__" = some (some (.builtin "object.__init__")))
 (kc8:PySem.W.keepIn K (.ref eK8)=true)
 (ta8:PySem.W.findIn K (.ref eK8) "__class__" = some (some (.builtin "object.__class__")))
 (tm8:PySem.W.mroIn K eK8 (.type "object")=some true)
 (iq8:PySem.W.kitOne K (.ref eK8) (.ref eK14)=some true)
 (mk8:(List.range 14).map (fun j=>PySem.W.kitOne K (.ref eK8) (.ref ([eK0,eK1,eK2,eK3,eK4,eK5,eK6,eK7,eK8,eK9,eK10,eK11,eK12,eK13,eK14].getD j 0)))=(List.range 14).map (fun j=>some (a5 8 j)))
 (mt9:PySem.W.findIn K (.ref eK9) "word" = some (some (.ref fw9)))
 (lw9:K.lookup fw9=some ⟨ocw9,odw9,.func (PySem.W.fnOf "word" "Sweeps.word" (aa (wSt 9)) (a8 (wSt 9)) (a7 (wSt 9)) .none kVw9 dcw9 pmw9 anw9 cdw9 ctw9),slw9⟩)
 (cw9:PySem.W.codeIn K cdw9 "Sweeps.word" = true)
 (kw9:PySem.W.keepIn K (.ref fw9)=true)
 (fn9:PySem.W.isFn K (.ref fw9)=true)
 (pg9:PySem.W.plainGet K eK9 Str.empty=true)
 (hd9:PySem.W.hasDictIn K eK9=true)
 (po9:PySem.W.plainOver K eK9=true)
 (sa9:PySem.W.findIn K (.ref eK9) "__setattr__" = some (some (.builtin "object.__setattr__")))
 (ms9:PySem.W.makesIn K eK9=true)
 (in9:PySem.W.findIn K (.ref eK9) "__init__" = some (some (.builtin "object.__init__")))
 (kc9:PySem.W.keepIn K (.ref eK9)=true)
 (ta9:PySem.W.findIn K (.ref eK9) "__class__" = some (some (.builtin "object.__class__")))
 (tm9:PySem.W.mroIn K eK9 (.type "object")=some true)
 (iq9:PySem.W.kitOne K (.ref eK9) (.ref eK14)=some true)
 (mk9:(List.range 14).map (fun j=>PySem.W.kitOne K (.ref eK9) (.ref ([eK0,eK1,eK2,eK3,eK4,eK5,eK6,eK7,eK8,eK9,eK10,eK11,eK12,eK13,eK14].getD j 0)))=(List.range 14).map (fun j=>some (a5 9 j)))
 (mt10:PySem.W.findIn K (.ref eK10) "word" = some (some (.ref fw10)))
 (lw10:K.lookup fw10=some ⟨ocw10,odw10,.func (PySem.W.fnOf "word" "Round.word" (aa (wSt 10)) (a8 (wSt 10)) (a7 (wSt 10)) .none kVw10 dcw10 pmw10 anw10 cdw10 ctw10),slw10⟩)
 (cw10:PySem.W.codeIn K cdw10 "Round.word" = true)
 (kw10:PySem.W.keepIn K (.ref fw10)=true)
 (fn10:PySem.W.isFn K (.ref fw10)=true)
 (pg10:PySem.W.plainGet K eK10 Str.empty=true)
 (hd10:PySem.W.hasDictIn K eK10=true)
 (po10:PySem.W.plainOver K eK10=true)
 (sa10:PySem.W.findIn K (.ref eK10) "__setattr__" = some (some (.builtin "object.__setattr__")))
 (ms10:PySem.W.makesIn K eK10=true)
 (in10:PySem.W.findIn K (.ref eK10) "__init__" = some (some (.builtin "object.__init__")))
 (kc10:PySem.W.keepIn K (.ref eK10)=true)
 (ta10:PySem.W.findIn K (.ref eK10) "__class__" = some (some (.builtin "object.__class__")))
 (tm10:PySem.W.mroIn K eK10 (.type "object")=some true)
 (iq10:PySem.W.kitOne K (.ref eK10) (.ref eK14)=some true)
 (mk10:(List.range 14).map (fun j=>PySem.W.kitOne K (.ref eK10) (.ref ([eK0,eK1,eK2,eK3,eK4,eK5,eK6,eK7,eK8,eK9,eK10,eK11,eK12,eK13,eK14].getD j 0)))=(List.range 14).map (fun j=>some (a5 10 j)))
 (zisinstance:PySem.W.nsIn K mainGlobals "isinstance" = some none)
 (zint:PySem.W.nsIn K mainGlobals "int" = some none)
 (zbool:PySem.W.nsIn K mainGlobals "bool" = some none)
 (zlist:PySem.W.nsIn K mainGlobals "list" = some none)
 (zlen:PySem.W.nsIn K mainGlobals "len" = some none)
 (zall:PySem.W.nsIn K mainGlobals "all" = some none)
 (zsum:PySem.W.nsIn K mainGlobals "sum" = some none)
 (zrange:PySem.W.nsIn K mainGlobals "range" = some none)
 (zmax:PySem.W.nsIn K mainGlobals "max" = some none)
 (zmin:PySem.W.nsIn K mainGlobals "min" = some none)
 (zset:PySem.W.nsIn K mainGlobals "set" = some none)
 (zsorted:PySem.W.nsIn K mainGlobals "sorted" = some none)
 (zzip:PySem.W.nsIn K mainGlobals "zip" = some none)
 (zany:PySem.W.nsIn K mainGlobals "any" = some none)
 (zdict:PySem.W.nsIn K mainGlobals "dict" = some none)
 (zreversed:PySem.W.nsIn K mainGlobals "reversed" = some none)
 (ztuple:PySem.W.nsIn K mainGlobals "tuple" = some none)
 (zM:True)
 (ii:PySem.W.kitOne K (.type "int") (.type "int")=some true) (ib:PySem.W.kitOne K (.type "int") (.type "bool")=some false) (ll:PySem.W.kitOne K (.type "list") (.type "list")=some true) (bb:PySem.W.kitOne K (.type "bool") (.type "bool")=some true) (tt:PySem.W.kitOne K (.type "tuple") (.type "tuple")=some true) :
 ∃fd:FuncData,(∀(s:Shared) (v:Value),BindsTo s fd ⟨[v],[]⟩ [("_law_script", v)])/\∀base:Heap,K.In base->base.Ns mainGlobals mg->FnOk l.prog w K mg base CX0 4 fa fd ["_law_script"] (spLaw K):=by
 have e:=hfa.symm.trans (PySem.W.mg_of X G aX);cases e;have B:Bi K mg:=⟨PySem.W.mg_none_of X G zisinstance,PySem.W.mg_none_of X G zint,PySem.W.mg_none_of X G zbool,PySem.W.mg_none_of X G zlist,PySem.W.mg_none_of X G zlen,PySem.W.mg_none_of X G zall,PySem.W.mg_none_of X G zsum,PySem.W.mg_none_of X G zrange,PySem.W.mg_none_of X G zmax,PySem.W.mg_none_of X G zmin,PySem.W.mg_none_of X G zset,PySem.W.mg_none_of X G zsorted,PySem.W.mg_none_of X G zzip,PySem.W.mg_none_of X G zany,PySem.W.mg_none_of X G zdict,PySem.W.mg_none_of X G zreversed,PySem.W.mg_none_of X G ztuple,ii,ib,ll,bb,tt⟩;have FKI:=bp (st:=br) (ps:=[]) X G aKI lKI cKI kKI fun _ _ _ _ _ _ us hl=>match us,hl with | [],_=>rfl
 have FKO:=bp (st:=aV) (ps:=["word"]) X G aKO lKO cKO kKO fun _ _ _ _ _ _ us hl=>match us,hl with | [_],_=>rfl
 have FM:=bp (st:=sMix) (ps:=["_law_number", "_law_k"]) X G aM lM cM kM fun _ _ _ _ _ _ us hl=>match us,hl with | [_,_],_=>rfl
 have FWS:=bp (st:=bg) (ps:=[]) X G aWS lWS cWS kWS fun _ _ _ _ _ _ us hl=>match us,hl with | [],_=>rfl
 have FLW:=bp (st:=bN) (ps:=["_law_cell"]) X G aLW lLW cLW kLW fun _ _ _ _ _ _ us hl=>match us,hl with | [_],_=>rfl
 have FMK:=bp (st:=bv) (ps:=["_law_kind"]) X G aMK lMK cMK kMK fun _ _ _ _ _ _ us hl=>match us,hl with | [_],_=>rfl
 have FIK:=bp (st:=aW) (ps:=["_law_kind", "_law_at"]) X G aIK lIK cIK kIK fun _ _ _ _ _ _ us hl=>match us,hl with | [_,_],_=>rfl
 have FRF:=bp (st:=aQ) (ps:=["_law_word_here"]) X G aRF lRF cRF kRF fun _ _ _ _ _ _ us hl=>match us,hl with | [_],_=>rfl
 have FX:=bp (st:=sLaw) (ps:=["_law_script"]) X G aX lX cX kX fun _ _ _ _ _ _ us hl=>match us,hl with | [_],_=>rfl
 have ENK:Err K mg "NoKind" eNK:=err_mk X G eaNK ecNK egNK ehNK eiNK ejNK ekNK;have ETE:Nam mg "TreeError" eTE:=⟨PySem.W.mg_of X G eaTE⟩;have ENT:Nam mg "NoTree" eNT:=⟨PySem.W.mg_of X G eaNT⟩;have ENP:Nam mg "NoPlace" eNP:=⟨PySem.W.mg_of X G eaNP⟩;have ENR:Nam mg "NoRoad" eNR:=⟨PySem.W.mg_of X G eaNR⟩;have ENS:Nam mg "NoSpot" eNS:=⟨PySem.W.mg_of X G eaNS⟩;have ENI:Nam mg "NoSite" eNI:=⟨PySem.W.mg_of X G eaNI⟩;have ENY:Nam mg "NoYard" eNY:=⟨PySem.W.mg_of X G eaNY⟩;have ENW:Nam mg "NoWorth" eNW:=⟨PySem.W.mg_of X G eaNW⟩;have ENG:Nam mg "NoGift" eNG:=⟨PySem.W.mg_of X G eaNG⟩;have ENX:Nam mg "NoText" eNX:=⟨PySem.W.mg_of X G eaNX⟩;have ENQ:Nam mg "NoQuestion" eNQ:=⟨PySem.W.mg_of X G eaNQ⟩;have ENO:Nam mg "NoRow" eNO:=⟨PySem.W.mg_of X G eaNO⟩;have ENN:Nam mg "NoName" eNN:=⟨PySem.W.mg_of X G eaNN⟩;have EK0:Nam mg "Middle" eK0:=⟨PySem.W.mg_of X G eaK0⟩;have EK1:Nam mg "Balance" eK1:=⟨PySem.W.mg_of X G eaK1⟩;have EK2:Nam mg "Wells" eK2:=⟨PySem.W.mg_of X G eaK2⟩;have EK3:Nam mg "Reach" eK3:=⟨PySem.W.mg_of X G eaK3⟩;have EK4:Nam mg "Spots" eK4:=⟨PySem.W.mg_of X G eaK4⟩;have EK5:Nam mg "Colours" eK5:=⟨PySem.W.mg_of X G eaK5⟩;have EK6:Nam mg "Worths" eK6:=⟨PySem.W.mg_of X G eaK6⟩;have EK7:Nam mg "Goods" eK7:=⟨PySem.W.mg_of X G eaK7⟩;have EK8:Nam mg "Walks" eK8:=⟨PySem.W.mg_of X G eaK8⟩;have EK9:Nam mg "Sweeps" eK9:=⟨PySem.W.mg_of X G eaK9⟩;have EK10:Nam mg "Round" eK10:=⟨PySem.W.mg_of X G eaK10⟩;have EK11:Nam mg "Digging" eK11:=⟨PySem.W.mg_of X G eaK11⟩;have EK12:Nam mg "Yards" eK12:=⟨PySem.W.mg_of X G eaK12⟩;have EK13:Nam mg "Sweeping" eK13:=⟨PySem.W.mg_of X G eaK13⟩;have EK14:Nam mg "Question" eK14:=⟨PySem.W.mg_of X G eaK14⟩;refine⟨PySem.W.fnOf "law" "law" (aa sLaw) (a8 sLaw) (a7 sLaw) .none kVX dcX pmX anX cdX ctX,fun s v=>.of_eq rfl,fun base _ _=>?_⟩;have hS:mg "str" = none:=PySem.W.mg_none_of X G zstr;have hVE:=PySem.W.mg_none_of X G zVE;have W0:Fun K "word" "Middle.word" (wSt 0) fw0 (PySem.W.fnOf "word" "Middle.word" (aa (wSt 0)) (a8 (wSt 0)) (a7 (wSt 0)) .none kVw0 dcw0 pmw0 anw0 cdw0 ctw0):=aK lw0 cw0 kw0;have W1:Fun K "word" "Balance.word" (wSt 1) fw1 (PySem.W.fnOf "word" "Balance.word" (aa (wSt 1)) (a8 (wSt 1)) (a7 (wSt 1)) .none kVw1 dcw1 pmw1 anw1 cdw1 ctw1):=aK lw1 cw1 kw1;have W2:Fun K "word" "Wells.word" (wSt 2) fw2 (PySem.W.fnOf "word" "Wells.word" (aa (wSt 2)) (a8 (wSt 2)) (a7 (wSt 2)) .none kVw2 dcw2 pmw2 anw2 cdw2 ctw2):=aK lw2 cw2 kw2;have W3:Fun K "word" "Reach.word" (wSt 3) fw3 (PySem.W.fnOf "word" "Reach.word" (aa (wSt 3)) (a8 (wSt 3)) (a7 (wSt 3)) .none kVw3 dcw3 pmw3 anw3 cdw3 ctw3):=aK lw3 cw3 kw3;have W4:Fun K "word" "Spots.word" (wSt 4) fw4 (PySem.W.fnOf "word" "Spots.word" (aa (wSt 4)) (a8 (wSt 4)) (a7 (wSt 4)) .none kVw4 dcw4 pmw4 anw4 cdw4 ctw4):=aK lw4 cw4 kw4;have W5:Fun K "word" "Colours.word" (wSt 5) fw5 (PySem.W.fnOf "word" "Colours.word" (aa (wSt 5)) (a8 (wSt 5)) (a7 (wSt 5)) .none kVw5 dcw5 pmw5 anw5 cdw5 ctw5):=aK lw5 cw5 kw5;have W6:Fun K "word" "Worths.word" (wSt 6) fw6 (PySem.W.fnOf "word" "Worths.word" (aa (wSt 6)) (a8 (wSt 6)) (a7 (wSt 6)) .none kVw6 dcw6 pmw6 anw6 cdw6 ctw6):=aK lw6 cw6 kw6;have W7:Fun K "word" "Goods.word" (wSt 7) fw7 (PySem.W.fnOf "word" "Goods.word" (aa (wSt 7)) (a8 (wSt 7)) (a7 (wSt 7)) .none kVw7 dcw7 pmw7 anw7 cdw7 ctw7):=aK lw7 cw7 kw7;have W8:Fun K "word" "Walks.word" (wSt 8) fw8 (PySem.W.fnOf "word" "Walks.word" (aa (wSt 8)) (a8 (wSt 8)) (a7 (wSt 8)) .none kVw8 dcw8 pmw8 anw8 cdw8 ctw8):=aK lw8 cw8 kw8;have W9:Fun K "word" "Sweeps.word" (wSt 9) fw9 (PySem.W.fnOf "word" "Sweeps.word" (aa (wSt 9)) (a8 (wSt 9)) (a7 (wSt 9)) .none kVw9 dcw9 pmw9 anw9 cdw9 ctw9):=aK lw9 cw9 kw9;have W10:Fun K "word" "Round.word" (wSt 10) fw10 (PySem.W.fnOf "word" "Round.word" (aa (wSt 10)) (a8 (wSt 10)) (a7 (wSt 10)) .none kVw10 dcw10 pmw10 anw10 cdw10 ctw10):=aK lw10 cw10 kw10;have TK:Kds K mg (fun i=>[eK0,eK1,eK2,eK3,eK4,eK5,eK6,eK7,eK8,eK9,eK10,eK11,eK12,eK13,eK14].getD i 0) (fun i=>[fw0,fw1,fw2,fw3,fw4,fw5,fw6,fw7,fw8,fw9,fw10].getD i 0) (fun i=>match i with | 0=>PySem.W.fnOf "word" "Middle.word" (aa (wSt 0)) (a8 (wSt 0)) (a7 (wSt 0)) .none kVw0 dcw0 pmw0 anw0 cdw0 ctw0 | 1=>PySem.W.fnOf "word" "Balance.word" (aa (wSt 1)) (a8 (wSt 1)) (a7 (wSt 1)) .none kVw1 dcw1 pmw1 anw1 cdw1 ctw1 | 2=>PySem.W.fnOf "word" "Wells.word" (aa (wSt 2)) (a8 (wSt 2)) (a7 (wSt 2)) .none kVw2 dcw2 pmw2 anw2 cdw2 ctw2 | 3=>PySem.W.fnOf "word" "Reach.word" (aa (wSt 3)) (a8 (wSt 3)) (a7 (wSt 3)) .none kVw3 dcw3 pmw3 anw3 cdw3 ctw3 | 4=>PySem.W.fnOf "word" "Spots.word" (aa (wSt 4)) (a8 (wSt 4)) (a7 (wSt 4)) .none kVw4 dcw4 pmw4 anw4 cdw4 ctw4 | 5=>PySem.W.fnOf "word" "Colours.word" (aa (wSt 5)) (a8 (wSt 5)) (a7 (wSt 5)) .none kVw5 dcw5 pmw5 anw5 cdw5 ctw5 | 6=>PySem.W.fnOf "word" "Worths.word" (aa (wSt 6)) (a8 (wSt 6)) (a7 (wSt 6)) .none kVw6 dcw6 pmw6 anw6 cdw6 ctw6 | 7=>PySem.W.fnOf "word" "Goods.word" (aa (wSt 7)) (a8 (wSt 7)) (a7 (wSt 7)) .none kVw7 dcw7 pmw7 anw7 cdw7 ctw7 | 8=>PySem.W.fnOf "word" "Walks.word" (aa (wSt 8)) (a8 (wSt 8)) (a7 (wSt 8)) .none kVw8 dcw8 pmw8 anw8 cdw8 ctw8 | 9=>PySem.W.fnOf "word" "Sweeps.word" (aa (wSt 9)) (a8 (wSt 9)) (a7 (wSt 9)) .none kVw9 dcw9 pmw9 anw9 cdw9 ctw9 | _=>PySem.W.fnOf "word" "Round.word" (aa (wSt 10)) (a8 (wSt 10)) (a7 (wSt 10)) .none kVw10 dcw10 pmw10 anw10 cdw10 ctw10):=⟨
  (fun i hi=>match i,hi with | 0,_=>EK0.mg | 1,_=>EK1.mg | 2,_=>EK2.mg | 3,_=>EK3.mg | 4,_=>EK4.mg | 5,_=>EK5.mg | 6,_=>EK6.mg | 7,_=>EK7.mg | 8,_=>EK8.mg | 9,_=>EK9.mg | 10,_=>EK10.mg | 11,_=>EK11.mg | 12,_=>EK12.mg | 13,_=>EK13.mg | 14,_=>EK14.mg | m+15,h=>absurd h (by omega)),
  (fun i hi=>match i,hi with | 0,_=>⟨pg0,hd0,po0,sa0⟩ | 1,_=>⟨pg1,hd1,po1,sa1⟩ | 2,_=>⟨pg2,hd2,po2,sa2⟩ | 3,_=>⟨pg3,hd3,po3,sa3⟩ | 4,_=>⟨pg4,hd4,po4,sa4⟩ | 5,_=>⟨pg5,hd5,po5,sa5⟩ | 6,_=>⟨pg6,hd6,po6,sa6⟩ | 7,_=>⟨pg7,hd7,po7,sa7⟩ | 8,_=>⟨pg8,hd8,po8,sa8⟩ | 9,_=>⟨pg9,hd9,po9,sa9⟩ | 10,_=>⟨pg10,hd10,po10,sa10⟩ | m+11,h=>absurd h (by omega)),
  (fun i hi=>match i,hi with | 0,_=>⟨ms0,in0,kc0⟩ | 1,_=>⟨ms1,in1,kc1⟩ | 2,_=>⟨ms2,in2,kc2⟩ | 3,_=>⟨ms3,in3,kc3⟩ | 4,_=>⟨ms4,in4,kc4⟩ | 5,_=>⟨ms5,in5,kc5⟩ | 6,_=>⟨ms6,in6,kc6⟩ | 7,_=>⟨ms7,in7,kc7⟩ | 8,_=>⟨ms8,in8,kc8⟩ | 9,_=>⟨ms9,in9,kc9⟩ | 10,_=>⟨ms10,in10,kc10⟩ | m+11,h=>absurd h (by omega)),
  (fun i hi=>match i,hi with | 0,_=>⟨mt0,fn0,kw0⟩ | 1,_=>⟨mt1,fn1,kw1⟩ | 2,_=>⟨mt2,fn2,kw2⟩ | 3,_=>⟨mt3,fn3,kw3⟩ | 4,_=>⟨mt4,fn4,kw4⟩ | 5,_=>⟨mt5,fn5,kw5⟩ | 6,_=>⟨mt6,fn6,kw6⟩ | 7,_=>⟨mt7,fn7,kw7⟩ | 8,_=>⟨mt8,fn8,kw8⟩ | 9,_=>⟨mt9,fn9,kw9⟩ | 10,_=>⟨mt10,fn10,kw10⟩ | m+11,h=>absurd h (by omega)),
  (fun i hi=>match i,hi with | 0,_=>W0 | 1,_=>W1 | 2,_=>W2 | 3,_=>W3 | 4,_=>W4 | 5,_=>W5 | 6,_=>W6 | 7,_=>W7 | 8,_=>W8 | 9,_=>W9 | 10,_=>W10 | m+11,h=>absurd h (by omega)),
  (fun i hi=>match i,hi with | 0,_=>W0.binds (fun _ _ _ _ _ _ us hl=>match us,hl with | [_],_=>rfl) | 1,_=>W1.binds (fun _ _ _ _ _ _ us hl=>match us,hl with | [_],_=>rfl) | 2,_=>W2.binds (fun _ _ _ _ _ _ us hl=>match us,hl with | [_],_=>rfl) | 3,_=>W3.binds (fun _ _ _ _ _ _ us hl=>match us,hl with | [_],_=>rfl) | 4,_=>W4.binds (fun _ _ _ _ _ _ us hl=>match us,hl with | [_],_=>rfl) | 5,_=>W5.binds (fun _ _ _ _ _ _ us hl=>match us,hl with | [_],_=>rfl) | 6,_=>W6.binds (fun _ _ _ _ _ _ us hl=>match us,hl with | [_],_=>rfl) | 7,_=>W7.binds (fun _ _ _ _ _ _ us hl=>match us,hl with | [_],_=>rfl) | 8,_=>W8.binds (fun _ _ _ _ _ _ us hl=>match us,hl with | [_],_=>rfl) | 9,_=>W9.binds (fun _ _ _ _ _ _ us hl=>match us,hl with | [_],_=>rfl) | 10,_=>W10.binds (fun _ _ _ _ _ _ us hl=>match us,hl with | [_],_=>rfl) | m+11,h=>absurd h (by omega)),
  (fun i hi=>match i,hi with | 0,_=>ta0 | 1,_=>ta1 | 2,_=>ta2 | 3,_=>ta3 | 4,_=>ta4 | 5,_=>ta5 | 6,_=>ta6 | 7,_=>ta7 | 8,_=>ta8 | 9,_=>ta9 | 10,_=>ta10 | m+11,h=>absurd h (by omega)),
  tn,
  tkk,
  (fun i hi=>match i,hi with | 0,_=>tm0 | 1,_=>tm1 | 2,_=>tm2 | 3,_=>tm3 | 4,_=>tm4 | 5,_=>tm5 | 6,_=>tm6 | 7,_=>tm7 | 8,_=>tm8 | 9,_=>tm9 | 10,_=>tm10 | m+11,h=>absurd h (by omega)),
  (fun i hi=>match i,hi with | 0,_=>iq0 | 1,_=>iq1 | 2,_=>iq2 | 3,_=>iq3 | 4,_=>iq4 | 5,_=>iq5 | 6,_=>iq6 | 7,_=>iq7 | 8,_=>iq8 | 9,_=>iq9 | 10,_=>iq10 | m+11,h=>absurd h (by omega)),
  (fun i hi=>match i,hi with | 0,_=>fun j hj=>aR mk0 hj | 1,_=>fun j hj=>aR mk1 hj | 2,_=>fun j hj=>aR mk2 hj | 3,_=>fun j hj=>aR mk3 hj | 4,_=>fun j hj=>aR mk4 hj | 5,_=>fun j hj=>aR mk5 hj | 6,_=>fun j hj=>aR mk6 hj | 7,_=>fun j hj=>aR mk7 hj | 8,_=>fun j hj=>aR mk8 hj | 9,_=>fun j hj=>aR mk9 hj | 10,_=>fun j hj=>aR mk10 hj | m+11,h=>absurd h (by omega))⟩
 have GKO:=ok_kindof (P:=l.prog) (w:=w) (base:=base) FKO FKI ENK TK;have GRF:=ok_ref81 (P:=l.prog) (w:=w) (base:=base) FRF FKO GKO ETE ENT ENP ENR ENS ENI ENY ENW ENG ENK ENQ ENO ENN ENX hVE ⟨c0,c1,c2,c3,c4,c5,c6⟩ B;exact ok_law FX FKI FIK FLW FWS FKO FRF (ok_iskind FIK FMK FWS TK hS sS B) (ok_lword FLW FWS FM B) GKO GRF TK B
end Tw
open PySem PySem.W PyProof.Rows
set_option maxRecDepth 100000 in
set_option maxHeartbeats 0 in
theorem PySem.Challenge.cw_treewells_k81_the_eleven_kinds_holds : PySem.Challenge.rw_treewells_k81_the_eleven_kinds.Holds := by
 w_on;o_law
 refine PySem.W.holds_open (q:=KH.kView) (loose:=[]) (N:=9917)
  (XP:=PySem.W.XL KH.kView []) (Xt:=(fun s=>PySem.W.xlAt KH.kView [] s&&PySem.W.recOk (PySem.W.RowW.records (PySem.W.OpenRow.toRowW PySem.Challenge.rw_treewells_k81_the_eleven_kinds.row)) s))
  (Yf:=(PySem.W.kHook KH.kHeap KH.kAddrs KH.kAddrs_eq).obs) (Ya:=(PySem.W.kHook KH.kHeap KH.kAddrs KH.kAddrs_eq).val) (YP:=(PySem.W.kHook KH.kHeap KH.kAddrs KH.kAddrs_eq).says)
  KH.kLeft (PySem.W.Hook.of _) (PySem.W.Hook.keeps _)
  (fun s e=>PySem.W.xl_of s (Bool.and_eq_true_iff.mp e).1)
  PySem.W.XL.keeps (by rfl) (by rfl) (by rfl)
  (fun s e=>PySem.W.recFacts_of (Bool.and_eq_true_iff.mp e).2)
  (by rfl) (by first | assumption | decide +kernel)
  (by decide +kernel) ⟨rfl,rfl,rfl,rfl,rfl,by decide +kernel⟩ ?hw ?hc
 (case hw=>w_witness2)
 k_fill
 refine L2.walk_bits (l:=PySem.Challenge.rw_treewells_k81_the_eleven_kinds) (n:=63) (k:=4) (x := "_law_script") (CX:=L2.CX0) (sp:=Tw.spLaw) rfl (by decide) rfl ⟨rfl,by decide,by decide⟩ (fun w h Y=>PySem.W.kIn_of Y) ?F ?S ?C
 case S=>exact fun K H a ns hl hb _ hS=>⟨a,ns,rfl,hS,hb,hl,fun _=>rfl⟩
 case C=>exact fun _ _ _ _ z=>z
 case F =>
  intro w mg fa h KX G hmg;refine' Tw.all_mk KX G hmg ?aKI ?lKI ?cKI ?kKI ?aKO ?lKO ?cKO ?kKO ?aM ?lM ?cM ?kM ?aWS ?lWS ?cWS ?kWS ?aLW ?lLW ?cLW ?kLW ?aMK ?lMK ?cMK ?kMK ?aIK ?lIK ?cIK ?kIK ?aRF ?lRF ?cRF ?kRF ?aX ?lX ?cX ?kX ?eaNK ?ecNK ?egNK ?ehNK ?eiNK ?ejNK ?ekNK ?eaTE ?eaNT ?eaNP ?eaNR ?eaNS ?eaNI ?eaNY ?eaNW ?eaNG ?eaNX ?eaNQ ?eaNO ?eaNN ?eaK0 ?eaK1 ?eaK2 ?eaK3 ?eaK4 ?eaK5 ?eaK6 ?eaK7 ?eaK8 ?eaK9 ?eaK10 ?eaK11 ?eaK12 ?eaK13 ?eaK14 ?zstr ?zVE ?sS ?c0 ?c1 ?c2 ?c3 ?c4 ?c5 ?c6 ?tn ?tkk ?mt0 ?lw0 ?cw0 ?kw0 ?fn0 ?pg0 ?hd0 ?po0 ?sa0 ?ms0 ?in0 ?kc0 ?ta0 ?tm0 ?iq0 ?mk0 ?mt1 ?lw1 ?cw1 ?kw1 ?fn1 ?pg1 ?hd1 ?po1 ?sa1 ?ms1 ?in1 ?kc1 ?ta1 ?tm1 ?iq1 ?mk1 ?mt2 ?lw2 ?cw2 ?kw2 ?fn2 ?pg2 ?hd2 ?po2 ?sa2 ?ms2 ?in2 ?kc2 ?ta2 ?tm2 ?iq2 ?mk2 ?mt3 ?lw3 ?cw3 ?kw3 ?fn3 ?pg3 ?hd3 ?po3 ?sa3 ?ms3 ?in3 ?kc3 ?ta3 ?tm3 ?iq3 ?mk3 ?mt4 ?lw4 ?cw4 ?kw4 ?fn4 ?pg4 ?hd4 ?po4 ?sa4 ?ms4 ?in4 ?kc4 ?ta4 ?tm4 ?iq4 ?mk4 ?mt5 ?lw5 ?cw5 ?kw5 ?fn5 ?pg5 ?hd5 ?po5 ?sa5 ?ms5 ?in5 ?kc5 ?ta5 ?tm5 ?iq5 ?mk5 ?mt6 ?lw6 ?cw6 ?kw6 ?fn6 ?pg6 ?hd6 ?po6 ?sa6 ?ms6 ?in6 ?kc6 ?ta6 ?tm6 ?iq6 ?mk6 ?mt7 ?lw7 ?cw7 ?kw7 ?fn7 ?pg7 ?hd7 ?po7 ?sa7 ?ms7 ?in7 ?kc7 ?ta7 ?tm7 ?iq7 ?mk7 ?mt8 ?lw8 ?cw8 ?kw8 ?fn8 ?pg8 ?hd8 ?po8 ?sa8 ?ms8 ?in8 ?kc8 ?ta8 ?tm8 ?iq8 ?mk8 ?mt9 ?lw9 ?cw9 ?kw9 ?fn9 ?pg9 ?hd9 ?po9 ?sa9 ?ms9 ?in9 ?kc9 ?ta9 ?tm9 ?iq9 ?mk9 ?mt10 ?lw10 ?cw10 ?kw10 ?fn10 ?pg10 ?hd10 ?po10 ?sa10 ?ms10 ?in10 ?kc10 ?ta10 ?tm10 ?iq10 ?mk10 ?zisinstance ?zint ?zbool ?zlist ?zlen ?zall ?zsum ?zrange ?zmax ?zmin ?zset ?zsorted ?zzip ?zany ?zdict ?zreversed ?ztuple ?zM ?ii ?ib ?ll ?bb ?tt
  (case aKI=>k_is)
  (case lKI=>k_is)
  (case cKI=>k_is)
  (case kKI=>k_is)
  (case aKO=>k_is)
  (case lKO=>k_is)
  (case cKO=>k_is)
  (case kKO=>k_is)
  (case aM=>k_is)
  (case lM=>k_is)
  (case cM=>k_is)
  (case kM=>k_is)
  (case aWS=>k_is)
  (case lWS=>k_is)
  (case cWS=>k_is)
  (case kWS=>k_is)
  (case aLW=>k_is)
  (case lLW=>k_is)
  (case cLW=>k_is)
  (case kLW=>k_is)
  (case aMK=>k_is)
  (case lMK=>k_is)
  (case cMK=>k_is)
  (case kMK=>k_is)
  (case aIK=>k_is)
  (case lIK=>k_is)
  (case cIK=>k_is)
  (case kIK=>k_is)
  (case aRF=>k_is)
  (case lRF=>k_is)
  (case cRF=>k_is)
  (case kRF=>k_is)
  (case aX=>k_is)
  (case lX=>k_is)
  (case cX=>k_is)
  (case kX=>k_is)
  (case eaNK=>k_is)
  (case ecNK=>first | k_is | kernel_rfl | rfl | decide +kernel)
  (case egNK=>first | k_is | kernel_rfl | rfl | decide +kernel)
  (case ehNK=>first | k_is | kernel_rfl | rfl | decide +kernel)
  (case eiNK=>first | k_is | kernel_rfl | rfl | decide +kernel)
  (case ejNK=>first | k_is | kernel_rfl | rfl | decide +kernel)
  (case ekNK=>first | k_is | kernel_rfl | rfl | decide +kernel)
  (case eaTE=>k_is)
  (case eaNT=>k_is)
  (case eaNP=>k_is)
  (case eaNR=>k_is)
  (case eaNS=>k_is)
  (case eaNI=>k_is)
  (case eaNY=>k_is)
  (case eaNW=>k_is)
  (case eaNG=>k_is)
  (case eaNX=>k_is)
  (case eaNQ=>k_is)
  (case eaNO=>k_is)
  (case eaNN=>k_is)
  (case eaK0=>k_is)
  (case eaK1=>k_is)
  (case eaK2=>k_is)
  (case eaK3=>k_is)
  (case eaK4=>k_is)
  (case eaK5=>k_is)
  (case eaK6=>k_is)
  (case eaK7=>k_is)
  (case eaK8=>k_is)
  (case eaK9=>k_is)
  (case eaK10=>k_is)
  (case eaK11=>k_is)
  (case eaK12=>k_is)
  (case eaK13=>k_is)
  (case eaK14=>k_is)
  (case zstr=>first | k_is | kernel_rfl | rfl | decide +kernel)
  (case zVE=>first | k_is | kernel_rfl | rfl | decide +kernel)
  (case sS=>first | k_is | kernel_rfl | rfl | decide +kernel)
  (case c0=>first | k_is | kernel_rfl | rfl | decide +kernel)
  (case c1=>first | k_is | kernel_rfl | rfl | decide +kernel)
  (case c2=>first | k_is | kernel_rfl | rfl | decide +kernel)
  (case c3=>first | k_is | kernel_rfl | rfl | decide +kernel)
  (case c4=>first | k_is | kernel_rfl | rfl | decide +kernel)
  (case c5=>first | k_is | kernel_rfl | rfl | decide +kernel)
  (case c6=>first | k_is | kernel_rfl | rfl | decide +kernel)
  (case tn=>first | k_is | kernel_rfl | rfl | decide +kernel)
  (case tkk=>first | k_is | kernel_rfl | rfl | decide +kernel)
  (case mt0=>first | k_is | kernel_rfl | rfl | decide +kernel)
  (case lw0=>first | k_is | kernel_rfl | rfl | decide +kernel)
  (case cw0=>first | k_is | kernel_rfl | rfl | decide +kernel)
  (case kw0=>first | k_is | kernel_rfl | rfl | decide +kernel)
  (case fn0=>first | k_is | kernel_rfl | rfl | decide +kernel)
  (case pg0=>first | k_is | kernel_rfl | rfl | decide +kernel)
  (case hd0=>first | k_is | kernel_rfl | rfl | decide +kernel)
  (case po0=>first | k_is | kernel_rfl | rfl | decide +kernel)
  (case sa0=>first | k_is | kernel_rfl | rfl | decide +kernel)
  (case ms0=>first | k_is | kernel_rfl | rfl | decide +kernel)
  (case in0=>first | k_is | kernel_rfl | rfl | decide +kernel)
  (case kc0=>first | k_is | kernel_rfl | rfl | decide +kernel)
  (case ta0=>first | k_is | kernel_rfl | rfl | decide +kernel)
  (case tm0=>first | k_is | kernel_rfl | rfl | decide +kernel)
  (case iq0=>first | k_is | kernel_rfl | rfl | decide +kernel)
  (case mk0=>first | k_is | kernel_rfl | rfl | decide +kernel)
  (case mt1=>first | k_is | kernel_rfl | rfl | decide +kernel)
  (case lw1=>first | k_is | kernel_rfl | rfl | decide +kernel)
  (case cw1=>first | k_is | kernel_rfl | rfl | decide +kernel)
  (case kw1=>first | k_is | kernel_rfl | rfl | decide +kernel)
  (case fn1=>first | k_is | kernel_rfl | rfl | decide +kernel)
  (case pg1=>first | k_is | kernel_rfl | rfl | decide +kernel)
  (case hd1=>first | k_is | kernel_rfl | rfl | decide +kernel)
  (case po1=>first | k_is | kernel_rfl | rfl | decide +kernel)
  (case sa1=>first | k_is | kernel_rfl | rfl | decide +kernel)
  (case ms1=>first | k_is | kernel_rfl | rfl | decide +kernel)
  (case in1=>first | k_is | kernel_rfl | rfl | decide +kernel)
  (case kc1=>first | k_is | kernel_rfl | rfl | decide +kernel)
  (case ta1=>first | k_is | kernel_rfl | rfl | decide +kernel)
  (case tm1=>first | k_is | kernel_rfl | rfl | decide +kernel)
  (case iq1=>first | k_is | kernel_rfl | rfl | decide +kernel)
  (case mk1=>first | k_is | kernel_rfl | rfl | decide +kernel)
  (case mt2=>first | k_is | kernel_rfl | rfl | decide +kernel)
  (case lw2=>first | k_is | kernel_rfl | rfl | decide +kernel)
  (case cw2=>first | k_is | kernel_rfl | rfl | decide +kernel)
  (case kw2=>first | k_is | kernel_rfl | rfl | decide +kernel)
  (case fn2=>first | k_is | kernel_rfl | rfl | decide +kernel)
  (case pg2=>first | k_is | kernel_rfl | rfl | decide +kernel)
  (case hd2=>first | k_is | kernel_rfl | rfl | decide +kernel)
  (case po2=>first | k_is | kernel_rfl | rfl | decide +kernel)
  (case sa2=>first | k_is | kernel_rfl | rfl | decide +kernel)
  (case ms2=>first | k_is | kernel_rfl | rfl | decide +kernel)
  (case in2=>first | k_is | kernel_rfl | rfl | decide +kernel)
  (case kc2=>first | k_is | kernel_rfl | rfl | decide +kernel)
  (case ta2=>first | k_is | kernel_rfl | rfl | decide +kernel)
  (case tm2=>first | k_is | kernel_rfl | rfl | decide +kernel)
  (case iq2=>first | k_is | kernel_rfl | rfl | decide +kernel)
  (case mk2=>first | k_is | kernel_rfl | rfl | decide +kernel)
  (case mt3=>first | k_is | kernel_rfl | rfl | decide +kernel)
  (case lw3=>first | k_is | kernel_rfl | rfl | decide +kernel)
  (case cw3=>first | k_is | kernel_rfl | rfl | decide +kernel)
  (case kw3=>first | k_is | kernel_rfl | rfl | decide +kernel)
  (case fn3=>first | k_is | kernel_rfl | rfl | decide +kernel)
  (case pg3=>first | k_is | kernel_rfl | rfl | decide +kernel)
  (case hd3=>first | k_is | kernel_rfl | rfl | decide +kernel)
  (case po3=>first | k_is | kernel_rfl | rfl | decide +kernel)
  (case sa3=>first | k_is | kernel_rfl | rfl | decide +kernel)
  (case ms3=>first | k_is | kernel_rfl | rfl | decide +kernel)
  (case in3=>first | k_is | kernel_rfl | rfl | decide +kernel)
  (case kc3=>first | k_is | kernel_rfl | rfl | decide +kernel)
  (case ta3=>first | k_is | kernel_rfl | rfl | decide +kernel)
  (case tm3=>first | k_is | kernel_rfl | rfl | decide +kernel)
  (case iq3=>first | k_is | kernel_rfl | rfl | decide +kernel)
  (case mk3=>first | k_is | kernel_rfl | rfl | decide +kernel)
  (case mt4=>first | k_is | kernel_rfl | rfl | decide +kernel)
  (case lw4=>first | k_is | kernel_rfl | rfl | decide +kernel)
  (case cw4=>first | k_is | kernel_rfl | rfl | decide +kernel)
  (case kw4=>first | k_is | kernel_rfl | rfl | decide +kernel)
  (case fn4=>first | k_is | kernel_rfl | rfl | decide +kernel)
  (case pg4=>first | k_is | kernel_rfl | rfl | decide +kernel)
  (case hd4=>first | k_is | kernel_rfl | rfl | decide +kernel)
  (case po4=>first | k_is | kernel_rfl | rfl | decide +kernel)
  (case sa4=>first | k_is | kernel_rfl | rfl | decide +kernel)
  (case ms4=>first | k_is | kernel_rfl | rfl | decide +kernel)
  (case in4=>first | k_is | kernel_rfl | rfl | decide +kernel)
  (case kc4=>first | k_is | kernel_rfl | rfl | decide +kernel)
  (case ta4=>first | k_is | kernel_rfl | rfl | decide +kernel)
  (case tm4=>first | k_is | kernel_rfl | rfl | decide +kernel)
  (case iq4=>first | k_is | kernel_rfl | rfl | decide +kernel)
  (case mk4=>first | k_is | kernel_rfl | rfl | decide +kernel)
  (case mt5=>first | k_is | kernel_rfl | rfl | decide +kernel)
  (case lw5=>first | k_is | kernel_rfl | rfl | decide +kernel)
  (case cw5=>first | k_is | kernel_rfl | rfl | decide +kernel)
  (case kw5=>first | k_is | kernel_rfl | rfl | decide +kernel)
  (case fn5=>first | k_is | kernel_rfl | rfl | decide +kernel)
  (case pg5=>first | k_is | kernel_rfl | rfl | decide +kernel)
  (case hd5=>first | k_is | kernel_rfl | rfl | decide +kernel)
  (case po5=>first | k_is | kernel_rfl | rfl | decide +kernel)
  (case sa5=>first | k_is | kernel_rfl | rfl | decide +kernel)
  (case ms5=>first | k_is | kernel_rfl | rfl | decide +kernel)
  (case in5=>first | k_is | kernel_rfl | rfl | decide +kernel)
  (case kc5=>first | k_is | kernel_rfl | rfl | decide +kernel)
  (case ta5=>first | k_is | kernel_rfl | rfl | decide +kernel)
  (case tm5=>first | k_is | kernel_rfl | rfl | decide +kernel)
  (case iq5=>first | k_is | kernel_rfl | rfl | decide +kernel)
  (case mk5=>first | k_is | kernel_rfl | rfl | decide +kernel)
  (case mt6=>first | k_is | kernel_rfl | rfl | decide +kernel)
  (case lw6=>first | k_is | kernel_rfl | rfl | decide +kernel)
  (case cw6=>first | k_is | kernel_rfl | rfl | decide +kernel)
  (case kw6=>first | k_is | kernel_rfl | rfl | decide +kernel)
  (case fn6=>first | k_is | kernel_rfl | rfl | decide +kernel)
  (case pg6=>first | k_is | kernel_rfl | rfl | decide +kernel)
  (case hd6=>first | k_is | kernel_rfl | rfl | decide +kernel)
  (case po6=>first | k_is | kernel_rfl | rfl | decide +kernel)
  (case sa6=>first | k_is | kernel_rfl | rfl | decide +kernel)
  (case ms6=>first | k_is | kernel_rfl | rfl | decide +kernel)
  (case in6=>first | k_is | kernel_rfl | rfl | decide +kernel)
  (case kc6=>first | k_is | kernel_rfl | rfl | decide +kernel)
  (case ta6=>first | k_is | kernel_rfl | rfl | decide +kernel)
  (case tm6=>first | k_is | kernel_rfl | rfl | decide +kernel)
  (case iq6=>first | k_is | kernel_rfl | rfl | decide +kernel)
  (case mk6=>first | k_is | kernel_rfl | rfl | decide +kernel)
  (case mt7=>first | k_is | kernel_rfl | rfl | decide +kernel)
  (case lw7=>first | k_is | kernel_rfl | rfl | decide +kernel)
  (case cw7=>first | k_is | kernel_rfl | rfl | decide +kernel)
  (case kw7=>first | k_is | kernel_rfl | rfl | decide +kernel)
  (case fn7=>first | k_is | kernel_rfl | rfl | decide +kernel)
  (case pg7=>first | k_is | kernel_rfl | rfl | decide +kernel)
  (case hd7=>first | k_is | kernel_rfl | rfl | decide +kernel)
  (case po7=>first | k_is | kernel_rfl | rfl | decide +kernel)
  (case sa7=>first | k_is | kernel_rfl | rfl | decide +kernel)
  (case ms7=>first | k_is | kernel_rfl | rfl | decide +kernel)
  (case in7=>first | k_is | kernel_rfl | rfl | decide +kernel)
  (case kc7=>first | k_is | kernel_rfl | rfl | decide +kernel)
  (case ta7=>first | k_is | kernel_rfl | rfl | decide +kernel)
  (case tm7=>first | k_is | kernel_rfl | rfl | decide +kernel)
  (case iq7=>first | k_is | kernel_rfl | rfl | decide +kernel)
  (case mk7=>first | k_is | kernel_rfl | rfl | decide +kernel)
  (case mt8=>first | k_is | kernel_rfl | rfl | decide +kernel)
  (case lw8=>first | k_is | kernel_rfl | rfl | decide +kernel)
  (case cw8=>first | k_is | kernel_rfl | rfl | decide +kernel)
  (case kw8=>first | k_is | kernel_rfl | rfl | decide +kernel)
  (case fn8=>first | k_is | kernel_rfl | rfl | decide +kernel)
  (case pg8=>first | k_is | kernel_rfl | rfl | decide +kernel)
  (case hd8=>first | k_is | kernel_rfl | rfl | decide +kernel)
  (case po8=>first | k_is | kernel_rfl | rfl | decide +kernel)
  (case sa8=>first | k_is | kernel_rfl | rfl | decide +kernel)
  (case ms8=>first | k_is | kernel_rfl | rfl | decide +kernel)
  (case in8=>first | k_is | kernel_rfl | rfl | decide +kernel)
  (case kc8=>first | k_is | kernel_rfl | rfl | decide +kernel)
  (case ta8=>first | k_is | kernel_rfl | rfl | decide +kernel)
  (case tm8=>first | k_is | kernel_rfl | rfl | decide +kernel)
  (case iq8=>first | k_is | kernel_rfl | rfl | decide +kernel)
  (case mk8=>first | k_is | kernel_rfl | rfl | decide +kernel)
  (case mt9=>first | k_is | kernel_rfl | rfl | decide +kernel)
  (case lw9=>first | k_is | kernel_rfl | rfl | decide +kernel)
  (case cw9=>first | k_is | kernel_rfl | rfl | decide +kernel)
  (case kw9=>first | k_is | kernel_rfl | rfl | decide +kernel)
  (case fn9=>first | k_is | kernel_rfl | rfl | decide +kernel)
  (case pg9=>first | k_is | kernel_rfl | rfl | decide +kernel)
  (case hd9=>first | k_is | kernel_rfl | rfl | decide +kernel)
  (case po9=>first | k_is | kernel_rfl | rfl | decide +kernel)
  (case sa9=>first | k_is | kernel_rfl | rfl | decide +kernel)
  (case ms9=>first | k_is | kernel_rfl | rfl | decide +kernel)
  (case in9=>first | k_is | kernel_rfl | rfl | decide +kernel)
  (case kc9=>first | k_is | kernel_rfl | rfl | decide +kernel)
  (case ta9=>first | k_is | kernel_rfl | rfl | decide +kernel)
  (case tm9=>first | k_is | kernel_rfl | rfl | decide +kernel)
  (case iq9=>first | k_is | kernel_rfl | rfl | decide +kernel)
  (case mk9=>first | k_is | kernel_rfl | rfl | decide +kernel)
  (case mt10=>first | k_is | kernel_rfl | rfl | decide +kernel)
  (case lw10=>first | k_is | kernel_rfl | rfl | decide +kernel)
  (case cw10=>first | k_is | kernel_rfl | rfl | decide +kernel)
  (case kw10=>first | k_is | kernel_rfl | rfl | decide +kernel)
  (case fn10=>first | k_is | kernel_rfl | rfl | decide +kernel)
  (case pg10=>first | k_is | kernel_rfl | rfl | decide +kernel)
  (case hd10=>first | k_is | kernel_rfl | rfl | decide +kernel)
  (case po10=>first | k_is | kernel_rfl | rfl | decide +kernel)
  (case sa10=>first | k_is | kernel_rfl | rfl | decide +kernel)
  (case ms10=>first | k_is | kernel_rfl | rfl | decide +kernel)
  (case in10=>first | k_is | kernel_rfl | rfl | decide +kernel)
  (case kc10=>first | k_is | kernel_rfl | rfl | decide +kernel)
  (case ta10=>first | k_is | kernel_rfl | rfl | decide +kernel)
  (case tm10=>first | k_is | kernel_rfl | rfl | decide +kernel)
  (case iq10=>first | k_is | kernel_rfl | rfl | decide +kernel)
  (case mk10=>first | k_is | kernel_rfl | rfl | decide +kernel)
  (case zisinstance=>k_is)
  (case zint=>k_is)
  (case zbool=>k_is)
  (case zlist=>k_is)
  (case zlen=>k_is)
  (case zall=>k_is)
  (case zsum=>k_is)
  (case zrange=>k_is)
  (case zmax=>k_is)
  (case zmin=>k_is)
  (case zset=>k_is)
  (case zsorted=>k_is)
  (case zzip=>k_is)
  (case zany=>k_is)
  (case zdict=>k_is)
  (case zreversed=>k_is)
  (case ztuple=>k_is)
  (case zM=>trivial)
  (case ii=>first | k_is | kernel_rfl | rfl | decide +kernel)
  (case ib=>first | k_is | kernel_rfl | rfl | decide +kernel)
  (case ll=>first | k_is | kernel_rfl | rfl | decide +kernel)
  (case bb=>first | k_is | kernel_rfl | rfl | decide +kernel)
  (case tt=>first | k_is | kernel_rfl | rfl | decide +kernel)
